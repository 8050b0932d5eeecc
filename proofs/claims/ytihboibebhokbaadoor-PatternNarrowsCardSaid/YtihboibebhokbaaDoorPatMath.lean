/- The plain mathematics of layer 3 (pattern): parts, patterns, captures, intersections, bindings. No program. -/
import Derived.Test.YtihboibebhokbaaDoorPathMath
namespace Go.Proofs.YtihboibebhokbaaDoor.Pt
open Go

/-- A pattern: its parts, and whether it has Rest. -/
structure Pat where
  parts : List (List UInt8)
  rest : Bool
theorem Pat.ext' {p q : Pat} (h1 : p.parts = q.parts) (h2 : p.rest = q.rest) : p = q := by
  cases p
  cases q
  simp only at h1 h2
  rw [h1, h2]

/-- A wildcard's suffix. -/
def star : List UInt8 → Option (List UInt8)
  | [] => none
  | c :: s => if c = 42 ∧ s.all Pm.nb = true then some s else none
def isStar (x : List UInt8) : Bool := (star x).isSome
def part (x : List UInt8) : Bool := isStar x || Pm.comp x
theorem star_cons (c : UInt8) (r : List UInt8) : star (c :: r) = if c = 42 ∧ r.all Pm.nb = true then some r else none := rfl
theorem star_some {x s : List UInt8} : star x = some s ↔ x = 42 :: s ∧ s.all Pm.nb = true := by
  cases x with
  | nil => simp [star]
  | cons c r =>
    rw [star_cons]
    by_cases h : c = 42 ∧ r.all Pm.nb = true
    · rw [if_pos h]
      obtain ⟨rfl, h⟩ := h
      constructor
      · intro e
        injection e with e
        subst e
        exact ⟨rfl, h⟩
      · rintro ⟨e, _⟩
        injection e with _ e
        rw [e]
    · rw [if_neg h]
      constructor
      · intro e; cases e
      · rintro ⟨e, h2⟩
        injection e with e1 e2
        subst e1 e2
        exact absurd ⟨rfl, h2⟩ h
theorem star_mk {s : List UInt8} (h : s.all Pm.nb = true) : star (42 :: s) = some s := star_some.2 ⟨rfl, h⟩
theorem comp_nb {x : List UInt8} (h : Pm.comp x = true) : x.all Pm.nb = true := by
  cases x with
  | nil => rfl
  | cons c r =>
    simp only [Pm.comp, Bool.and_eq_true] at h
    exact h.2
theorem comp_star {x : List UInt8} (h : Pm.comp x = true) : star x = none := by
  cases x with
  | nil => rfl
  | cons c r =>
    have := comp_nb h
    simp only [List.all_cons, Bool.and_eq_true] at this
    rw [star_cons, if_neg]
    rintro ⟨rfl, _⟩
    exact absurd this.1 (by decide)
theorem part_cases {x : List UInt8} (h : part x = true) : (∃ s, star x = some s ∧ x = 42 :: s ∧ s.all Pm.nb = true) ∨ (star x = none ∧ Pm.comp x = true) := by
  unfold part isStar at h
  cases hs : star x with
  | none =>
    rw [hs] at h
    exact .inr ⟨rfl, by simpa using h⟩
  | some s => exact .inl ⟨s, rfl, star_some.1 hs⟩
theorem part_star {x s : List UInt8} (h : star x = some s) : part x = true := by unfold part isStar; rw [h]; rfl
theorem part_comp {x : List UInt8} (h : Pm.comp x = true) : part x = true := by unfold part; rw [h]; simp
theorem comp_append {x s : List UInt8} (h : Pm.comp x = true) (hs : s.all Pm.nb = true) : Pm.comp (x ++ s) = true := by
  cases x with
  | nil => cases h
  | cons c r =>
    simp only [Pm.comp, Bool.and_eq_true, List.cons_append, List.all_cons, List.all_append] at h ⊢
    exact ⟨h.1, h.2.1, h.2.2, hs⟩
theorem part_slash {x : List UInt8} (h : part x = true) : ∀ c ∈ x, c ≠ 47 := by
  rcases part_cases h with ⟨s, _, rfl, hs⟩ | ⟨_, hc⟩
  · intro c hc
    rcases List.mem_cons.1 hc with rfl | hc
    · decide
    · exact Pm.nb_slash (List.all_eq_true.1 hs c hc)
  · exact Pm.comp_slash hc
theorem part_dots {x : List UInt8} (h : part x = true) : x ≠ [46, 46, 46] := by
  rintro rfl
  exact absurd h (by decide)

/-- Well formed, but for the number of parts. -/
def form (p : Pat) : Bool := (decide (2 ≤ p.parts.length) || (decide (p.parts.length = 1) && p.rest)) && Pm.comp (p.parts.headD []) && p.parts.tail.all part
def check (p : Pat) : Nat := if form p then (if p.parts.length ≤ 12 then 0 else 31) else 30
theorem check_ok {p : Pat} : check p = 0 ↔ form p = true ∧ p.parts.length ≤ 12 := by
  unfold check
  split
  · rename_i h
    split
    · rename_i h2; exact ⟨fun _ => ⟨h, h2⟩, fun _ => rfl⟩
    · rename_i h2; exact ⟨fun h => by simp at h, fun h => absurd h.2 h2⟩
  · rename_i h
    exact ⟨fun h => by simp at h, fun h2 => absurd h2.1 h⟩
theorem check_cases (p : Pat) : check p = 0 ∨ check p = 30 ∨ check p = 31 := by
  unfold check
  split
  · split
    · exact .inl rfl
    · exact .inr (.inr rfl)
  · exact .inr (.inl rfl)
theorem form_iff {p : Pat} : form p = true ↔ ∃ x r, p.parts = x :: r ∧ (r ≠ [] ∨ p.rest = true) ∧ Pm.comp x = true ∧ ∀ y ∈ r, part y = true := by
  obtain ⟨l, b⟩ := p
  unfold form
  cases l with
  | nil => simp
  | cons x r =>
    simp only [List.headD_cons, List.tail_cons, Bool.and_eq_true, List.all_eq_true, List.length_cons, Bool.or_eq_true, decide_eq_true_eq]
    constructor
    · rintro ⟨⟨h1, h2⟩, h3⟩
      refine ⟨x, r, rfl, ?_, h2, h3⟩
      rcases h1 with h1 | ⟨_, h1⟩
      · left
        rintro rfl
        simp at h1
      · exact .inr h1
    · rintro ⟨x', r', he, h1, h2, h3⟩
      injection he with he1 he2
      subst he1 he2
      refine ⟨⟨?_, h2⟩, h3⟩
      cases r with
      | nil =>
        rcases h1 with h1 | h1
        · exact absurd rfl h1
        · exact .inr ⟨rfl, h1⟩
      | cons y s => left; simp
theorem form_parts {p : Pat} (h : form p = true) : ∀ x ∈ p.parts, part x = true := by
  obtain ⟨x, r, he, _, h2, h3⟩ := form_iff.1 h
  rw [he]
  intro y hy
  rcases List.mem_cons.1 hy with rfl | hy
  · exact part_comp h2
  · exact h3 y hy
theorem form_ne {p : Pat} (h : form p = true) : p.parts ≠ [] := by
  obtain ⟨x, r, he, _⟩ := form_iff.1 h
  rw [he]
  simp
theorem form_pos {p : Pat} (h : form p = true) : 1 ≤ p.parts.length := List.length_pos_iff.2 (form_ne h)
theorem form_two {p : Pat} (h : form p = true) (hr : p.rest = false) : 2 ≤ p.parts.length := by
  obtain ⟨x, r, he, h1, _⟩ := form_iff.1 h
  rw [he]
  cases r with
  | nil => rw [hr] at h1; simp at h1
  | cons y s => simp

/-- The text of a pattern. -/
def text (p : Pat) : List UInt8 := Pm.join p.parts ++ (if p.rest then [47, 46, 46, 46] else [])
/-- The parts that a text names. -/
def named (s : List UInt8) : Pat :=
  if (Pm.segs (s.drop 2)).getLast? = some [46, 46, 46] then ⟨(Pm.segs (s.drop 2)).dropLast, true⟩ else ⟨Pm.segs (s.drop 2), false⟩
def parseErr (s : List UInt8) : Nat := if Lib.hasPrefix s [47, 47] then check (named s) else 30
def parsed (s : List UInt8) : Pat := if parseErr s = 0 then named s else ⟨[], false⟩

theorem segs_parts {l : List (List UInt8)} (hl : l ≠ []) (h : ∀ x ∈ l, ∀ c ∈ x, c ≠ 47) : Pm.segs ((Pm.join l).drop 2) = l := Pm.segs_join l hl h
theorem named_text {p : Pat} (h : form p = true) : named (text p) = p := by
  have hp := form_parts h
  have hn := form_ne h
  obtain ⟨l, b⟩ := p
  simp only at hp hn
  cases b with
  | false =>
    have e : text ⟨l, false⟩ = Pm.join l := by simp [text]
    rw [e]
    unfold named
    rw [segs_parts hn fun x hx => part_slash (hp x hx), if_neg]
    intro h2
    exact part_dots (hp _ (List.mem_of_getLast? h2)) rfl
  | true =>
    have e : text ⟨l, true⟩ = Pm.join (l ++ [[46, 46, 46]]) := by
      unfold text Pm.join
      rw [Pm.join_append l [[46, 46, 46]] hn (by simp), Lib.join_one]
      simp
    rw [e]
    unfold named
    rw [segs_parts (by simp)]
    · rw [if_pos (by simp)]
      simp
    · intro x hx
      rcases List.mem_append.1 hx with hx | hx
      · exact part_slash (hp x hx)
      · simp only [List.mem_singleton] at hx
        subst hx
        intro c hc
        simp at hc
        rw [hc]
        decide
theorem text_prefix (p : Pat) : Lib.hasPrefix (text p) [47, 47] = true := by
  unfold Lib.hasPrefix text Pm.join
  rfl
theorem parse_text {p : Pat} (h : check p = 0) : parseErr (text p) = 0 ∧ parsed (text p) = p := by
  have hf := (check_ok.1 h).1
  have h1 : parseErr (text p) = 0 := by
    unfold parseErr
    rw [text_prefix, if_pos rfl, named_text hf, h]
  refine ⟨h1, ?_⟩
  unfold parsed
  rw [if_pos h1, named_text hf]
theorem text_parsed {s : List UInt8} (h : parseErr s = 0) : text (parsed s) = s ∧ check (parsed s) = 0 := by
  unfold parsed
  rw [if_pos h]
  unfold parseErr at h
  split at h
  · rename_i hp
    refine ⟨?_, h⟩
    have hs : s = 47 :: 47 :: s.drop 2 := Pm.prefix2 hp
    have hf := form_ne (check_ok.1 h).1
    unfold named at hf ⊢
    split
    · rename_i hl
      rw [if_pos hl] at hf
      have e : (Pm.segs (s.drop 2)).dropLast ++ [[46, 46, 46]] = Pm.segs (s.drop 2) := by
        have hne := Pm.segs_ne (s.drop 2)
        have := List.dropLast_concat_getLast hne
        rw [List.getLast?_eq_some_getLast hne] at hl
        injection hl with hl
        rw [hl] at this
        exact this
      unfold text Pm.join
      simp only [if_true]
      have := Pm.join_append (Pm.segs (s.drop 2)).dropLast [[46, 46, 46]] hf (by simp)
      rw [e, Pm.join_segs _ _ (Nat.le_refl _), Lib.join_one] at this
      conv => rhs; rw [hs, this]
      simp
    · unfold text Pm.join
      simp only [Bool.false_eq_true, if_false, List.append_nil]
      rw [Pm.join_segs _ _ (Nat.le_refl _)]
      exact hs.symm
  · simp at h
end Go.Proofs.YtihboibebhokbaaDoor.Pt
