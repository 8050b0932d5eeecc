/- Intersections and inclusions of patterns. No program. -/
import Derived.Test.YtihboibebhokbaaDoorPatMath2
namespace Go.Proofs.YtihboibebhokbaaDoor.Pt
open Go

/-- All texts of the part x are texts of the part y. -/
def inside (x y : List UInt8) : Bool :=
  match star y with
  | none => decide (x = y)
  | some t => match star x with
    | some s => Lib.hasSuffix s t
    | none => pm y x
theorem inside_comp {x y : List UInt8} (h : star y = none) : inside x y = decide (x = y) := by unfold inside; rw [h]
theorem inside_stars {x y s t : List UInt8} (hx : star x = some s) (hy : star y = some t) : inside x y = Lib.hasSuffix s t := by unfold inside; rw [hy, hx]
theorem inside_star {x y t : List UInt8} (hx : star x = none) (hy : star y = some t) : inside x y = pm y x := by unfold inside; rw [hy, hx]
theorem suffix_self (s : List UInt8) : Lib.hasSuffix s s = true := suffix_iff.2 ⟨[], rfl⟩
theorem inside_self (x : List UInt8) : inside x x = true := by
  cases h : star x with
  | none => rw [inside_comp h]; simp
  | some s => rw [inside_stars h h]; exact suffix_self s
theorem comp_prefix {u t : List UInt8} (h : Pm.comp (u ++ t) = true) (hu : u ≠ []) : Pm.comp u = true := by
  cases u with
  | nil => exact absurd rfl hu
  | cons c r =>
    simp only [Pm.comp, List.cons_append, List.all_cons, List.all_append, Bool.and_eq_true] at h ⊢
    exact ⟨h.1, h.2.1, h.2.2.1⟩
theorem comp_ext {y u : List UInt8} (h : Pm.comp y = true) (hu : u.all Pm.nb = true) : Pm.comp (y ++ u) = true := comp_append h hu
theorem inside_pm {x y c : List UInt8} (h : inside x y = true) (hc : pm x c = true) : pm y c = true := by
  cases hy : star y with
  | none =>
    rw [inside_comp hy, decide_eq_true_eq] at h
    rw [← h]
    exact hc
  | some t =>
    cases hs : star x with
    | none =>
      rw [inside_star hs hy] at h
      rw [(pm_comp hs).1 hc]
      exact h
    | some s =>
      rw [inside_stars hs hy] at h
      obtain ⟨u, rfl⟩ := suffix_iff.1 h
      obtain ⟨v, rfl, hv⟩ := (pm_star hs).1 hc
      have hnb := (star_some.1 hs).2
      rw [List.all_append, Bool.and_eq_true] at hnb
      exact (pm_star hy).2 ⟨v ++ u, by rw [List.append_assoc], comp_append hv hnb.1⟩
theorem suffix_or {a b s t : List UInt8} (h : a ++ s = b ++ t) (hl : t.length ≤ s.length) : Lib.hasSuffix s t = true := by
  rw [suffix_iff]
  have hla : a.length ≤ b.length := by
    have := congrArg List.length h
    simp only [List.length_append] at this
    omega
  have h2 := congrArg (List.drop a.length) h
  rw [List.drop_left, List.drop_append_of_le_length hla] at h2
  exact ⟨_, h2⟩
/-- Two parts with a common component: one lies within the other. -/
theorem laminar {x y c : List UInt8} (hx : pm x c = true) (hy : pm y c = true) : inside x y = true ∨ inside y x = true := by
  cases hs : star x with
  | none =>
    left
    have hcx := (pm_comp hs).1 hx
    subst hcx
    cases ht : star y with
    | none => rw [inside_comp ht, decide_eq_true_eq]; exact (pm_comp ht).1 hy
    | some t => rw [inside_star hs ht]; exact hy
  | some s =>
    cases ht : star y with
    | none =>
      right
      have hcy := (pm_comp ht).1 hy
      subst hcy
      rw [inside_star ht hs]
      exact hx
    | some t =>
      obtain ⟨a, rfl, _⟩ := (pm_star hs).1 hx
      obtain ⟨b, hb, _⟩ := (pm_star ht).1 hy
      by_cases hl : t.length ≤ s.length
      · left; rw [inside_stars hs ht]; exact suffix_or hb hl
      · right; rw [inside_stars ht hs]; exact suffix_or hb.symm (by omega)

/-! ### Within -/

def allIn : List (List UInt8) → List (List UInt8) → Bool     -- the parts of p, those of q
  | _, [] => true
  | [], _ :: _ => false
  | x :: ps, y :: qs => inside x y && allIn ps qs
def counts (p q : Pat) : Bool := decide (q.parts.length ≤ p.parts.length) && (if q.rest then decide (q.parts.length < p.parts.length) || p.rest else !p.rest && decide (p.parts.length = q.parts.length))
def within (p q : Pat) : Bool := decide (check p = 0) && decide (check q = 0) && counts p q && allIn p.parts q.parts
theorem allIn_pm : ∀ {ps qs cs : List (List UInt8)}, allIn ps qs = true → allPm ps cs = true → allPm qs cs = true
  | _, [], _, _, _ => rfl
  | [], _ :: _, _, h, _ => by cases h
  | _ :: _, _ :: _, [], _, h => by cases h
  | x :: ps, y :: qs, c :: cs, h1, h2 => by
    simp only [allIn, allPm, Bool.and_eq_true] at h1 h2 ⊢
    exact ⟨inside_pm h1.1 h2.1, allIn_pm h1.2 h2.2⟩
theorem within_parts {p q : Pat} (h : within p q = true) : check p = 0 ∧ check q = 0 ∧ counts p q = true ∧ allIn p.parts q.parts = true := by
  unfold within at h
  simp only [Bool.and_eq_true, decide_eq_true_eq] at h
  exact ⟨h.1.1.1, h.1.1.2, h.1.2, h.2⟩
theorem counts_fits {p q : Pat} {m : Nat} (h : counts p q = true) (hf : fits p m = true) : fits q m = true := by
  unfold counts at h
  unfold fits at *
  rw [Bool.and_eq_true, decide_eq_true_eq] at h
  obtain ⟨h1, h2⟩ := h
  cases hq : q.rest with
  | true =>
    rw [hq] at h2
    simp only [if_true, Bool.or_eq_true, decide_eq_true_eq] at h2 ⊢
    cases hp : p.rest with
    | true =>
      rw [hp] at hf
      simp only [if_true, decide_eq_true_eq] at hf
      omega
    | false =>
      rw [hp] at hf h2
      simp only [Bool.false_eq_true, if_false, decide_eq_true_eq, or_false] at hf h2
      omega
  | false =>
    rw [hq] at h2
    simp only [Bool.false_eq_true, if_false, Bool.and_eq_true, Bool.not_eq_true', decide_eq_true_eq] at h2 ⊢
    rw [h2.1] at hf
    simp only [Bool.false_eq_true, if_false, decide_eq_true_eq] at hf
    omega
/-- A path of a pattern within another one matches that one. -/
theorem within_match {p q : Pat} {path : List UInt8} (h : within p q = true) (hm : (matchP p path).isSome = true) : (matchP q path).isSome = true := by
  obtain ⟨h1, h2, h3, h4⟩ := within_parts h
  obtain ⟨_, l, hl, hf, ha⟩ := matchP_isSome.1 hm
  exact matchP_isSome.2 ⟨h2, l, hl, counts_fits h3 hf, allIn_pm h4 ha⟩

/-! ### Meet -/

/-- The parts of the intersection: of the longer one and the shorter one. -/
def meetOf : List (List UInt8) → List (List UInt8) → Option (List (List UInt8))
  | ps, [] => some ps
  | [], _ :: _ => none
  | x :: ps, y :: qs => if inside x y then (meetOf ps qs).map fun r => x :: r else if inside y x then (meetOf ps qs).map fun r => y :: r else none
def meetLong (p q : Pat) : Option Pat :=     -- q has no more parts than p
  if (decide (q.parts.length < p.parts.length) && !q.rest) || (decide (p.parts.length = q.parts.length) && (p.rest != q.rest)) then none
  else (meetOf p.parts q.parts).map fun l => ⟨l, p.rest⟩
def meet (p q : Pat) : Option Pat :=
  if check p = 0 ∧ check q = 0 then (if p.parts.length < q.parts.length then meetLong q p else meetLong p q) else none

theorem meetOf_cons (x : List UInt8) (ps : List (List UInt8)) (y : List UInt8) (qs : List (List UInt8)) :
    meetOf (x :: ps) (y :: qs) = if inside x y then (meetOf ps qs).map fun r => x :: r else if inside y x then (meetOf ps qs).map fun r => y :: r else none := rfl
theorem meetOf_len : ∀ {ps qs ms : List (List UInt8)}, meetOf ps qs = some ms → ms.length = ps.length ∧ qs.length ≤ ps.length
  | ps, [], ms, h => by
    have e : meetOf ps [] = some ps := by cases ps <;> rfl
    rw [e] at h
    injection h with h
    subst h
    simp
  | [], _ :: _, _, h => by cases h
  | x :: ps, y :: qs, ms, h => by
    rw [meetOf_cons] at h
    split at h
    · cases hr : meetOf ps qs with
      | none => rw [hr] at h; cases h
      | some r =>
        rw [hr] at h
        simp only [Option.map_some, Option.some.injEq] at h
        subst h
        obtain ⟨h1, h2⟩ := meetOf_len hr
        exact ⟨by rw [List.length_cons, List.length_cons, h1], by rw [List.length_cons, List.length_cons]; omega⟩
    · split at h
      · cases hr : meetOf ps qs with
        | none => rw [hr] at h; cases h
        | some r =>
          rw [hr] at h
          simp only [Option.map_some, Option.some.injEq] at h
          subst h
          obtain ⟨h1, h2⟩ := meetOf_len hr
          exact ⟨by rw [List.length_cons, List.length_cons, h1], by rw [List.length_cons, List.length_cons]; omega⟩
      · cases h
theorem meetOf_nil (ps : List (List UInt8)) : meetOf ps [] = some ps := by cases ps <;> rfl
/-- Components match the intersection's parts exactly if they match both. -/
theorem meetOf_pm : ∀ {ps qs cs : List (List UInt8)}, qs.length ≤ ps.length →
    (allPm ps cs && allPm qs cs) = match meetOf ps qs with | none => false | some ms => allPm ms cs
  | ps, [], cs, _ => by rw [meetOf_nil]; simp [allPm]
  | [], _ :: _, _, h => by simp at h
  | x :: ps, y :: qs, [], hl => by
    simp only [allPm, Bool.false_and]
    cases hm : meetOf (x :: ps) (y :: qs) with
    | none => rfl
    | some ms =>
      have := (meetOf_len hm).1
      cases ms with
      | nil => simp at this
      | cons a r => rfl
  | x :: ps, y :: qs, c :: cs, hl => by
    have ih := meetOf_pm (cs := cs) (show qs.length ≤ ps.length by simpa using hl)
    rw [meetOf_cons]
    simp only [allPm]
    by_cases h1 : inside x y = true
    · rw [if_pos h1]
      have e : (pm x c && pm y c) = pm x c := by
        cases hx : pm x c with
        | false => rfl
        | true => rw [inside_pm h1 hx]; rfl
      cases hm : meetOf ps qs with
      | none =>
        rw [hm] at ih
        simp only [Option.map_none] at ih ⊢
        rw [Bool.and_assoc, ← Bool.and_assoc (allPm ps cs), Bool.and_comm (allPm ps cs), Bool.and_assoc, ih]
        simp
      | some ms =>
        rw [hm] at ih
        simp only [Option.map_some, allPm] at ih ⊢
        rw [← ih, ← e]
        cases pm x c <;> cases pm y c <;> simp
    · rw [if_neg h1]
      by_cases h2 : inside y x = true
      · rw [if_pos h2]
        have e : (pm x c && pm y c) = pm y c := by
          cases hy : pm y c with
          | false => simp
          | true => rw [inside_pm h2 hy]; rfl
        cases hm : meetOf ps qs with
        | none =>
          rw [hm] at ih
          simp only [Option.map_none] at ih ⊢
          rw [Bool.and_assoc, ← Bool.and_assoc (allPm ps cs), Bool.and_comm (allPm ps cs), Bool.and_assoc, ih]
          simp
        | some ms =>
          rw [hm] at ih
          simp only [Option.map_some, allPm] at ih ⊢
          rw [← ih, ← e]
          cases pm x c <;> cases pm y c <;> simp
      · rw [if_neg h2]
        have e : (pm x c && pm y c) = false := by
          cases hx : pm x c with
          | false => rfl
          | true =>
            cases hy : pm y c with
            | false => rfl
            | true =>
              rcases laminar hx hy with h | h
              · exact absurd h h1
              · exact absurd h h2
        simp only
        cases hx : pm x c with
        | false => simp
        | true =>
          rw [hx] at e
          simp only [Bool.true_and] at e
          rw [e]
          simp
theorem meetOf_parts : ∀ {ps qs ms : List (List UInt8)}, (∀ x ∈ ps, part x = true) → (∀ x ∈ qs, part x = true) → meetOf ps qs = some ms → ∀ x ∈ ms, part x = true
  | ps, [], ms, hp, _, h => by
    rw [meetOf_nil] at h
    injection h with h
    subst h
    exact hp
  | [], _ :: _, _, _, _, h => by cases h
  | x :: ps, y :: qs, ms, hp, hq, h => by
    rw [meetOf_cons] at h
    have ih := fun r hr => meetOf_parts (ps := ps) (qs := qs) (ms := r) (fun z hz => hp z (List.mem_cons_of_mem _ hz)) (fun z hz => hq z (List.mem_cons_of_mem _ hz)) hr
    split at h
    · cases hr : meetOf ps qs with
      | none => rw [hr] at h; cases h
      | some r =>
        rw [hr] at h
        simp only [Option.map_some, Option.some.injEq] at h
        subst h
        intro z hz
        rcases List.mem_cons.1 hz with rfl | hz
        · exact hp z (by simp)
        · exact ih r hr z hz
    · split at h
      · cases hr : meetOf ps qs with
        | none => rw [hr] at h; cases h
        | some r =>
          rw [hr] at h
          simp only [Option.map_some, Option.some.injEq] at h
          subst h
          intro z hz
          rcases List.mem_cons.1 hz with rfl | hz
          · exact hq z (by simp)
          · exact ih r hr z hz
      · cases h
theorem inside_head {x y : List UInt8} (hx : Pm.comp x = true) (hy : Pm.comp y = true) (h : inside x y = true ∨ inside y x = true) : x = y := by
  rcases h with h | h
  · rw [inside_comp (comp_star hy), decide_eq_true_eq] at h; exact h
  · rw [inside_comp (comp_star hx), decide_eq_true_eq] at h; exact h.symm
theorem meetLong_ok {p q m : Pat} (hp : check p = 0) (hq : check q = 0) (h : meetLong p q = some m) : check m = 0 ∧ m.rest = p.rest ∧ meetOf p.parts q.parts = some m.parts := by
  unfold meetLong at h
  split at h
  · cases h
  · cases hm : meetOf p.parts q.parts with
    | none => rw [hm] at h; cases h
    | some ms =>
      rw [hm] at h
      simp only [Option.map_some, Option.some.injEq] at h
      subst h
      refine ⟨?_, rfl, rfl⟩
      obtain ⟨hfp, hlp⟩ := check_ok.1 hp
      obtain ⟨hfq, _⟩ := check_ok.1 hq
      have hlen := (meetOf_len hm).1
      have hms := meetOf_parts (form_parts hfp) (form_parts hfq) hm
      refine check_ok.2 ⟨?_, by simp only; omega⟩
      obtain ⟨x, r, he, h1, h2, h3⟩ := form_iff.1 hfp
      obtain ⟨y, s, he', h1', h2', h3'⟩ := form_iff.1 hfq
      rw [he, he', meetOf_cons] at hm
      rw [he] at hlen
      have hxy : inside x y = true ∨ inside y x = true := by
        by_cases g1 : inside x y = true
        · exact .inl g1
        · by_cases g2 : inside y x = true
          · exact .inr g2
          · rw [if_neg g1, if_neg g2] at hm; cases hm
      have hxe := inside_head h2 h2' hxy
      subst hxe
      rw [inside_self, if_pos rfl] at hm
      cases hr : meetOf r s with
      | none => rw [hr] at hm; cases hm
      | some t =>
        rw [hr] at hm
        simp only [Option.map_some, Option.some.injEq] at hm
        subst hm
        refine form_iff.2 ⟨x, t, rfl, ?_, h2, fun z hz => hms z (List.mem_cons_of_mem _ hz)⟩
        rcases h1 with h1 | h1
        · left
          rintro rfl
          simp at hlen
          exact h1 hlen
        · exact .inr h1
theorem meetLong_match {p q : Pat} {path : List UInt8} (hp : check p = 0) (hq : check q = 0) (hl : q.parts.length ≤ p.parts.length) :
    ((matchP p path).isSome && (matchP q path).isSome) = match meetLong p q with | none => false | some m => (matchP m path).isSome := by
  have key : ∀ l, pathO path = some l → fits p l.length = true → fits q l.length = true → (decide (q.parts.length < p.parts.length) && !q.rest || decide (p.parts.length = q.parts.length) && (p.rest != q.rest)) = false := by
    intro l _ h1 h2
    unfold fits at h1 h2
    cases hqr : q.rest <;> cases hpr : p.rest <;> rw [hqr] at h2 <;> rw [hpr] at h1 <;> simp at h1 h2 ⊢ <;> omega
  cases hc : meetLong p q with
  | none =>
    simp only
    by_cases hb : (matchP p path).isSome = true ∧ (matchP q path).isSome = true
    · exfalso
      obtain ⟨_, l, hl1, hf1, ha1⟩ := matchP_isSome.1 hb.1
      obtain ⟨_, l2, hl2, hf2, ha2⟩ := matchP_isSome.1 hb.2
      rw [hl1] at hl2
      injection hl2 with hl2
      subst hl2
      have hk := key l hl1 hf1 hf2
      unfold meetLong at hc
      rw [hk] at hc
      simp only [Bool.false_eq_true, if_false] at hc
      have := meetOf_pm (cs := l) hl
      rw [ha1, ha2] at this
      cases hm : meetOf p.parts q.parts with
      | none => rw [hm] at this; cases this
      | some ms => rw [hm] at hc; cases hc
    · cases h1 : (matchP p path).isSome with
      | false => rfl
      | true =>
        cases h2 : (matchP q path).isSome with
        | false => rfl
        | true => exact absurd ⟨h1, h2⟩ hb
  | some m =>
    simp only
    obtain ⟨hm0, hmr, hmo⟩ := meetLong_ok hp hq hc
    have hml := (meetOf_len hmo).1
    have hfm : ∀ k, fits m k = fits p k := by
      intro k
      unfold fits
      rw [hmr, hml]
    rw [Bool.eq_iff_iff, Bool.and_eq_true]
    constructor
    · rintro ⟨g1, g2⟩
      obtain ⟨_, l, hl1, hf1, ha1⟩ := matchP_isSome.1 g1
      obtain ⟨_, l2, hl2, hf2, ha2⟩ := matchP_isSome.1 g2
      rw [hl1] at hl2
      injection hl2 with hl2
      subst hl2
      have := meetOf_pm (cs := l) hl
      rw [ha1, ha2, hmo] at this
      exact matchP_isSome.2 ⟨hm0, l, hl1, by rw [hfm]; exact hf1, this.symm⟩
    · intro g
      obtain ⟨_, l, hl1, hf1, ha1⟩ := matchP_isSome.1 g
      rw [hfm] at hf1
      have := meetOf_pm (cs := l) hl
      rw [hmo] at this
      simp only at this
      rw [ha1, Bool.and_eq_true] at this
      refine ⟨matchP_isSome.2 ⟨hp, l, hl1, hf1, this.1⟩, matchP_isSome.2 ⟨hq, l, hl1, ?_, this.2⟩⟩
      have hk : ¬ (decide (q.parts.length < p.parts.length) && !q.rest || decide (p.parts.length = q.parts.length) && (p.rest != q.rest)) = true := by
        intro hk
        unfold meetLong at hc
        rw [hk] at hc
        cases hc
      unfold fits at hf1 ⊢
      cases hqr : q.rest <;> cases hpr : p.rest <;> rw [hqr, hpr] at hk <;> rw [hpr] at hf1 <;> simp at hf1 hk ⊢ <;> omega
/-- A path matches the intersection exactly if it matches both. -/
theorem meet_match (p q : Pat) (path : List UInt8) : ((matchP p path).isSome && (matchP q path).isSome) = match meet p q with | none => false | some m => (matchP m path).isSome := by
  unfold meet
  by_cases h : check p = 0 ∧ check q = 0
  · rw [if_pos h]
    by_cases hl : p.parts.length < q.parts.length
    · rw [if_pos hl, Bool.and_comm]
      exact meetLong_match h.2 h.1 (by omega)
    · rw [if_neg hl]
      exact meetLong_match h.1 h.2 (by omega)
  · rw [if_neg h]
    simp only
    have hn : ∀ r : Pat, check r ≠ 0 → (matchP r path).isSome = false := by
      intro r hr
      unfold matchP
      rw [if_neg hr]
      rfl
    by_cases h0 : check p = 0
    · rw [hn q fun e => h ⟨h0, e⟩, Bool.and_false]
    · rw [hn p h0, Bool.false_and]
theorem meet_ok {p q m : Pat} (h : meet p q = some m) : check m = 0 := by
  unfold meet at h
  split at h
  · rename_i h0
    split at h
    · exact (meetLong_ok h0.2 h0.1 h).1
    · exact (meetLong_ok h0.1 h0.2 h).1
  · cases h
end Go.Proofs.YtihboibebhokbaaDoor.Pt
