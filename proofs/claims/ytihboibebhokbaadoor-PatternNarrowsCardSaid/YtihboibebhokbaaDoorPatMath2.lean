/- Captures, matches, filled patterns. No program. -/
import Derived.Test.YtihboibebhokbaaDoorPatMath
namespace Go.Proofs.YtihboibebhokbaaDoor.Pt
open Go

def pathO (p : List UInt8) : Option (List (List UInt8)) := if Pm.valid p then Pm.parts p else none
theorem pathO_some {p : List UInt8} {l : List (List UInt8)} : pathO p = some l ↔ p = Pm.join l ∧ 2 ≤ l.length ∧ ∀ x ∈ l, Pm.comp x = true := by
  unfold pathO
  constructor
  · intro h
    split at h
    · rename_i hv
      obtain ⟨h1, h2, h3⟩ := Pm.parts_some h
      rw [Pm.valid_some h, decide_eq_true_eq] at hv
      exact ⟨h1, hv, h3⟩
    · cases h
  · rintro ⟨rfl, h2, h3⟩
    have hl : l ≠ [] := by
      rintro rfl
      simp at h2
    have hp := Pm.parts_join hl h3
    rw [if_pos (by rw [Pm.valid_some hp]; simpa using h2), hp]

/-- What a component captures of a part. -/
def capture (x c : List UInt8) : Option (List UInt8) :=
  match star x with
  | none => if x = c then some [] else none
  | some s => if Lib.hasSuffix c s = true ∧ Pm.comp (c.take (c.length - s.length)) = true then some (c.take (c.length - s.length)) else none
theorem capture_comp {x c : List UInt8} (h : star x = none) : capture x c = if x = c then some [] else none := by unfold capture; rw [h]
theorem suffix_iff {c s : List UInt8} : Lib.hasSuffix c s = true ↔ ∃ u, c = u ++ s := by
  unfold Lib.hasSuffix
  rw [List.isSuffixOf_iff_suffix]
  constructor
  · rintro ⟨u, h⟩; exact ⟨u, h.symm⟩
  · rintro ⟨u, h⟩; exact ⟨u, h.symm⟩
theorem take_suffix (u s : List UInt8) : (u ++ s).take ((u ++ s).length - s.length) = u := by
  rw [List.length_append, Nat.add_sub_cancel, List.take_left]
theorem capture_star {x c s y : List UInt8} (h : star x = some s) : capture x c = some y ↔ c = y ++ s ∧ Pm.comp y = true := by
  unfold capture
  rw [h]
  simp only
  constructor
  · intro e
    split at e
    · rename_i h1
      obtain ⟨u, rfl⟩ := suffix_iff.1 h1.1
      rw [take_suffix] at e h1
      injection e with e
      subst e
      exact ⟨rfl, h1.2⟩
    · cases e
  · rintro ⟨rfl, h2⟩
    rw [take_suffix, if_pos ⟨suffix_iff.2 ⟨y, rfl⟩, h2⟩]
/-- The component matches the part. -/
def pm (x c : List UInt8) : Bool := (capture x c).isSome
theorem pm_comp {x c : List UInt8} (h : star x = none) : pm x c = true ↔ c = x := by
  unfold pm
  rw [capture_comp h]
  by_cases e : x = c
  · rw [if_pos e]; simp [e]
  · rw [if_neg e]
    constructor
    · intro h; cases h
    · intro h; exact absurd h.symm e
theorem pm_star {x c s : List UInt8} (h : star x = some s) : pm x c = true ↔ ∃ y, c = y ++ s ∧ Pm.comp y = true := by
  unfold pm
  rw [Option.isSome_iff_exists]
  constructor
  · rintro ⟨y, hy⟩; exact ⟨y, (capture_star h).1 hy⟩
  · rintro ⟨y, hy⟩; exact ⟨y, (capture_star h).2 hy⟩

/-- The captures of components by parts, one for each wildcard. -/
def capsOf : List (List UInt8) → List (List UInt8) → Option (List (List UInt8))
  | [], _ => some []
  | _ :: _, [] => none
  | x :: ps, c :: cs => match capture x c with
    | none => none
    | some y => (capsOf ps cs).map fun r => if isStar x then y :: r else r
theorem capsOf_cons (x : List UInt8) (ps : List (List UInt8)) (c : List UInt8) (cs : List (List UInt8)) :
    capsOf (x :: ps) (c :: cs) = match capture x c with
      | none => none
      | some y => (capsOf ps cs).map fun r => if isStar x then y :: r else r := rfl
/-- The number of components is right. -/
def fits (p : Pat) (m : Nat) : Bool := if p.rest then decide (p.parts.length < m) else decide (m = p.parts.length)
def matchP (p : Pat) (path : List UInt8) : Option (List (List UInt8)) :=
  if check p = 0 then
    match pathO path with
    | none => none
    | some l => if fits p l.length then (capsOf p.parts l).map fun r => if p.rest then r ++ [Lib.join (l.drop p.parts.length) [47]] else r else none
  else none
theorem matchP_some {p : Pat} {path : List UInt8} {r : List (List UInt8)} :
    matchP p path = some r ↔ check p = 0 ∧ ∃ l cs, pathO path = some l ∧ fits p l.length = true ∧ capsOf p.parts l = some cs ∧ r = if p.rest then cs ++ [Lib.join (l.drop p.parts.length) [47]] else cs := by
  unfold matchP
  constructor
  · intro h
    split at h
    · rename_i h0
      refine ⟨h0, ?_⟩
      split at h
      · cases h
      · rename_i l hl
        split at h
        · rename_i hf
          cases hc : capsOf p.parts l with
          | none => rw [hc] at h; cases h
          | some cs =>
            rw [hc] at h
            injection h with h
            exact ⟨l, cs, hl, hf, hc, h.symm⟩
        · cases h
    · cases h
  · rintro ⟨h0, l, cs, hl, hf, hc, rfl⟩
    rw [if_pos h0, hl]
    simp only
    rw [if_pos hf, hc]
    rfl
/-- All components match their parts. -/
def allPm : List (List UInt8) → List (List UInt8) → Bool
  | [], _ => true
  | _ :: _, [] => false
  | x :: ps, c :: cs => pm x c && allPm ps cs
theorem capsOf_isSome : ∀ ps cs : List (List UInt8), (capsOf ps cs).isSome = allPm ps cs
  | [], _ => rfl
  | _ :: _, [] => rfl
  | x :: ps, c :: cs => by
    rw [capsOf_cons, allPm]
    unfold pm
    cases capture x c with
    | none => rfl
    | some y => simp [capsOf_isSome ps cs]
theorem matchP_isSome {p : Pat} {path : List UInt8} :
    (matchP p path).isSome = true ↔ check p = 0 ∧ ∃ l, pathO path = some l ∧ fits p l.length = true ∧ allPm p.parts l = true := by
  rw [Option.isSome_iff_exists]
  constructor
  · rintro ⟨r, hr⟩
    obtain ⟨h0, l, cs, h1, h2, h3, _⟩ := matchP_some.1 hr
    exact ⟨h0, l, h1, h2, by rw [← capsOf_isSome, h3]; rfl⟩
  · rintro ⟨h0, l, h1, h2, h3⟩
    rw [← capsOf_isSome, Option.isSome_iff_exists] at h3
    obtain ⟨cs, h3⟩ := h3
    exact ⟨_, matchP_some.2 ⟨h0, l, cs, h1, h2, h3, rfl⟩⟩

/-- How many wildcards the parts have. -/
def stars (l : List (List UInt8)) : Nat := (l.filter isStar).length
def wilds (p : Pat) : Nat := stars p.parts + if p.rest then 1 else 0
theorem stars_cons (x : List UInt8) (l : List (List UInt8)) : stars (x :: l) = stars l + if isStar x then 1 else 0 := by
  unfold stars
  by_cases h : isStar x = true
  · rw [List.filter_cons_of_pos h, if_pos h]; rfl
  · rw [List.filter_cons_of_neg h, if_neg h]; rfl
/-- The components that captures make of parts. -/
def fillOf : List (List UInt8) → List (List UInt8) → Option (List (List UInt8))
  | [], _ => some []
  | x :: ps, cs => match star x with
    | none => (fillOf ps cs).map fun r => x :: r
    | some s => match cs with
      | [] => none
      | y :: cs => if Pm.comp y then (fillOf ps cs).map fun r => (y ++ s) :: r else none
theorem fillOf_comp {x : List UInt8} (ps cs : List (List UInt8)) (h : star x = none) : fillOf (x :: ps) cs = (fillOf ps cs).map fun r => x :: r := by rw [fillOf, h]
theorem fillOf_star {x s : List UInt8} (ps : List (List UInt8)) (y : List UInt8) (cs : List (List UInt8)) (h : star x = some s) : fillOf (x :: ps) (y :: cs) = if Pm.comp y then (fillOf ps cs).map fun r => (y ++ s) :: r else none := by rw [fillOf, h]
def fillComps (p : Pat) (caps : List (List UInt8)) : Option (List (List UInt8)) :=
  match fillOf p.parts caps with
  | none => none
  | some l => if p.rest then (if (Pm.segs (caps.getD (stars p.parts) [])).all Pm.comp then some (l ++ Pm.segs (caps.getD (stars p.parts) [])) else none) else some l
def fillErr (p : Pat) (caps : List (List UInt8)) : Nat := if check p = 0 then (if caps.length = wilds p then (match fillComps p caps with | none => 32 | some _ => 0) else 32) else check p
def filled (p : Pat) (caps : List (List UInt8)) : List UInt8 := if fillErr p caps = 0 then (match fillComps p caps with | none => [] | some l => Pm.join l) else []
theorem fillErr_zero {p : Pat} {caps : List (List UInt8)} : fillErr p caps = 0 ↔ check p = 0 ∧ caps.length = wilds p ∧ ∃ l, fillComps p caps = some l := by
  unfold fillErr
  by_cases h0 : check p = 0
  · rw [if_pos h0]
    by_cases h1 : caps.length = wilds p
    · rw [if_pos h1]
      cases fillComps p caps with
      | none => simp
      | some l => simp [h0, h1]
    · rw [if_neg h1]; simp [h1]
  · rw [if_neg h0]; simp [h0]

theorem caps_length : ∀ {ps l cs : List (List UInt8)}, capsOf ps l = some cs → cs.length = stars ps
  | [], _, _, h => by
    injection h with h
    subst h
    rfl
  | _ :: _, [], _, h => by cases h
  | x :: ps, c :: l, cs, h => by
    rw [capsOf_cons] at h
    rw [stars_cons]
    cases hc : capture x c with
    | none => rw [hc] at h; cases h
    | some y =>
      rw [hc] at h
      cases hr : capsOf ps l with
      | none => rw [hr] at h; cases h
      | some r =>
        rw [hr] at h
        have ih := caps_length hr
        simp only [Option.map_some, Option.some.injEq] at h
        subst h
        by_cases hx : isStar x = true
        · rw [if_pos hx, if_pos hx, List.length_cons, ih]
        · rw [if_neg hx, if_neg hx, ih, Nat.add_zero]
theorem star_none_of {x : List UInt8} (h : ¬ isStar x = true) : star x = none := by
  unfold isStar at h
  cases hs : star x with
  | none => rfl
  | some s => rw [hs] at h; exact absurd rfl h
theorem isStar_of {x s : List UInt8} (h : star x = some s) : isStar x = true := by unfold isStar; rw [h]; rfl
theorem isStar_none {x : List UInt8} (h : star x = none) : ¬ isStar x = true := by unfold isStar; rw [h]; simp

/-- The captures fill the parts to the components that they are of. -/
theorem fill_caps : ∀ {ps l cs : List (List UInt8)} (more : List (List UInt8)), capsOf ps l = some cs → fillOf ps (cs ++ more) = some (l.take ps.length)
  | [], _, _, _, _ => by simp [fillOf]
  | _ :: _, [], _, _, h => by cases h
  | x :: ps, c :: l, cs, more, h => by
    rw [capsOf_cons] at h
    cases hc : capture x c with
    | none => rw [hc] at h; cases h
    | some y =>
      rw [hc] at h
      cases hr : capsOf ps l with
      | none => rw [hr] at h; cases h
      | some r =>
        rw [hr] at h
        have ih := fill_caps more hr
        simp only [Option.map_some, Option.some.injEq] at h
        cases hs : star x with
        | none =>
          rw [if_neg (isStar_none hs)] at h
          subst h
          rw [fillOf_comp _ _ hs, ih]
          rw [capture_comp hs] at hc
          split at hc
          · rename_i e
            subst e
            simp
          · cases hc
        | some s =>
          rw [if_pos (isStar_of hs)] at h
          subst h
          obtain ⟨rfl, hy⟩ := (capture_star hs).1 hc
          rw [List.cons_append, fillOf_star _ _ _ hs, if_pos hy, ih]
          simp
/-- What the captures fill is captured by them. -/
theorem caps_fill : ∀ {ps caps l : List (List UInt8)} (more : List (List UInt8)), fillOf ps caps = some l → stars ps ≤ caps.length → capsOf ps (l ++ more) = some (caps.take (stars ps)) ∧ l.length = ps.length
  | [], caps, l, more, h, _ => by
    simp only [fillOf, Option.some.injEq] at h
    subst h
    exact ⟨by simp [capsOf, stars], rfl⟩
  | x :: ps, caps, l, more, h, hn => by
    rw [stars_cons] at hn
    cases hs : star x with
    | none =>
      rw [if_neg (isStar_none hs)] at hn
      rw [fillOf_comp _ _ hs] at h
      cases hr : fillOf ps caps with
      | none => rw [hr] at h; cases h
      | some r =>
        rw [hr] at h
        simp only [Option.map_some, Option.some.injEq] at h
        subst h
        obtain ⟨ih, ih2⟩ := caps_fill more hr (by omega)
        rw [List.cons_append, capsOf_cons, capture_comp hs, if_pos rfl]
        simp only
        rw [ih, Option.map_some, if_neg (isStar_none hs), stars_cons, if_neg (isStar_none hs)]
        exact ⟨rfl, by rw [List.length_cons, List.length_cons, ih2]⟩
    | some s =>
      rw [if_pos (isStar_of hs)] at hn
      cases caps with
      | nil => simp at hn
      | cons y caps =>
        rw [fillOf_star _ _ _ hs] at h
        split at h
        · rename_i hy
          cases hr : fillOf ps caps with
          | none => rw [hr] at h; cases h
          | some r =>
            rw [hr] at h
            simp only [Option.map_some, Option.some.injEq] at h
            subst h
            obtain ⟨ih, ih2⟩ := caps_fill more hr (by simp at hn; omega)
            rw [List.cons_append, capsOf_cons, (capture_star hs).2 ⟨rfl, hy⟩]
            simp only
            rw [ih, Option.map_some, if_pos (isStar_of hs), stars_cons, if_pos (isStar_of hs), List.take_succ_cons]
            exact ⟨rfl, by rw [List.length_cons, List.length_cons, ih2]⟩
        · cases h

theorem fits_le {p : Pat} {m : Nat} (h : fits p m = true) : p.parts.length ≤ m := by
  unfold fits at h
  split at h
  · rw [decide_eq_true_eq] at h; omega
  · rw [decide_eq_true_eq] at h; omega
/-- The captures of a path fill the pattern to that path. -/
theorem fill_match {p : Pat} {path : List UInt8} {r : List (List UInt8)} (h : matchP p path = some r) : fillErr p r = 0 ∧ filled p r = path := by
  obtain ⟨h0, l, cs, hl, hf, hc, hr⟩ := matchP_some.1 h
  obtain ⟨hp, h2, hcomp⟩ := pathO_some.1 hl
  have hcl := caps_length hc
  have hle := fits_le hf
  have hlen : r.length = wilds p := by
    unfold wilds
    rw [hr]
    split <;> simp [hcl]
  have hfc : fillComps p r = some l := by
    unfold fillComps
    rw [hr]
    cases hb : p.rest with
    | false =>
      simp only [Bool.false_eq_true, if_false]
      have := fill_caps [] hc
      rw [List.append_nil] at this
      rw [this]
      simp only
      unfold fits at hf
      rw [hb] at hf
      simp only [Bool.false_eq_true, if_false, decide_eq_true_eq] at hf
      rw [← hf, List.take_length]
    | true =>
      simp only [if_true]
      rw [fill_caps _ hc]
      simp only
      unfold fits at hf
      rw [hb] at hf
      simp only [if_true, decide_eq_true_eq] at hf
      have hne : l.drop p.parts.length ≠ [] := by
        intro e
        have := congrArg List.length e
        simp at this
        omega
      have hg : (cs ++ [Lib.join (l.drop p.parts.length) [47]]).getD (stars p.parts) [] = Lib.join (l.drop p.parts.length) [47] := by
        rw [← hcl]
        simp [List.getD]
      rw [hg, Pm.segs_join _ hne fun x hx => Pm.comp_slash (hcomp x (List.mem_of_mem_drop hx))]
      rw [if_pos (List.all_eq_true.2 fun x hx => hcomp x (List.mem_of_mem_drop hx)), List.take_append_drop]
  have he : fillErr p r = 0 := fillErr_zero.2 ⟨h0, hlen, l, hfc⟩
  refine ⟨he, ?_⟩
  unfold filled
  rw [if_pos he, hfc, hp]
theorem capsOf_comps : ∀ {ps l cs : List (List UInt8)}, (∀ x ∈ ps, part x = true) → capsOf ps l = some cs → ∀ x ∈ l.take ps.length, Pm.comp x = true
  | [], _, _, _, _ => by simp
  | _ :: _, [], _, _, h => by cases h
  | x :: ps, c :: l, cs, hp, h => by
    rw [capsOf_cons] at h
    cases hc : capture x c with
    | none => rw [hc] at h; cases h
    | some y =>
      rw [hc] at h
      cases hr : capsOf ps l with
      | none => rw [hr] at h; cases h
      | some r =>
        have ih := capsOf_comps (fun z hz => hp z (by simp [hz])) hr
        intro z hz
        rw [List.length_cons, List.take_succ_cons] at hz
        rcases List.mem_cons.1 hz with rfl | hz
        · rcases part_cases (hp x (by simp)) with ⟨s, hs, _, hnb⟩ | ⟨hs, hx⟩
          · obtain ⟨rfl, hy⟩ := (capture_star hs).1 hc
            exact comp_append hy hnb
          · rw [capture_comp hs] at hc
            split at hc
            · rename_i e
              rwa [← e]
            · cases hc
        · exact ih z hz
/-- Captures that fill a pattern are those of the path that they make. -/
theorem match_fill {p : Pat} {caps : List (List UInt8)} (h : fillErr p caps = 0) : matchP p (filled p caps) = some caps := by
  obtain ⟨h0, hlen, l, hl⟩ := fillErr_zero.1 h
  have hform := (check_ok.1 h0).1
  have hparts := form_parts hform
  have hfi : filled p caps = Pm.join l := by
    unfold filled
    rw [if_pos h, hl]
  rw [hfi]
  unfold fillComps at hl
  cases hfo : fillOf p.parts caps with
  | none => rw [hfo] at hl; cases hl
  | some l0 =>
    rw [hfo] at hl
    simp only at hl
    unfold wilds at hlen
    cases hb : p.rest with
    | false =>
      rw [hb] at hl hlen
      simp only [Bool.false_eq_true, if_false, Option.some.injEq, Nat.add_zero] at hl hlen
      subst hl
      obtain ⟨hc, hll⟩ := caps_fill [] hfo (by omega)
      rw [List.append_nil, ← hlen, List.take_length] at hc
      have hcm := capsOf_comps hparts hc
      rw [← hll, List.take_length] at hcm
      refine matchP_some.2 ⟨h0, l0, caps, pathO_some.2 ⟨rfl, ?_, hcm⟩, ?_, hc, by rw [hb]; simp⟩
      · rw [hll]; exact form_two hform hb
      · unfold fits
        rw [hb]
        simpa using hll
    | true =>
      rw [hb] at hl hlen
      simp only [if_true] at hl hlen
      split at hl
      · rename_i hall
        simp only [Option.some.injEq] at hl
        subst hl
        have hseg := Pm.segs_length (caps.getD (stars p.parts) [])
        obtain ⟨hc, hll⟩ := caps_fill (Pm.segs (caps.getD (stars p.parts) [])) hfo (by omega)
        have hcm := capsOf_comps hparts hc
        rw [← hll, List.take_left] at hcm
        have hpos := form_pos hform
        refine matchP_some.2 ⟨h0, _, caps.take (stars p.parts), pathO_some.2 ⟨rfl, ?_, ?_⟩, ?_, hc, ?_⟩
        · rw [List.length_append, hll]; omega
        · intro x hx
          rcases List.mem_append.1 hx with hx | hx
          · exact hcm x hx
          · exact List.all_eq_true.1 hall x hx
        · unfold fits
          rw [hb]
          simp only [if_true, decide_eq_true_eq, List.length_append]
          omega
        · rw [hb]
          simp only [if_true]
          rw [← hll, List.drop_left, Pm.join_segs _ _ (Nat.le_refl _)]
          have hlt : stars p.parts < caps.length := by omega
          have e : caps.getD (stars p.parts) [] = caps[stars p.parts] := by simp [List.getD, List.getElem?_eq_getElem hlt]
          rw [e]
          have : caps = caps.take (stars p.parts) ++ [caps[stars p.parts]] := by
            rw [← List.take_succ_eq_append_getElem hlt, List.take_of_length_le (by omega)]
          exact this
      · cases hl
end Go.Proofs.YtihboibebhokbaaDoor.Pt
