/- The plain mathematics of the program's own ways in layer 3. No program. -/
import Derived.Test.YtihboibebhokbaaDoorPatMath4
import Derived.Lib.TrimByte
namespace Go.Proofs.YtihboibebhokbaaDoor.Pt
open Go

/-- The form of a part: 2 with a star, 1 without, 0 if it is none. -/
def formN (x : List UInt8) : Nat := if isStar x then 2 else if Pm.comp x then 1 else 0
theorem trim_cons (c : UInt8) (r : List UInt8) : Lib.trimLeftB (c :: r) 46 = if (c == 46) = true then Lib.trimLeftB r 46 else c :: r := by
  unfold Lib.trimLeftB
  rw [List.dropWhile_cons]
theorem comp_head (c : UInt8) (r : List UInt8) : Pm.comp (c :: r) = (c != 46 && (c :: r).all Pm.nb) := rfl
theorem trim_nb : ∀ s : List UInt8, (Lib.trimLeftB s 46 = [] ∨ Pm.comp (Lib.trimLeftB s 46) = true) ↔ s.all Pm.nb = true
  | [] => by simp [Lib.trimLeftB]
  | c :: r => by
    rw [trim_cons]
    by_cases h : c = 46
    · subst h
      rw [if_pos (by decide), trim_nb r]
      simp [show Pm.nb 46 = true by decide]
    · rw [if_neg (by simpa using h), comp_head]
      simp [h]
theorem trim_len (s : List UInt8) : (Lib.trimLeftB s 46).length ≤ s.length := by
  unfold Lib.trimLeftB
  exact (List.dropWhile_sublist _).length_le
theorem form_star (s : List UInt8) : formN (42 :: s) = if s.all Pm.nb = true then 2 else 0 := by
  unfold formN isStar
  rw [star_cons]
  by_cases h : s.all Pm.nb = true
  · simp [h]
  · have hc : Pm.comp (42 :: s) = false := by
      rw [comp_head, List.all_cons, show Pm.nb 42 = false by decide]
      simp
    simp [h, hc]
theorem star_prefix {x s : List UInt8} (h : star x = some s) : Lib.hasPrefix x [42] = true := by
  rw [(star_some.1 h).1]
  exact prefix_star
theorem form_plain {x : List UInt8} (h : Lib.hasPrefix x [42] = false) : formN x = if Pm.comp x then 1 else 0 := by
  unfold formN isStar
  cases hs : star x with
  | none => rfl
  | some s => rw [star_prefix hs] at h; cases h
theorem prefix_cons {x : List UInt8} (h : Lib.hasPrefix x [42] = true) : x = 42 :: x.drop 1 := by
  cases x with
  | nil => simp [Lib.hasPrefix] at h
  | cons c r =>
    simp [Lib.hasPrefix, List.isPrefixOf] at h
    subst h
    rfl
theorem part_form (x : List UInt8) : part x = decide (formN x ≠ 0) := by
  unfold part formN
  cases isStar x <;> cases Pm.comp x <;> rfl
theorem form_two_iff {x : List UInt8} : formN x = 2 ↔ ∃ s, star x = some s := by
  unfold formN isStar
  cases hs : star x with
  | none => cases Pm.comp x <;> simp
  | some s => simp
theorem form_one_iff {x : List UInt8} : formN x = 1 ↔ Pm.comp x = true := by
  unfold formN
  constructor
  · intro h
    split at h
    · cases h
    · split at h
      · assumption
      · cases h
  · intro h
    have : isStar x = false := by
      unfold isStar
      rw [comp_star h]
      rfl
    simp [this, h]
theorem form_le (x : List UInt8) : formN x = 0 ∨ formN x = 1 ∨ formN x = 2 := by
  unfold formN
  cases isStar x <;> cases Pm.comp x <;> simp
theorem form_part {x : List UInt8} (h : part x = true) : (formN x = 1 ∧ star x = none ∧ Pm.comp x = true) ∨ (formN x = 2 ∧ ∃ s, star x = some s ∧ x = 42 :: s ∧ s.all Pm.nb = true) := by
  rcases part_cases h with ⟨s, h1, h2, h3⟩ | ⟨h1, h2⟩
  · exact .inr ⟨form_two_iff.2 ⟨s, h1⟩, s, h1, h2, h3⟩
  · exact .inl ⟨form_one_iff.2 h2, h1, h2⟩

/-- What the star of the part x stands for in y. -/
def narrO (x y : List UInt8) : Option (List UInt8) :=
  match star x with
  | some s => if Lib.hasSuffix y s = true ∧ y.take (y.length - s.length) ≠ [] then some (y.take (y.length - s.length)) else none
  | none => if Pm.comp x = true ∧ x = y then some [] else none
def narrsOf : List (List UInt8) → List (List UInt8) → Option (List (List UInt8))
  | [], _ => some []
  | _ :: _, [] => none
  | x :: ps, y :: ys => match narrO x y with
    | none => none
    | some u => (narrsOf ps ys).map fun r => if u = [] then r else u :: r
def narr (p q : Pat) : Option (List (List UInt8)) := if counts q p then narrsOf p.parts q.parts else none
theorem narrsOf_cons (x : List UInt8) (ps : List (List UInt8)) (y : List UInt8) (ys : List (List UInt8)) :
    narrsOf (x :: ps) (y :: ys) = match narrO x y with
      | none => none
      | some u => (narrsOf ps ys).map fun r => if u = [] then r else u :: r := rfl
theorem narrO_capture {x c : List UInt8} (hx : part x = true) (hc : Pm.comp c = true) : narrO x c = capture x c := by
  unfold narrO capture
  rcases part_cases hx with ⟨s, h1, h2, h3⟩ | ⟨h1, h2⟩
  · rw [h1]
    simp only
    by_cases hs : Lib.hasSuffix c s = true
    · obtain ⟨u, rfl⟩ := suffix_iff.1 hs
      rw [take_suffix]
      by_cases hu : u = []
      · subst hu
        simp [Pm.comp]
      · rw [if_pos ⟨hs, hu⟩, if_pos ⟨hs, comp_prefix hc hu⟩]
    · simp [hs]
  · rw [h1]
    simp [h2]
theorem narrO_star {x y u : List UInt8} (h : narrO x y = some u) : (u = []) ↔ ¬ isStar x = true := by
  unfold narrO at h
  unfold isStar
  cases hs : star x with
  | none =>
    rw [hs] at h
    simp only at h
    split at h
    · injection h with h
      subst h
      simp
    · cases h
  | some s =>
    rw [hs] at h
    simp only at h
    split at h
    · rename_i h2
      injection h with h
      subst h
      simp [h2.2]
    · cases h
theorem narr_caps : ∀ {ps cs : List (List UInt8)}, (∀ x ∈ ps, part x = true) → (∀ c ∈ cs, Pm.comp c = true) → narrsOf ps cs = capsOf ps cs
  | [], _, _, _ => rfl
  | _ :: _, [], _, _ => rfl
  | x :: ps, c :: cs, h1, h2 => by
    have ih := narr_caps (fun z hz => h1 z (List.mem_cons_of_mem _ hz)) (fun z hz => h2 z (List.mem_cons_of_mem _ hz))
    have e := narrO_capture (h1 x (by simp)) (h2 c (by simp))
    rw [narrsOf_cons, capsOf_cons, ← e, ih]
    cases h : narrO x c with
    | none => rfl
    | some u =>
      have hu := narrO_star h
      by_cases hs : isStar x = true
      · have : u ≠ [] := fun h3 => (hu.1 h3) hs
        simp [hs, this]
      · have := hu.2 hs
        simp [hs, this]
theorem counts_path (p : Pat) (l : List (List UInt8)) : counts ⟨l, false⟩ p = fits p l.length := by
  unfold counts fits
  cases p.rest with
  | false =>
    simp only [Bool.false_eq_true, if_false, Bool.not_false, Bool.true_and]
    by_cases h : l.length = p.parts.length
    · simp [h]
    · simp [h]
  | true =>
    simp only [if_true, Bool.or_false]
    by_cases h : p.parts.length < l.length
    · simp [h]; omega
    · simp [h]
theorem match_narr {p : Pat} {s : List UInt8} {l : List (List UInt8)} (hp : check p = 0) (hs : pathO s = some l) :
    matchP p s = (narr p ⟨l, false⟩).map fun r => if p.rest then r ++ [Lib.join (l.drop p.parts.length) [47]] else r := by
  unfold matchP narr
  rw [if_pos hp, hs, counts_path, narr_caps (form_parts (check_ok.1 hp).1) (pathO_some.1 hs).2.2]
  simp only
  split <;> rfl
theorem inside_narr {x y : List UInt8} (hx : part x = true) (hy : part y = true) : (narrO x y).isSome = inside y x := by
  rcases part_cases hy with ⟨t, h1, h2, h3⟩ | ⟨h1, h2⟩
  · unfold narrO
    rcases part_cases hx with ⟨s, g1, g2, g3⟩ | ⟨g1, g2⟩
    · rw [g1, inside_stars h1 g1]
      simp only
      by_cases hs : Lib.hasSuffix t s = true
      · obtain ⟨u, rfl⟩ := suffix_iff.1 hs
        have e1 : Lib.hasSuffix y s = true := suffix_iff.2 ⟨42 :: u, by rw [h2]; rfl⟩
        have e2 : y.take (y.length - s.length) = 42 :: u := by rw [h2, ← List.cons_append, take_suffix]
        rw [e2, if_pos ⟨e1, by simp⟩, hs]
        rfl
      · have hs' : Lib.hasSuffix t s = false := by simpa using hs
        rw [hs', if_neg]
        · rfl
        · rintro ⟨e1, e2⟩
          obtain ⟨u, hu⟩ := suffix_iff.1 e1
          rw [hu, take_suffix] at e2
          rw [h2] at hu
          cases u with
          | nil => exact e2 rfl
          | cons a u =>
            injection hu with _ hu
            exact hs (suffix_iff.2 ⟨u, hu⟩)
    · rw [g1, inside_comp g1]
      simp only
      rw [g2]
      by_cases e : x = y
      · simp [e]
      · have : ¬ y = x := fun h => e h.symm
        simp [e, this]
  · rw [narrO_capture hx h2]
    rcases part_cases hx with ⟨s, g1, g2, g3⟩ | ⟨g1, g2⟩
    · rw [inside_star h1 g1]
      rfl
    · rw [inside_comp g1, capture_comp g1]
      by_cases e : x = y
      · simp [e]
      · have : ¬ y = x := fun h => e h.symm
        simp [e, this]
theorem narrO_take {x y u s : List UInt8} (hs : star x = some s) (h : narrO x y = some u) : u = y.take (y.length - s.length) := by
  unfold narrO at h
  rw [hs] at h
  simp only at h
  split at h
  · injection h with h
    exact h.symm
  · cases h
theorem narrs_in : ∀ {ps qs : List (List UInt8)}, (∀ x ∈ ps, part x = true) → (∀ x ∈ qs, part x = true) →
    (narrsOf ps qs).isSome = allIn qs ps ∧ ∀ l, narrsOf ps qs = some l → bindOf ps qs = l.map fun u => ⟨[u], false⟩
  | [], qs, _, _ => by
    refine ⟨by cases qs <;> rfl, fun l h => ?_⟩
    simp only [narrsOf, Option.some.injEq] at h
    subst h
    rfl
  | _ :: _, [], _, _ => ⟨rfl, fun l h => by cases h⟩
  | x :: ps, y :: qs, h1, h2 => by
    obtain ⟨i1, i2⟩ := narrs_in (fun z hz => h1 z (List.mem_cons_of_mem _ hz)) (fun z hz => h2 z (List.mem_cons_of_mem _ hz))
    have e := inside_narr (h1 x (by simp)) (h2 y (by simp))
    rw [narrsOf_cons, allIn, ← e]
    cases hn : narrO x y with
    | none => exact ⟨rfl, fun l h => by cases h⟩
    | some u =>
      refine ⟨by simp [i1], fun l h => ?_⟩
      simp only [Option.map_eq_some_iff] at h
      obtain ⟨r, hr, rfl⟩ := h
      have hu := narrO_star hn
      cases hs : star x with
      | none =>
        have : u = [] := hu.2 (isStar_none hs)
        rw [if_pos this, bindOf_comp _ _ _ hs]
        exact i2 r hr
      | some s =>
        have : ¬ u = [] := fun h3 => hu.1 h3 (isStar_of hs)
        rw [if_neg this, bindOf_star _ _ _ hs, i2 r hr, ← narrO_take hs hn]
        rfl
theorem within_narr {p q : Pat} (hp : check p = 0) (hq : check q = 0) : (narr p q).isSome = within q p := by
  unfold narr within
  rw [decide_eq_true hp, decide_eq_true hq, ← (narrs_in (form_parts (check_ok.1 hp).1) (form_parts (check_ok.1 hq).1)).1]
  cases counts q p <;> simp
theorem bind_narr {p q : Pat} (hp : check p = 0) (hq : check q = 0) : bind p q = (narr p q).map fun l => (l.map fun u => ⟨[u], false⟩) ++ if p.rest then [⟨q.parts.drop p.parts.length, q.rest⟩] else [] := by
  unfold bind
  rw [← within_narr hp hq]
  cases h : narr p q with
  | none => rfl
  | some l =>
    unfold narr at h
    split at h
    · rw [(narrs_in (form_parts (check_ok.1 hp).1) (form_parts (check_ok.1 hq).1)).2 l h]
      rfl
    · cases h

theorem inside_anti {x y : List UInt8} (hx : part x = true) (hy : part y = true) (h1 : inside x y = true) (h2 : inside y x = true) : x = y := by
  rcases part_cases hy with ⟨t, a1, a2, a3⟩ | ⟨a1, a2⟩
  · rcases part_cases hx with ⟨s, g1, g2, g3⟩ | ⟨g1, g2⟩
    · rw [inside_stars g1 a1] at h1
      rw [inside_stars a1 g1] at h2
      obtain ⟨u, hu⟩ := suffix_iff.1 h1
      obtain ⟨v, hv⟩ := suffix_iff.1 h2
      have l1 := congrArg List.length hu
      have l2 := congrArg List.length hv
      rw [List.length_append] at l1 l2
      have : u = [] := List.eq_nil_of_length_eq_zero (by omega)
      subst this
      rw [g2, a2, hu]
      rfl
    · rw [inside_comp g1, decide_eq_true_eq] at h2
      exact h2.symm
  · rw [inside_comp a1, decide_eq_true_eq] at h1
    exact h1
theorem meetOf_comm : ∀ {ps qs : List (List UInt8)}, ps.length = qs.length → (∀ x ∈ ps, part x = true) → (∀ x ∈ qs, part x = true) → meetOf ps qs = meetOf qs ps
  | [], [], _, _, _ => rfl
  | [], _ :: _, h, _, _ => by simp at h
  | _ :: _, [], h, _, _ => by simp at h
  | x :: ps, y :: qs, h, h1, h2 => by
    have ih := meetOf_comm (ps := ps) (qs := qs) (by simpa using h) (fun z hz => h1 z (List.mem_cons_of_mem _ hz)) (fun z hz => h2 z (List.mem_cons_of_mem _ hz))
    rw [meetOf_cons, meetOf_cons, ih]
    by_cases a : inside x y = true
    · by_cases b : inside y x = true
      · have := inside_anti (h1 x (by simp)) (h2 y (by simp)) a b
        subst this
        rfl
      · simp [a, b]
    · by_cases b : inside y x = true
      · simp [a, b]
      · simp [a, b]
theorem meetLong_comm {p q : Pat} (hp : check p = 0) (hq : check q = 0) (h : p.parts.length = q.parts.length) : meetLong p q = meetLong q p := by
  unfold meetLong
  rw [meetOf_comm h (form_parts (check_ok.1 hp).1) (form_parts (check_ok.1 hq).1), h]
  cases hr : p.rest <;> cases hs : q.rest <;> simp
/-- The intersection as the program makes it: the short one first. -/
theorem meet_short (p q : Pat) : meet p q = if check p = 0 ∧ check q = 0 then (if q.parts.length < p.parts.length then meetLong p q else meetLong q p) else none := by
  unfold meet
  by_cases h : check p = 0 ∧ check q = 0
  · rw [if_pos h, if_pos h]
    by_cases h1 : p.parts.length < q.parts.length
    · rw [if_pos h1, if_neg (by omega)]
    · rw [if_neg h1]
      by_cases h2 : q.parts.length < p.parts.length
      · rw [if_pos h2]
      · rw [if_neg h2]
        exact meetLong_comm h.1 h.2 (by omega)
  · rw [if_neg h, if_neg h]

/-- The parts with these texts in place of their stars. -/
def fillsOf : List (List UInt8) → List (List UInt8) → List (List UInt8)
  | [], _ => []
  | x :: ps, cs => match star x with
    | none => x :: fillsOf ps cs
    | some s => (cs.headD [] ++ s) :: fillsOf ps (cs.drop 1)
theorem fillsOf_comp {x : List UInt8} (ps cs : List (List UInt8)) (h : star x = none) : fillsOf (x :: ps) cs = x :: fillsOf ps cs := by rw [fillsOf, h]
theorem fillsOf_star {x s : List UInt8} (ps cs : List (List UInt8)) (h : star x = some s) : fillsOf (x :: ps) cs = (cs.headD [] ++ s) :: fillsOf ps (cs.drop 1) := by rw [fillsOf, h]
theorem fillsOf_len : ∀ ps cs : List (List UInt8), (fillsOf ps cs).length = ps.length
  | [], _ => rfl
  | x :: ps, cs => by
    cases h : star x with
    | none => rw [fillsOf_comp _ _ h, List.length_cons, fillsOf_len ps cs, List.length_cons]
    | some s => rw [fillsOf_star _ _ h, List.length_cons, fillsOf_len ps _, List.length_cons]
theorem fillsOf_take : ∀ (ps cs : List (List UInt8)), fillsOf ps (cs.take (stars ps)) = fillsOf ps cs
  | [], _ => rfl
  | x :: ps, cs => by
    cases h : star x with
    | none =>
      rw [fillsOf_comp _ _ h, fillsOf_comp _ _ h, stars_cons, if_neg (isStar_none h), Nat.add_zero, fillsOf_take ps cs]
    | some s =>
      rw [fillsOf_star _ _ h, fillsOf_star _ _ h, stars_cons, if_pos (isStar_of h)]
      cases cs with
      | nil => simp
      | cons y cs =>
        rw [List.take_succ_cons]
        simp only [List.headD_cons, List.drop_succ_cons, List.drop_zero]
        rw [fillsOf_take ps cs]
theorem fillOf_fills : ∀ {ps cs : List (List UInt8)}, stars ps ≤ cs.length → fillOf ps cs = if (cs.take (stars ps)).all Pm.comp = true then some (fillsOf ps cs) else none
  | [], _, _ => by simp [fillOf, fillsOf, stars]
  | x :: ps, cs, hl => by
    cases h : star x with
    | none =>
      rw [stars_cons, if_neg (isStar_none h), Nat.add_zero] at hl ⊢
      rw [fillOf_comp _ _ h, fillsOf_comp _ _ h, fillOf_fills hl]
      split <;> rfl
    | some s =>
      rw [stars_cons, if_pos (isStar_of h)] at hl ⊢
      cases cs with
      | nil => simp at hl
      | cons y cs =>
        rw [fillOf_star _ _ _ h, fillsOf_star _ _ h, List.take_succ_cons, List.all_cons, fillOf_fills (by simpa using hl)]
        cases Pm.comp y with
        | false => simp
        | true =>
          simp only [Bool.true_and, if_true, List.headD_cons, List.drop_succ_cons, List.drop_zero]
          split <;> rfl
def capsOk (p : Pat) (caps : List (List UInt8)) : Bool := decide (caps.length = wilds p) && (caps.take (stars p.parts)).all Pm.comp && (!p.rest || (Pm.segs (caps.getD (stars p.parts) [])).all Pm.comp)
theorem join_segs_last (l : List (List UInt8)) (c : List UInt8) : Pm.join (l ++ Pm.segs c) = Pm.join (l ++ [c]) := by
  unfold Pm.join
  cases l with
  | nil => rw [List.nil_append, List.nil_append, Pm.join_segs _ c (Nat.le_refl _), Lib.join_one]
  | cons x r => rw [Pm.join_append _ _ (by simp) (Pm.segs_ne c), Pm.join_append _ _ (by simp) (by simp), Pm.join_segs _ c (Nat.le_refl _), Lib.join_one]
theorem fill_err (p : Pat) (caps : List (List UInt8)) : fillErr p caps = if check p = 0 then (if capsOk p caps then 0 else 32) else check p := by
  unfold fillErr capsOk
  by_cases hc : check p = 0
  · rw [if_pos hc, if_pos hc]
    by_cases hl : caps.length = wilds p
    · have hst : stars p.parts ≤ caps.length := by rw [hl]; unfold wilds; omega
      rw [if_pos hl, decide_eq_true hl]
      unfold fillComps
      rw [fillOf_fills hst]
      cases (caps.take (stars p.parts)).all Pm.comp with
      | false => simp
      | true =>
        cases p.rest with
        | false => simp
        | true => cases (Pm.segs (caps.getD (stars p.parts) [])).all Pm.comp <;> simp
    · simp [hl]
  · rw [if_neg hc, if_neg hc]
theorem fill_text {p : Pat} {caps : List (List UInt8)} (hc : check p = 0) (hk : capsOk p caps = true) : filled p caps = Pm.join (fillsOf p.parts caps ++ caps.drop (stars p.parts)) := by
  unfold filled
  rw [fill_err, if_pos hc, if_pos hk, if_pos rfl]
  unfold capsOk at hk
  simp only [Bool.and_eq_true, decide_eq_true_eq] at hk
  obtain ⟨⟨hl, h1⟩, h2⟩ := hk
  have hst : stars p.parts ≤ caps.length := by rw [hl]; unfold wilds; omega
  unfold fillComps
  rw [fillOf_fills hst, if_pos h1]
  simp only
  cases hr : p.rest with
  | false =>
    simp only [Bool.false_eq_true, if_false]
    rw [List.drop_of_length_le (by rw [hl]; simp [wilds, hr]), List.append_nil]
  | true =>
    rw [hr] at h2
    simp only [Bool.not_true, Bool.false_or] at h2
    rw [if_pos rfl, if_pos h2]
    simp only
    have hlt : stars p.parts < caps.length := by rw [hl]; simp [wilds, hr]
    have hd : caps.drop (stars p.parts) = [caps.getD (stars p.parts) []] := by
      rw [List.drop_eq_getElem_cons hlt, List.drop_of_length_le (by rw [hl]; simp [wilds, hr])]
      simp [List.getD_eq_getElem?_getD, List.getElem?_eq_getElem hlt]
    rw [hd, join_segs_last]

theorem substOf_fills : ∀ {ps : List (List UInt8)} {l : List Pat}, stars ps ≤ l.length → substOf ps l = if (l.take (stars ps)).all single = true then some (fillsOf ps (l.map fun b => b.parts.headD [])) else none
  | [], _, _ => by simp [substOf, fillsOf, stars]
  | x :: ps, l, hl => by
    cases h : star x with
    | none =>
      rw [stars_cons, if_neg (isStar_none h), Nat.add_zero] at hl ⊢
      rw [substOf_comp _ _ h, fillsOf_comp _ _ h, substOf_fills hl]
      split <;> rfl
    | some s =>
      rw [stars_cons, if_pos (isStar_of h)] at hl ⊢
      cases l with
      | nil => simp at hl
      | cons y l =>
        rw [substOf_star _ _ _ h, fillsOf_star _ _ h, List.take_succ_cons, List.all_cons, substOf_fills (by simpa using hl)]
        cases single y with
        | false => simp
        | true =>
          simp only [Bool.true_and, if_true, List.map_cons, List.headD_cons, List.drop_succ_cons, List.drop_zero]
          split <;> rfl
def bindsOk (p : Pat) (l : List Pat) : Bool := decide (l.length = wilds p) && (l.take (stars p.parts)).all single && (!p.rest || restOk (l.getD (stars p.parts) none_))
theorem subst_err (p : Pat) (l : List Pat) : substErr p l = if check p = 0 then (if bindsOk p l then (if p.parts.length + (if p.rest then (l.getD (stars p.parts) none_).parts.length else 0) ≤ 12 then 0 else 31) else 33) else check p := by
  unfold substErr bindsOk
  by_cases hc : check p = 0
  · rw [if_pos hc, if_pos hc]
    by_cases hl : l.length = wilds p
    · have hst : stars p.parts ≤ l.length := by rw [hl]; unfold wilds; omega
      rw [if_pos hl, decide_eq_true hl]
      unfold substPat
      rw [substOf_fills hst]
      cases (l.take (stars p.parts)).all single with
      | false => simp
      | true =>
        cases p.rest with
        | false => simp [fillsOf_len]
        | true => cases restOk (l.getD (stars p.parts) none_) <;> simp [fillsOf_len]
    · simp [hl]
  · rw [if_neg hc, if_neg hc]
theorem subst_val {p : Pat} {l : List Pat} (h : substErr p l = 0) : subst p l = ⟨fillsOf p.parts (l.map fun b => b.parts.headD []) ++ (if p.rest then (l.getD (stars p.parts) none_).parts else []), p.rest && (l.getD (stars p.parts) none_).rest⟩ := by
  obtain ⟨hc, hl, w, hw, _⟩ := substErr_zero.1 h
  unfold subst
  rw [if_pos h, hw]
  simp only
  have hst : stars p.parts ≤ l.length := by rw [hl]; unfold wilds; omega
  unfold substPat at hw
  rw [substOf_fills hst] at hw
  split at hw
  · cases hw
  · rename_i ps he
    split at he
    · injection he with he
      subst he
      cases hr : p.rest with
      | false =>
        rw [hr] at hw
        simp only [Bool.false_eq_true, if_false, Option.some.injEq] at hw
        subst hw
        simp
      | true =>
        rw [hr] at hw
        simp only [if_true] at hw
        split at hw
        · injection hw with hw
          subst hw
          simp
        · cases hw
    · cases he
end Go.Proofs.YtihboibebhokbaaDoor.Pt
