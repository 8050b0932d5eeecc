/- Witnesses, bindings, two patterns with one part. No program. -/
import Derived.Test.YtihboibebhokbaaDoorPatMath3
namespace Go.Proofs.YtihboibebhokbaaDoor.Pt
open Go

/-! ### Witnesses -/

/-- A short component of the part x that is no text of the part y, unless all of x are. -/
def witPart (x : List UInt8) (y : Option (List UInt8)) : List UInt8 :=
  if Lib.hasPrefix x [42] then (if y = some (81 :: x.drop 1) then 82 :: x.drop 1 else 81 :: x.drop 1) else x
def witOf : List (List UInt8) → List (List UInt8) → List (List UInt8)
  | [], _ => []
  | x :: ps, [] => witPart x none :: witOf ps []
  | x :: ps, y :: qs => witPart x (some y) :: witOf ps qs
theorem prefix_star {s : List UInt8} : Lib.hasPrefix (42 :: s) [42] = true := by unfold Lib.hasPrefix; rfl
theorem prefix_comp {x : List UInt8} (h : Pm.comp x = true) : Lib.hasPrefix x [42] = false := by
  cases x with
  | nil => cases h
  | cons c r =>
    have h1 := comp_nb h
    simp only [List.all_cons, Bool.and_eq_true] at h1
    have h2 : (42 : UInt8) ≠ c := by
      rintro rfl
      exact absurd h1.1 (by decide)
    simp [Lib.hasPrefix, List.isPrefixOf, h2]
theorem wit_star (s : List UInt8) (y : Option (List UInt8)) : witPart (42 :: s) y = if y = some (81 :: s) then 82 :: s else 81 :: s := by
  unfold witPart
  rw [prefix_star, if_pos rfl]
  rfl
theorem wit_comp {x : List UInt8} (y : Option (List UInt8)) (h : Pm.comp x = true) : witPart x y = x := by
  unfold witPart
  rw [prefix_comp h]
  rfl
theorem comp_q : Pm.comp [81] = true := by decide
theorem comp_r : Pm.comp [82] = true := by decide
theorem wit_form (s : List UInt8) (y : Option (List UInt8)) : ∃ c, Pm.comp [c] = true ∧ witPart (42 :: s) y = [c] ++ s := by
  rw [wit_star]
  split
  · exact ⟨82, comp_r, rfl⟩
  · exact ⟨81, comp_q, rfl⟩
theorem wit_is_comp {x : List UInt8} (y : Option (List UInt8)) (h : part x = true) : Pm.comp (witPart x y) = true := by
  rcases part_cases h with ⟨s, _, rfl, hs⟩ | ⟨_, hc⟩
  · obtain ⟨c, h1, h2⟩ := wit_form s y
    rw [h2]
    exact comp_append h1 hs
  · rw [wit_comp y hc]; exact hc
theorem wit_pm {x : List UInt8} (y : Option (List UInt8)) (h : part x = true) : pm x (witPart x y) = true := by
  rcases part_cases h with ⟨s, hst, rfl, _⟩ | ⟨hst, hc⟩
  · obtain ⟨c, h1, h2⟩ := wit_form s y
    rw [h2]
    exact (pm_star hst).2 ⟨[c], rfl, h1⟩
  · rw [wit_comp y hc]
    exact (pm_comp hst).2 rfl
theorem suffix_single {c : UInt8} {s t y : List UInt8} (h : [c] ++ s = y ++ t) (hy : y ≠ []) : Lib.hasSuffix s t = true := by
  cases y with
  | nil => exact absurd rfl hy
  | cons d r =>
    simp only [List.cons_append, List.nil_append, List.cons.injEq] at h
    exact suffix_iff.2 ⟨r, h.2⟩
/-- The witness tells whether a part lies within another one. -/
theorem wit_inside {x y : List UInt8} (hx : part x = true) (hy : part y = true) : pm y (witPart x (some y)) = inside x y := by
  rcases part_cases hx with ⟨s, hst, rfl, hs⟩ | ⟨hst, hc⟩
  · rcases part_cases hy with ⟨t, htt, _, _⟩ | ⟨htt, hcy⟩
    · obtain ⟨c, h1, h2⟩ := wit_form s (some y)
      rw [h2, inside_stars hst htt, Bool.eq_iff_iff, pm_star htt]
      constructor
      · rintro ⟨v, h3, hv⟩
        exact suffix_single h3 (Pm.comp_ne hv)
      · intro h
        obtain ⟨u, rfl⟩ := suffix_iff.1 h
        rw [List.all_append, Bool.and_eq_true] at hs
        exact ⟨[c] ++ u, by rw [List.append_assoc], comp_append h1 hs.1⟩
    · rw [inside_comp htt]
      have e1 : decide ((42 :: s : List UInt8) = y) = false := by
        rw [decide_eq_false_iff_not]
        rintro rfl
        rw [comp_star hcy] at hst
        cases hst
      rw [e1, Bool.eq_false_iff]
      intro h
      have h3 := (pm_comp htt).1 h
      rw [wit_star] at h3
      split at h3
      · rename_i h4
        injection h4 with h4
        rw [← h3] at h4
        simp at h4
      · rename_i h4
        exact h4 (by rw [← h3])
  · rw [wit_comp _ hc]
    cases htt : star y with
    | none =>
      rw [inside_comp htt, Bool.eq_iff_iff, pm_comp htt, decide_eq_true_eq]
    | some t => rw [inside_star hst htt]
theorem witOf_len : ∀ ps qs : List (List UInt8), (witOf ps qs).length = ps.length
  | [], _ => by simp [witOf]
  | x :: ps, [] => by rw [witOf, List.length_cons, List.length_cons, witOf_len ps []]
  | x :: ps, y :: qs => by rw [witOf, List.length_cons, List.length_cons, witOf_len ps qs]
theorem witOf_comp : ∀ (ps qs : List (List UInt8)), (∀ x ∈ ps, part x = true) → ∀ c ∈ witOf ps qs, Pm.comp c = true
  | [], _, _ => by simp [witOf]
  | x :: ps, [], h => by
    intro c hc
    rcases List.mem_cons.1 hc with rfl | hc
    · exact wit_is_comp _ (h x (by simp))
    · exact witOf_comp ps [] (fun z hz => h z (List.mem_cons_of_mem _ hz)) c hc
  | x :: ps, y :: qs, h => by
    intro c hc
    rcases List.mem_cons.1 hc with rfl | hc
    · exact wit_is_comp _ (h x (by simp))
    · exact witOf_comp ps qs (fun z hz => h z (List.mem_cons_of_mem _ hz)) c hc
theorem wit_own : ∀ (ps more qs : List (List UInt8)), (∀ x ∈ ps, part x = true) → allPm ps (witOf (ps ++ more) qs) = true
  | [], _, _, _ => rfl
  | x :: ps, more, [], h => by
    rw [List.cons_append, witOf, allPm, wit_pm _ (h x (by simp)), wit_own ps more [] fun z hz => h z (List.mem_cons_of_mem _ hz)]
    rfl
  | x :: ps, more, y :: qs, h => by
    rw [List.cons_append, witOf, allPm, wit_pm _ (h x (by simp)), wit_own ps more qs fun z hz => h z (List.mem_cons_of_mem _ hz)]
    rfl
theorem wit_other : ∀ (ps more qs : List (List UInt8)), (∀ x ∈ ps, part x = true) → (∀ x ∈ qs, part x = true) → qs.length ≤ ps.length → allPm qs (witOf (ps ++ more) qs) = allIn ps qs
  | ps, _, [], _, _, _ => by cases ps <;> rfl
  | [], _, _ :: _, _, _, h => by simp at h
  | x :: ps, more, y :: qs, h1, h2, h3 => by
    rw [List.cons_append, witOf, allPm, allIn, wit_inside (h1 x (by simp)) (h2 y (by simp)),
      wit_other ps more qs (fun z hz => h1 z (List.mem_cons_of_mem _ hz)) (fun z hz => h2 z (List.mem_cons_of_mem _ hz)) (by simpa using h3)]
theorem part_any : part [42] = true := by decide
/-- The witness with n components more than p has parts. -/
def witComps (p q : Pat) (n : Nat) : List (List UInt8) := witOf (p.parts ++ List.replicate n [42]) q.parts
theorem wit_path {p : Pat} (q : Pat) {n : Nat} (h : form p = true) (hn : p.rest = true → 1 ≤ n) : pathO (Pm.join (witComps p q n)) = some (witComps p q n) := by
  refine pathO_some.2 ⟨rfl, ?_, ?_⟩
  · unfold witComps
    rw [witOf_len, List.length_append, List.length_replicate]
    cases hr : p.rest with
    | true => have := form_pos h; have := hn hr; omega
    | false => have := form_two h hr; omega
  · refine witOf_comp _ _ fun x hx => ?_
    rcases List.mem_append.1 hx with hx | hx
    · exact form_parts h x hx
    · rw [List.eq_of_mem_replicate hx]
      exact part_any
theorem wit_len (p q : Pat) (n : Nat) : (witComps p q n).length = p.parts.length + n := by
  unfold witComps
  rw [witOf_len, List.length_append, List.length_replicate]
/-- Each witness matches its pattern. -/
theorem wit_matches {p : Pat} (q : Pat) {n : Nat} (h : check p = 0) (hn : if p.rest then 1 ≤ n else n = 0) : (matchP p (Pm.join (witComps p q n))).isSome = true := by
  have hf := (check_ok.1 h).1
  refine matchP_isSome.2 ⟨h, _, wit_path q hf fun hr => by rw [hr] at hn; exact hn, ?_, ?_⟩
  · rw [wit_len]
    unfold fits
    cases hr : p.rest with
    | true => rw [hr] at hn; simp only [if_true, decide_eq_true_eq] at hn ⊢; omega
    | false => rw [hr] at hn; simp only [Bool.false_eq_true, if_false, decide_eq_true_eq] at hn ⊢; omega
  · exact wit_own _ _ _ (form_parts hf)
theorem wit_other_match {p q : Pat} {n : Nat} (hp : check p = 0) (hq : check q = 0) (hn : if p.rest then 1 ≤ n else n = 0) :
    (matchP q (Pm.join (witComps p q n))).isSome = (fits q (p.parts.length + n) && allPm q.parts (witComps p q n)) := by
  have hf := (check_ok.1 hp).1
  have hpath := wit_path q hf (n := n) fun hr => by rw [hr] at hn; exact hn
  rw [Bool.eq_iff_iff, matchP_isSome, Bool.and_eq_true]
  constructor
  · rintro ⟨_, l, hl, h1, h2⟩
    rw [hpath] at hl
    injection hl with hl
    subst hl
    rw [wit_len] at h1
    exact ⟨h1, h2⟩
  · rintro ⟨h1, h2⟩
    exact ⟨hq, _, hpath, by rw [wit_len]; exact h1, h2⟩
/-- The witnesses tell whether a pattern lies within another one: without Rest. -/
theorem outside_plain {p q : Pat} (hp : check p = 0) (hq : check q = 0) (hr : p.rest = false) : within p q = (matchP q (Pm.join (witComps p q 0))).isSome := by
  rw [wit_other_match hp hq (by rw [hr]; simp), Nat.add_zero]
  have h1 := form_parts (check_ok.1 hp).1
  have h2 := form_parts (check_ok.1 hq).1
  unfold within counts
  rw [decide_eq_true hp, decide_eq_true hq, hr, Bool.true_and, Bool.true_and]
  unfold fits
  by_cases hl : q.parts.length ≤ p.parts.length
  · have e : allPm q.parts (witComps p q 0) = allIn p.parts q.parts := wit_other _ _ _ h1 h2 hl
    rw [e, decide_eq_true hl, Bool.true_and]
    cases q.rest <;> simp
  · rw [decide_eq_false hl, Bool.false_and, Bool.false_and]
    have e : (if q.rest = true then decide (q.parts.length < p.parts.length) else decide (p.parts.length = q.parts.length)) = false := by
      split <;> rw [decide_eq_false_iff_not] <;> omega
    rw [e]
    rfl
/-- .. with Rest: one that has one component more, and one that has two. -/
theorem outside_rest {p q : Pat} (hp : check p = 0) (hq : check q = 0) (hr : p.rest = true) :
    (within p q = true → ∀ n, 1 ≤ n → (matchP q (Pm.join (witComps p q n))).isSome = true) ∧
    ((matchP q (Pm.join (witComps p q 1))).isSome = true → (matchP q (Pm.join (witComps p q 2))).isSome = true → within p q = true) := by
  have h1 := form_parts (check_ok.1 hp).1
  have h2 := form_parts (check_ok.1 hq).1
  constructor
  · intro h n hn
    exact within_match h (wit_matches q hp (by rw [hr]; simpa using hn))
  · intro g1 g2
    rw [wit_other_match hp hq (by rw [hr]; simp), Bool.and_eq_true] at g1 g2
    have hqr : q.rest = true := by
      cases hqr : q.rest with
      | true => rfl
      | false =>
        unfold fits at g1 g2
        rw [hqr] at g1 g2
        simp only [Bool.false_eq_true, if_false, decide_eq_true_eq] at g1 g2
        omega
    have hl : q.parts.length ≤ p.parts.length := by
      have := g1.1
      unfold fits at this
      rw [hqr] at this
      simp only [if_true, decide_eq_true_eq] at this
      omega
    have e : allPm q.parts (witComps p q 1) = allIn p.parts q.parts := wit_other _ _ _ h1 h2 hl
    unfold within counts
    rw [decide_eq_true hp, decide_eq_true hq, decide_eq_true hl, hqr, hr, ← e, g1.2]
    simp

/-! ### Bindings (in the shape of a pattern) -/

def bindOf : List (List UInt8) → List (List UInt8) → List Pat
  | [], _ => []
  | _ :: _, [] => []
  | x :: ps, y :: qs => match star x with
    | none => bindOf ps qs
    | some s => ⟨[y.take (y.length - s.length)], false⟩ :: bindOf ps qs
theorem bindOf_comp {x : List UInt8} (ps : List (List UInt8)) (y : List UInt8) (qs : List (List UInt8)) (h : star x = none) : bindOf (x :: ps) (y :: qs) = bindOf ps qs := by rw [bindOf, h]
theorem bindOf_star {x s : List UInt8} (ps : List (List UInt8)) (y : List UInt8) (qs : List (List UInt8)) (h : star x = some s) : bindOf (x :: ps) (y :: qs) = ⟨[y.take (y.length - s.length)], false⟩ :: bindOf ps qs := by rw [bindOf, h]
def bind (p q : Pat) : Option (List Pat) := if within q p then some (bindOf p.parts q.parts ++ if p.rest then [⟨q.parts.drop p.parts.length, q.rest⟩] else []) else none
def single (b : Pat) : Bool := decide (b.parts.length = 1) && !b.rest && part (b.parts.headD [])
def substOf : List (List UInt8) → List Pat → Option (List (List UInt8))
  | [], _ => some []
  | x :: ps, l => match star x with
    | none => (substOf ps l).map fun r => x :: r
    | some s => match l with
      | [] => none
      | b :: l => if single b then (substOf ps l).map fun r => (b.parts.headD [] ++ s) :: r else none
theorem substOf_comp {x : List UInt8} (ps : List (List UInt8)) (l : List Pat) (h : star x = none) : substOf (x :: ps) l = (substOf ps l).map fun r => x :: r := by rw [substOf, h]
theorem substOf_star {x s : List UInt8} (ps : List (List UInt8)) (b : Pat) (l : List Pat) (h : star x = some s) : substOf (x :: ps) (b :: l) = if single b then (substOf ps l).map fun r => (b.parts.headD [] ++ s) :: r else none := by rw [substOf, h]
def none_ : Pat := ⟨[], false⟩
/-- A binding of Rest. -/
def restOk (b : Pat) : Bool := (decide (b.parts ≠ []) || b.rest) && b.parts.all part
def substPat (p : Pat) (l : List Pat) : Option Pat :=
  match substOf p.parts l with
  | none => none
  | some ps => if p.rest then (if restOk (l.getD (stars p.parts) none_) then some ⟨ps ++ (l.getD (stars p.parts) none_).parts, (l.getD (stars p.parts) none_).rest⟩ else none) else some ⟨ps, false⟩
def substErr (p : Pat) (l : List Pat) : Nat :=
  if check p = 0 then (if l.length = wilds p then (match substPat p l with | none => 33 | some w => if w.parts.length ≤ 12 then 0 else 31) else 33) else check p
def subst (p : Pat) (l : List Pat) : Pat := if substErr p l = 0 then (match substPat p l with | none => none_ | some w => w) else none_
theorem substErr_zero {p : Pat} {l : List Pat} : substErr p l = 0 ↔ check p = 0 ∧ l.length = wilds p ∧ ∃ w, substPat p l = some w ∧ w.parts.length ≤ 12 := by
  unfold substErr
  by_cases h0 : check p = 0
  · rw [if_pos h0]
    by_cases h1 : l.length = wilds p
    · rw [if_pos h1]
      cases substPat p l with
      | none => simp
      | some w =>
        simp only
        by_cases h2 : w.parts.length ≤ 12
        · rw [if_pos h2]; exact ⟨fun _ => ⟨h0, h1, w, rfl, h2⟩, fun _ => rfl⟩
        · rw [if_neg h2]
          constructor
          · intro h; cases h
          · rintro ⟨_, _, w', e, h3⟩
            injection e with e
            subst e
            exact absurd h3 h2
    · rw [if_neg h1]; simp [h1]
  · rw [if_neg h0]; simp [h0]
theorem inside_split {x y s : List UInt8} (hs : star x = some s) (hy : part y = true) (h : inside y x = true) : ∃ u, y = u ++ s ∧ part u = true := by
  rcases part_cases hy with ⟨t, ht, rfl, htn⟩ | ⟨ht, _⟩
  · rw [inside_stars ht hs] at h
    obtain ⟨u, rfl⟩ := suffix_iff.1 h
    rw [List.all_append, Bool.and_eq_true] at htn
    exact ⟨42 :: u, by simp, part_star (star_mk htn.1)⟩
  · rw [inside_star ht hs] at h
    obtain ⟨u, rfl, hu⟩ := (pm_star hs).1 h
    exact ⟨u, rfl, part_comp hu⟩
theorem inside_join {x u s : List UInt8} (hs : star x = some s) (hu : part u = true) : inside (u ++ s) x = true ∧ part (u ++ s) = true := by
  have hsn := (star_some.1 hs).2
  rcases part_cases hu with ⟨t, _, rfl, htn⟩ | ⟨_, hc⟩
  · have h1 : star (42 :: t ++ s) = some (t ++ s) := star_mk (by show (t ++ s).all Pm.nb = true; rw [List.all_append, htn, hsn]; rfl)
    exact ⟨by rw [inside_stars h1 hs]; exact suffix_iff.2 ⟨t, rfl⟩, part_star h1⟩
  · have h1 := comp_append hc hsn
    exact ⟨by rw [inside_star (comp_star h1) hs]; exact (pm_star hs).2 ⟨u, rfl, hc⟩, part_comp h1⟩
/-- Bindings are undone by substitution. -/
theorem subst_bind : ∀ {ps qs : List (List UInt8)} (more : List Pat), (∀ x ∈ qs, part x = true) → allIn qs ps = true → substOf ps (bindOf ps qs ++ more) = some (qs.take ps.length) ∧ (bindOf ps qs).length = stars ps
  | [], _, _, _, _ => by simp [substOf, bindOf, stars]
  | _ :: _, [], _, _, h => by cases h
  | x :: ps, y :: qs, more, hq, h => by
    simp only [allIn, Bool.and_eq_true] at h
    obtain ⟨ih, ih2⟩ := subst_bind more (fun z hz => hq z (List.mem_cons_of_mem _ hz)) h.2
    cases hs : star x with
    | none =>
      rw [bindOf_comp _ _ _ hs, substOf_comp _ _ hs, ih, stars_cons, if_neg (isStar_none hs), ih2]
      have e := h.1
      rw [inside_comp hs, decide_eq_true_eq] at e
      subst e
      simp
    | some s =>
      obtain ⟨u, rfl, hu⟩ := inside_split hs (hq y (by simp)) h.1
      have e : single ⟨[u], false⟩ = true := by simp [single, hu]
      rw [bindOf_star _ _ _ hs, take_suffix, List.cons_append, substOf_star _ _ _ hs, stars_cons, if_pos (isStar_of hs), if_pos e, ih]
      exact ⟨rfl, by rw [List.length_cons, ih2]⟩
theorem narrow_bind {p q : Pat} {m : List Pat} (h : bind p q = some m) : substErr p m = 0 ∧ subst p m = q := by
  unfold bind at h
  split at h
  · rename_i hw
    injection h with h
    obtain ⟨hq0, hp0, hc, ha⟩ := within_parts hw
    have hqp := form_parts (check_ok.1 hq0).1
    have hcl : p.parts.length ≤ q.parts.length := by
      unfold counts at hc
      rw [Bool.and_eq_true, decide_eq_true_eq] at hc
      exact hc.1
    have key : m.length = wilds p ∧ substPat p m = some q := by
      cases hr : p.rest with
      | false =>
        rw [hr] at h
        simp only [Bool.false_eq_true, if_false, List.append_nil] at h
        obtain ⟨h1, h2⟩ := subst_bind [] hqp ha
        rw [List.append_nil] at h1
        subst h
        unfold counts at hc
        rw [hr] at hc
        simp only [Bool.false_eq_true, if_false, Bool.and_eq_true, Bool.not_eq_true', decide_eq_true_eq] at hc
        refine ⟨by unfold wilds; rw [hr]; simpa using h2, ?_⟩
        unfold substPat
        rw [h1, hr]
        simp only [Bool.false_eq_true, if_false, Option.some.injEq]
        refine Pat.ext' ?_ hc.2.1.symm
        simp only
        rw [← hc.2.2, List.take_length]
      | true =>
        rw [hr] at h
        simp only [if_true] at h
        obtain ⟨h1, h2⟩ := subst_bind [⟨q.parts.drop p.parts.length, q.rest⟩] hqp ha
        subst h
        refine ⟨by unfold wilds; rw [hr]; simp [h2], ?_⟩
        have hg : (bindOf p.parts q.parts ++ [(⟨q.parts.drop p.parts.length, q.rest⟩ : Pat)]).getD (stars p.parts) none_ = ⟨q.parts.drop p.parts.length, q.rest⟩ := by
          rw [← h2]
          simp [List.getD]
        have hro : restOk ⟨q.parts.drop p.parts.length, q.rest⟩ = true := by
          unfold restOk
          rw [Bool.and_eq_true, Bool.or_eq_true, decide_eq_true_eq, List.all_eq_true]
          refine ⟨?_, fun x hx => hqp x (List.mem_of_mem_drop hx)⟩
          unfold counts at hc
          rw [hr] at hc
          simp only [if_true, Bool.and_eq_true, Bool.or_eq_true, decide_eq_true_eq] at hc
          rcases hc.2 with h3 | h3
          · left
            intro e
            have := congrArg List.length e
            simp at this
            omega
          · exact .inr h3
        unfold substPat
        rw [h1, hr]
        simp only [if_true]
        rw [hg, if_pos hro]
        simp only [Option.some.injEq]
        refine Pat.ext' ?_ rfl
        simp only
        rw [List.take_append_drop]
    have he : substErr p m = 0 := substErr_zero.2 ⟨hp0, key.1, q, key.2, (check_ok.1 hq0).2⟩
    refine ⟨he, ?_⟩
    unfold subst
    rw [if_pos he, key.2]
  · cases h
/-- Substitutions are undone by binding. -/
theorem bind_subst : ∀ {ps : List (List UInt8)} {l : List Pat} {r : List (List UInt8)} (more : List (List UInt8)), substOf ps l = some r → stars ps ≤ l.length →
    bindOf ps (r ++ more) = l.take (stars ps) ∧ r.length = ps.length ∧ allIn (r ++ more) ps = true
  | [], l, r, more, h, _ => by
    simp only [substOf, Option.some.injEq] at h
    subst h
    refine ⟨by simp [bindOf, stars], rfl, ?_⟩
    cases more <;> rfl
  | x :: ps, l, r, more, h, hn => by
    rw [stars_cons] at hn
    cases hs : star x with
    | none =>
      rw [if_neg (isStar_none hs)] at hn
      rw [substOf_comp _ _ hs] at h
      cases hr : substOf ps l with
      | none => rw [hr] at h; cases h
      | some t =>
        rw [hr] at h
        simp only [Option.map_some, Option.some.injEq] at h
        subst h
        obtain ⟨h1, h2, h3⟩ := bind_subst more hr (by omega)
        rw [List.cons_append, bindOf_comp _ _ _ hs, stars_cons, if_neg (isStar_none hs), allIn, inside_self, h3]
        exact ⟨h1, by rw [List.length_cons, List.length_cons, h2], rfl⟩
    | some s =>
      rw [if_pos (isStar_of hs)] at hn
      cases l with
      | nil => simp at hn
      | cons b l =>
        rw [substOf_star _ _ _ hs] at h
        split at h
        · rename_i hb
          cases hr : substOf ps l with
          | none => rw [hr] at h; cases h
          | some t =>
            rw [hr] at h
            simp only [Option.map_some, Option.some.injEq] at h
            subst h
            obtain ⟨h1, h2, h3⟩ := bind_subst more hr (by simp at hn; omega)
            unfold single at hb
            simp only [Bool.and_eq_true, decide_eq_true_eq, Bool.not_eq_true'] at hb
            obtain ⟨⟨hb1, hb2⟩, hb3⟩ := hb
            obtain ⟨bp, br⟩ := b
            simp only at hb1 hb2 hb3
            subst hb2
            cases bp with
            | nil => simp at hb1
            | cons u w =>
              cases w with
              | cons _ _ => simp at hb1
              | nil =>
                simp only [List.headD_cons] at hb3 ⊢
                rw [List.cons_append, bindOf_star _ _ _ hs, take_suffix, stars_cons, if_pos (isStar_of hs), List.take_succ_cons, allIn, (inside_join hs hb3).1, h3, h1]
                exact ⟨rfl, by rw [List.length_cons, List.length_cons, h2], rfl⟩
        · cases h
theorem subst_parts : ∀ {ps : List (List UInt8)} {l : List Pat} {r : List (List UInt8)}, (∀ x ∈ ps, part x = true) → substOf ps l = some r → ∀ x ∈ r, part x = true
  | [], l, r, _, h => by
    simp only [substOf, Option.some.injEq] at h
    subst h
    simp
  | x :: ps, l, r, hp, h => by
    cases hs : star x with
    | none =>
      rw [substOf_comp _ _ hs] at h
      cases hr : substOf ps l with
      | none => rw [hr] at h; cases h
      | some t =>
        rw [hr] at h
        simp only [Option.map_some, Option.some.injEq] at h
        subst h
        intro z hz
        rcases List.mem_cons.1 hz with rfl | hz
        · exact hp z (by simp)
        · exact subst_parts (fun z hz => hp z (List.mem_cons_of_mem _ hz)) hr z hz
    | some s =>
      cases l with
      | nil => rw [substOf, hs] at h; cases h
      | cons b l =>
        rw [substOf_star _ _ _ hs] at h
        split at h
        · rename_i hb
          cases hr : substOf ps l with
          | none => rw [hr] at h; cases h
          | some t =>
            rw [hr] at h
            simp only [Option.map_some, Option.some.injEq] at h
            subst h
            unfold single at hb
            simp only [Bool.and_eq_true] at hb
            intro z hz
            rcases List.mem_cons.1 hz with rfl | hz
            · exact (inside_join hs hb.2).2
            · exact subst_parts (fun z hz => hp z (List.mem_cons_of_mem _ hz)) hr z hz
        · cases h
theorem narrow_subst {p : Pat} {l : List Pat} (h : substErr p l = 0) : bind p (subst p l) = some l ∧ within (subst p l) p = true := by
  obtain ⟨h0, hlen, w, hw, h12⟩ := substErr_zero.1 h
  have he : subst p l = w := by
    unfold subst
    rw [if_pos h, hw]
  rw [he]
  have hform := (check_ok.1 h0).1
  unfold substPat at hw
  cases hso : substOf p.parts l with
  | none => rw [hso] at hw; cases hw
  | some r =>
    rw [hso] at hw
    simp only at hw
    have hrp := subst_parts (form_parts hform) hso
    obtain ⟨x, t, hpe, hx1, hx2, _⟩ := form_iff.1 hform
    have hhead : ∃ r', r = x :: r' := by
      rw [hpe, substOf_comp _ _ (comp_star hx2)] at hso
      cases hr : substOf t l with
      | none => rw [hr] at hso; cases hso
      | some r' =>
        rw [hr] at hso
        simp only [Option.map_some, Option.some.injEq] at hso
        exact ⟨r', hso.symm⟩
    obtain ⟨r', hr'⟩ := hhead
    unfold wilds at hlen
    cases hrest : p.rest with
    | false =>
      rw [hrest] at hw hlen
      simp only [Bool.false_eq_true, if_false, Option.some.injEq, Nat.add_zero] at hw hlen
      subst hw
      obtain ⟨h1, h2, h3⟩ := bind_subst [] hso (by omega)
      rw [List.append_nil] at h1 h3
      rw [← hlen, List.take_length] at h1
      have hcw : check ⟨r, false⟩ = 0 := by
        refine check_ok.2 ⟨form_iff.2 ⟨x, r', hr', ?_, hx2, fun z hz => hrp z (by rw [hr']; exact List.mem_cons_of_mem _ hz)⟩, h12⟩
        left
        rintro rfl
        have := form_two hform hrest
        rw [hr'] at h2
        simp at h2
        omega
      have hwi : within ⟨r, false⟩ p = true := by
        unfold within counts
        rw [decide_eq_true hcw, decide_eq_true h0, hrest]
        simp [h2, h3]
      refine ⟨?_, hwi⟩
      unfold bind
      rw [if_pos hwi, hrest]
      simp only [Bool.false_eq_true, if_false, List.append_nil, h1]
    | true =>
      rw [hrest] at hw hlen
      simp only [if_true] at hw hlen
      split at hw
      · rename_i hro
        simp only [Option.some.injEq] at hw
        generalize hb : l.getD (stars p.parts) none_ = b at hw hro
        subst hw
        obtain ⟨h1, h2, h3⟩ := bind_subst b.parts hso (by omega)
        unfold restOk at hro
        rw [Bool.and_eq_true, Bool.or_eq_true, decide_eq_true_eq, List.all_eq_true] at hro
        have hcw : check ⟨r ++ b.parts, b.rest⟩ = 0 := by
          refine check_ok.2 ⟨form_iff.2 ⟨x, r' ++ b.parts, by rw [hr']; rfl, ?_, hx2, ?_⟩, h12⟩
          · rcases hro.1 with h4 | h4
            · left
              intro e
              exact h4 (List.append_eq_nil_iff.1 e).2
            · exact .inr h4
          · intro z hz
            rcases List.mem_append.1 hz with hz | hz
            · exact hrp z (by rw [hr']; exact List.mem_cons_of_mem _ hz)
            · exact hro.2 z hz
        have hwi : within ⟨r ++ b.parts, b.rest⟩ p = true := by
          unfold within counts
          rw [decide_eq_true hcw, decide_eq_true h0, hrest, h3]
          simp only [Bool.true_and, if_true, Bool.and_true, Bool.and_eq_true, decide_eq_true_eq, Bool.or_eq_true, List.length_append]
          refine ⟨by omega, ?_⟩
          rcases hro.1 with h4 | h4
          · left
            have := List.length_pos_iff.2 h4
            omega
          · exact .inr h4
        refine ⟨?_, hwi⟩
        unfold bind
        rw [if_pos hwi, hrest]
        simp only [if_true]
        rw [h1, ← h2, List.drop_left]
        have hlt : stars p.parts < l.length := by omega
        have e : b = l[stars p.parts] := by rw [← hb]; simp [List.getD, List.getElem?_eq_getElem hlt]
        have e2 : (⟨b.parts, b.rest⟩ : Pat) = l[stars p.parts] := e
        rw [e2, ← List.take_succ_eq_append_getElem hlt, List.take_of_length_le (by omega)]
      · cases hw

/-! ### Two patterns with one part after the first -/

def two (x : List UInt8) : Pat := ⟨[[97], x], false⟩
theorem two_within {x y : List UInt8} (hx : check (two x) = 0) (hy : check (two y) = 0) : within (two x) (two y) = inside x y := by
  unfold within counts
  rw [decide_eq_true hx, decide_eq_true hy]
  simp [two, allIn, inside_self]
theorem two_meet {x y : List UInt8} (hx : check (two x) = 0) (hy : check (two y) = 0) :
    meet (two x) (two y) = if inside x y then some (two x) else if inside y x then some (two y) else none := by
  unfold meet
  rw [if_pos ⟨hx, hy⟩]
  have e1 : ¬ (two x).parts.length < (two y).parts.length := by simp [two]
  rw [if_neg e1]
  unfold meetLong
  have e2 : meetOf (two x).parts (two y).parts = if inside x y then some [[97], x] else if inside y x then some [[97], y] else none := by
    show meetOf [[97], x] [[97], y] = _
    rw [meetOf_cons, inside_self, if_pos rfl, meetOf_cons, meetOf_nil]
    by_cases h1 : inside x y = true
    · simp [h1]
    · by_cases h2 : inside y x = true
      · simp [h1, h2]
      · simp [h1, h2]
  rw [e2]
  by_cases h1 : inside x y = true
  · simp [h1, two]
  · by_cases h2 : inside y x = true
    · simp [h1, h2, two]
    · simp [h1, h2, two]
end Go.Proofs.YtihboibebhokbaaDoor.Pt
