/- The plain mathematics of layer 4 (lines). No program. The plain mathematics of layer 4: what restricted and composed lines relate. No program. Plain mathematics: how long the parts of narrowed patterns are. No program. -/
import Derived.Test.YtihboibebhokbaaDoorPatReal
namespace Go.Proofs.YtihboibebhokbaaDoor.Pt
open Go

structure Rul where
  ex : Bool
  left : Pat
  right : Pat
def rcheck (r : Rul) : Nat := if check r.left = 0 then (if check r.right = 0 then (if stars r.left.parts = stars r.right.parts ∧ r.left.rest = r.right.rest then 0 else 42) else 41) else 40
theorem rcheck_zero {r : Rul} : rcheck r = 0 ↔ check r.left = 0 ∧ check r.right = 0 ∧ stars r.left.parts = stars r.right.parts ∧ r.left.rest = r.right.rest := by
  unfold rcheck
  constructor
  · intro h
    split at h
    · rename_i h1
      split at h
      · rename_i h2
        split at h
        · rename_i h3
          exact ⟨h1, h2, h3⟩
        · cases h
      · cases h
    · cases h
  · rintro ⟨h1, h2, h3⟩
    rw [if_pos h1, if_pos h2, if_pos h3]
def zeroR : Rul := ⟨false, none_, none_⟩
def turnR (r : Rul) : Rul := ⟨r.ex, r.right, r.left⟩
theorem turn_turn (r : Rul) : turnR (turnR r) = r := rfl
theorem turn_check {r : Rul} (h : rcheck r = 0) : rcheck (turnR r) = 0 := by
  obtain ⟨h1, h2, h3, h4⟩ := rcheck_zero.1 h
  exact rcheck_zero.2 ⟨h2, h1, h3.symm, h4.symm⟩
def fwd (r : Rul) (s : List UInt8) : Option (List UInt8) :=
  if rcheck r = 0 then (match matchP r.left s with
    | none => none
    | some caps => if fillErr r.right caps = 0 then some (filled r.right caps) else none) else none
/-- The restriction to the left paths of p; its error. -/
def nleft (r : Rul) (p : Pat) : Option Rul :=
  if rcheck r = 0 then (if check p = 0 then (match meet r.left p with
    | none => none
    | some m => if substErr r.right ((bind r.left m).getD []) = 0 then some ⟨false, m, subst r.right ((bind r.left m).getD [])⟩ else none) else none) else none
def nleftE (r : Rul) (p : Pat) : Nat :=
  if rcheck r = 0 then (if check p = 0 then (match meet r.left p with
    | none => 0
    | some m => if substErr r.right ((bind r.left m).getD []) = 0 then 0 else 43) else check p) else rcheck r
def nright (r : Rul) (p : Pat) : Option Rul := (nleft (turnR r) p).map turnR
def nrightE (r : Rul) (p : Pat) : Nat := if rcheck r = 0 then nleftE (turnR r) p else rcheck r
/-- The composition as the program makes it. -/
def chain (a b : Rul) : Option Rul :=
  if rcheck a = 0 ∧ rcheck b = 0 then (match nright a b.left with
    | none => none
    | some x => match nleft b x.right with
      | none => none
      | some y => some ⟨false, x.left, y.right⟩) else none
def chainE (a b : Rul) : Nat :=
  if rcheck a = 0 then (if rcheck b = 0 then (match nright a b.left with
    | none => nrightE a b.left
    | some x => nleftE b x.right) else rcheck b) else rcheck a
/-- The same as the reference makes it. -/
def chainR (a b : Rul) : Option Rul :=
  if rcheck a = 0 ∧ rcheck b = 0 then (match meet a.right b.left with
    | none => none
    | some m => match nright a m, nleft b m with
      | some x, some y => some ⟨false, x.left, y.right⟩
      | _, _ => none) else none
def chainRE (a b : Rul) : Nat :=
  if rcheck a = 0 then (if rcheck b = 0 then (match meet a.right b.left with
    | none => 0
    | some m => match nright a m, nleft b m with
      | some _, some _ => 0
      | _, _ => 43) else rcheck b) else rcheck a

theorem star_app {u s : List UInt8} (hu : part u = true) (hs : s.all Pm.nb = true) : star (u ++ s) = (star u).map fun t => t ++ s := by
  rcases part_cases hu with ⟨t, h1, h2, h3⟩ | ⟨h1, h2⟩
  · rw [h1, h2]
    exact star_mk (s := t ++ s) (by rw [List.all_append, h3, hs]; rfl)
  · rw [h1, comp_star (comp_append h2 hs)]
    rfl
theorem fills_fills : ∀ {ps X C : List (List UInt8)}, (∀ x ∈ ps, part x = true) → (∀ x ∈ X, part x = true) → stars ps ≤ X.length → fillsOf (fillsOf ps X) C = fillsOf ps (fillsOf X C)
  | [], _, _, _, _, _ => rfl
  | x :: ps, X, C, h1, h2, hl => by
    have ih := fun X' C' g2 gl => fills_fills (ps := ps) (X := X') (C := C') (fun z hz => h1 z (List.mem_cons_of_mem _ hz)) g2 gl
    cases hs : star x with
    | none =>
      rw [stars_cons, if_neg (isStar_none hs)] at hl
      rw [fillsOf_comp _ _ hs, fillsOf_comp _ _ hs, fillsOf_comp _ _ hs, ih X C h2 (by omega)]
    | some s =>
      rw [stars_cons, if_pos (isStar_of hs)] at hl
      cases X with
      | nil => simp at hl
      | cons u X =>
        have hnb := (star_some.1 hs).2
        have h2' : ∀ z ∈ X, part z = true := fun z hz => h2 z (List.mem_cons_of_mem _ hz)
        have hl' : stars ps ≤ X.length := by simp at hl; omega
        rw [fillsOf_star ps (u :: X) hs, List.headD_cons, List.drop_succ_cons, List.drop_zero]
        have e := star_app (h2 u (by simp)) hnb
        cases hu : star u with
        | none =>
          rw [hu] at e
          rw [fillsOf_comp _ _ e, ih X C h2' hl', fillsOf_comp X C hu, fillsOf_star ps _ hs, List.headD_cons, List.drop_succ_cons, List.drop_zero]
        | some t =>
          rw [hu] at e
          rw [fillsOf_star (s := t ++ s) _ _ e, ih X _ h2' hl', fillsOf_star X C hu, fillsOf_star ps _ hs, List.headD_cons, List.drop_succ_cons, List.drop_zero, List.append_assoc]
theorem stars_fills : ∀ {ps X : List (List UInt8)}, (∀ x ∈ ps, part x = true) → (∀ x ∈ X, part x = true) → stars ps = X.length → stars (fillsOf ps X) = stars X
  | [], X, _, _, h => by
    have : X = [] := List.eq_nil_of_length_eq_zero (by rw [← h]; rfl)
    subst this
    rfl
  | x :: ps, X, h1, h2, hl => by
    have ih := fun X' g2 gl => stars_fills (ps := ps) (X := X') (fun z hz => h1 z (List.mem_cons_of_mem _ hz)) g2 gl
    cases hs : star x with
    | none =>
      rw [stars_cons, if_neg (isStar_none hs), Nat.add_zero] at hl
      rw [fillsOf_comp _ _ hs, stars_cons, if_neg (isStar_none hs), Nat.add_zero, ih X h2 hl]
    | some s =>
      rw [stars_cons, if_pos (isStar_of hs)] at hl
      cases X with
      | nil => simp at hl
      | cons u X =>
        have h2' : ∀ z ∈ X, part z = true := fun z hz => h2 z (List.mem_cons_of_mem _ hz)
        rw [fillsOf_star ps (u :: X) hs, List.headD_cons, List.drop_succ_cons, List.drop_zero, stars_cons, stars_cons, ih X h2' (by simpa using hl)]
        have e := star_app (h2 u (by simp)) (star_some.1 hs).2
        unfold isStar
        rw [e]
        cases star u <;> rfl
theorem fills_append : ∀ (ps qs C : List (List UInt8)), fillsOf (ps ++ qs) C = fillsOf ps C ++ fillsOf qs (C.drop (stars ps))
  | [], _, _ => by simp [fillsOf, stars]
  | x :: ps, qs, C => by
    rw [List.cons_append, stars_cons]
    cases hs : star x with
    | none => rw [fillsOf_comp _ _ hs, fillsOf_comp _ _ hs, fills_append ps qs C, if_neg (isStar_none hs)]; rfl
    | some s =>
      rw [fillsOf_star _ _ hs, fillsOf_star _ _ hs, fills_append ps qs _, if_pos (isStar_of hs), List.drop_drop, Nat.add_comm 1]
      rfl
theorem fills_comp : ∀ {X C : List (List UInt8)}, (∀ x ∈ X, part x = true) → stars X ≤ C.length → (C.take (stars X)).all Pm.comp = true → (fillsOf X C).all Pm.comp = true
  | [], _, _, _, _ => rfl
  | x :: X, C, h1, hl, hc => by
    have ih := fun C' => fills_comp (X := X) (C := C') (fun z hz => h1 z (List.mem_cons_of_mem _ hz))
    rw [stars_cons] at hl hc
    rcases part_cases (h1 x (by simp)) with ⟨s, g1, g2, g3⟩ | ⟨g1, g2⟩
    · rw [if_pos (isStar_of g1)] at hl hc
      rw [fillsOf_star _ _ g1]
      cases C with
      | nil => simp at hl
      | cons y C =>
        rw [List.take_succ_cons, List.all_cons, Bool.and_eq_true] at hc
        rw [List.headD_cons, List.drop_succ_cons, List.drop_zero, List.all_cons, comp_append hc.1 g3, Bool.true_and]
        exact ih C (by simpa using hl) hc.2
    · rw [if_neg (isStar_none g1), Nat.add_zero] at hl hc
      rw [fillsOf_comp _ _ g1, List.all_cons, g2, Bool.true_and]
      exact ih C hl hc
theorem stars_append (a b : List (List UInt8)) : stars (a ++ b) = stars a + stars b := by simp [stars]

def heads (l : List Pat) : List (List UInt8) := l.map fun b => b.parts.headD []
/-- The captures of the wide pattern out of those of the narrowed one. -/
def app (n : Nat) (r : Bool) (l : List Pat) (C : List (List UInt8)) : List (List UInt8) :=
  fillsOf ((heads l).take n) C ++ if r then [Lib.join (fillsOf (l.getD n none_).parts (C.drop (stars ((heads l).take n))) ++ C.drop (stars ((heads l).take n) + stars (l.getD n none_).parts)) [47]] else []

theorem subst_check {p : Pat} {l : List Pat} (h : substErr p l = 0) : check (subst p l) = 0 := (within_parts (narrow_subst h).2).1
theorem subst_form {p : Pat} {l : List Pat} (h : substErr p l = 0) : check p = 0 ∧ l.length = wilds p ∧ (∀ x ∈ (heads l).take (stars p.parts), part x = true) ∧ ((heads l).take (stars p.parts)).length = stars p.parts ∧ (p.rest = true → restOk (l.getD (stars p.parts) none_) = true) ∧
    (subst p l).parts = fillsOf p.parts ((heads l).take (stars p.parts)) ++ (if p.rest then (l.getD (stars p.parts) none_).parts else []) ∧ (subst p l).rest = (p.rest && (l.getD (stars p.parts) none_).rest) := by
  have e := subst_err p l
  rw [h] at e
  have hc := (substErr_zero.1 h).1
  rw [if_pos hc] at e
  have hb : bindsOk p l = true := by
    cases hb : bindsOk p l with
    | true => rfl
    | false => rw [hb] at e; simp at e
  unfold bindsOk at hb
  simp only [Bool.and_eq_true, decide_eq_true_eq, Bool.or_eq_true, Bool.not_eq_true', List.all_eq_true] at hb
  obtain ⟨⟨h1, h2⟩, h3⟩ := hb
  have hv := subst_val h
  refine ⟨hc, h1, ?_, ?_, ?_, ?_, ?_⟩
  · intro x hx
    unfold heads at hx
    rw [← List.map_take] at hx
    obtain ⟨b, hb, rfl⟩ := List.mem_map.1 hx
    have := h2 b hb
    unfold single at this
    rw [Bool.and_eq_true] at this
    exact this.2
  · rw [List.length_take]
    unfold heads
    rw [List.length_map, h1]
    unfold wilds
    omega
  · intro hr
    rcases h3 with h3 | h3
    · rw [h3] at hr; cases hr
    · exact h3
  · rw [hv, fillsOf_take]
    rfl
  · rw [hv]
theorem all_of_segs {L : List (List UInt8)} {c : List UInt8} (h1 : L.all Pm.comp = true) (h2 : (Pm.segs c).all Pm.comp = true) : (Pm.segs (Lib.join (L ++ [c]) [47])).all Pm.comp = true := by
  have e : Lib.join (L ++ [c]) [47] = Lib.join (L ++ Pm.segs c) [47] := by
    have := join_segs_last L c
    unfold Pm.join at this
    simpa using this.symm
  have h3 : (L ++ Pm.segs c).all Pm.comp = true := by rw [List.all_append, h1, h2]; rfl
  have e2 := segs_parts (l := L ++ Pm.segs c) (by simp [Pm.segs_ne]) (fun x hx => part_slash (part_comp (List.all_eq_true.1 h3 x hx)))
  have e3 : (Pm.join (L ++ Pm.segs c)).drop 2 = Lib.join (L ++ Pm.segs c) [47] := rfl
  rw [e3] at e2
  rw [e, e2]
  exact h3
theorem segs_comps {L : List (List UInt8)} (hne : L ≠ []) (h1 : L.all Pm.comp = true) : (Pm.segs (Lib.join L [47])).all Pm.comp = true := by
  have e2 := segs_parts (l := L) hne (fun x hx => part_slash (part_comp (List.all_eq_true.1 h1 x hx)))
  have e3 : (Pm.join L).drop 2 = Lib.join L [47] := rfl
  rw [e3] at e2
  rw [e2]
  exact h1
theorem join_one_app (L : List (List UInt8)) {R : List (List UInt8)} (hR : R ≠ []) : Pm.join (L ++ [Lib.join R [47]]) = Pm.join (L ++ R) := by
  unfold Pm.join
  cases L with
  | nil => rw [List.nil_append, List.nil_append, Lib.join_one]
  | cons x r => rw [Pm.join_append _ _ (by simp) hR, Pm.join_append _ _ (by simp) (by simp), Lib.join_one]
theorem capsOk_iff {p : Pat} {C : List (List UInt8)} : fillErr p C = 0 ↔ check p = 0 ∧ C.length = wilds p ∧ (C.take (stars p.parts)).all Pm.comp = true ∧ (p.rest = true → (Pm.segs (C.getD (stars p.parts) [])).all Pm.comp = true) := by
  rw [fill_err]
  constructor
  · intro h
    by_cases hc : check p = 0
    · rw [if_pos hc] at h
      cases hk : capsOk p C with
      | false => rw [hk] at h; simp at h
      | true =>
        unfold capsOk at hk
        simp only [Bool.and_eq_true, decide_eq_true_eq, Bool.or_eq_true, Bool.not_eq_true'] at hk
        refine ⟨hc, hk.1.1, hk.1.2, fun hr => ?_⟩
        rcases hk.2 with h3 | h3
        · rw [h3] at hr; cases hr
        · exact h3
    · rw [if_neg hc] at h
      exact absurd h hc
  · rintro ⟨hc, h1, h2, h3⟩
    have hk : capsOk p C = true := by
      unfold capsOk
      rw [decide_eq_true h1, h2]
      cases hr : p.rest with
      | false => rfl
      | true => rw [h3 hr]; rfl
    rw [if_pos hc, hk]
    rfl
/-- What fills the narrowed pattern fills the wide one, by these captures. -/
theorem fill_subst {p : Pat} {l : List Pat} {C : List (List UInt8)} (h : substErr p l = 0) (hC : fillErr (subst p l) C = 0) :
    fillErr p (app (stars p.parts) p.rest l C) = 0 ∧ filled p (app (stars p.parts) p.rest l C) = filled (subst p l) C := by
  obtain ⟨hc, hlen, hX, hXl, hrb, hwp, hwr⟩ := subst_form h
  have hpp := form_parts (check_ok.1 hc).1
  obtain ⟨hcw, hCl, hC1, hC2⟩ := capsOk_iff.1 hC
  have hkw : capsOk (subst p l) C = true := by
    cases hk : capsOk (subst p l) C with
    | true => rfl
    | false =>
      rw [fill_err, if_pos hcw, hk] at hC
      simp at hC
  have hft := fill_text hcw hkw
  unfold app
  generalize hb : l.getD (stars p.parts) none_ = b at hrb hwp hwr ⊢
  generalize (heads l).take (stars p.parts) = X at hX hXl hwp ⊢
  have hsf := stars_fills (ps := p.parts) (X := X) hpp hX hXl.symm
  have hff := fun C' => fills_fills (ps := p.parts) (X := X) (C := C') hpp hX (by omega)
  generalize hw : subst p l = w at *
  cases hr : p.rest with
  | false =>
    rw [hr] at hwp hwr
    simp only [Bool.false_eq_true, if_false, List.append_nil, Bool.false_and] at hwp hwr ⊢
    have hsw : stars w.parts = stars X := by rw [hwp, hsf]
    have hCX : C.length = stars X := by rw [hCl]; unfold wilds; rw [hwr, hsw]; simp
    have hall := fills_comp (C := C) hX (by omega) (by rw [← hsw]; exact hC1)
    have hk : fillErr p (fillsOf X C) = 0 := by
      refine capsOk_iff.2 ⟨hc, ?_, ?_, fun h => by rw [hr] at h; cases h⟩
      · rw [fillsOf_len, hXl]; unfold wilds; rw [hr]; simp
      · rw [List.take_of_length_le (by rw [fillsOf_len, hXl]; exact Nat.le_refl _)]; exact hall
    refine ⟨hk, ?_⟩
    have hkk : capsOk p (fillsOf X C) = true := by
      cases hk2 : capsOk p (fillsOf X C) with
      | true => rfl
      | false => rw [fill_err, if_pos hc, hk2] at hk; simp at hk
    rw [hft, fill_text hc hkk, hwp, hff, hsf, List.drop_of_length_le (by rw [fillsOf_len, hXl]; exact Nat.le_refl _), List.drop_of_length_le (l := C) (i := stars X) (by omega)]
  | true =>
    rw [hr] at hwp hwr
    simp only [if_true, Bool.true_and] at hwp hwr ⊢
    have hro := hrb hr
    unfold restOk at hro
    rw [Bool.and_eq_true, Bool.or_eq_true, decide_eq_true_eq, List.all_eq_true] at hro
    have hsw : stars w.parts = stars X + stars b.parts := by rw [hwp, stars_append, hsf]
    have hCX : C.length = stars X + stars b.parts + if b.rest then 1 else 0 := by rw [hCl]; unfold wilds; rw [hwr, hsw]
    rw [hsw] at hC1 hC2
    have hC1' := List.all_eq_true.1 hC1
    have hall := fills_comp (C := C) hX (by omega) (List.all_eq_true.2 fun x hx => hC1' x (by
      rw [List.mem_take_iff_getElem] at hx ⊢
      obtain ⟨i, hi, rfl⟩ := hx
      exact ⟨i, by omega, rfl⟩))
    have hall2 := fills_comp (X := b.parts) (C := C.drop (stars X)) hro.2 (by rw [List.length_drop]; omega) (List.all_eq_true.2 fun x hx => hC1' x (by
      rw [List.take_drop] at hx
      exact List.mem_of_mem_drop hx))
    generalize hR : fillsOf b.parts (C.drop (stars X)) ++ C.drop (stars X + stars b.parts) = R
    have hRne : R ≠ [] := by
      intro h0
      rw [← hR] at h0
      have h1 := congrArg List.length h0
      rw [List.length_append, fillsOf_len, List.length_drop, List.length_nil] at h1
      rcases hro.1 with h2 | h2
      · have := List.length_pos_iff.2 h2; omega
      · rw [h2] at hCX; simp at hCX; omega
    have hRs : (Pm.segs (Lib.join R [47])).all Pm.comp = true := by
      cases hbr : b.rest with
      | false =>
        rw [hbr] at hCX
        simp only [Bool.false_eq_true, if_false, Nat.add_zero] at hCX
        have hd0 : C.drop (stars X + stars b.parts) = [] := List.drop_of_length_le (by omega)
        rw [hd0, List.append_nil] at hR
        subst hR
        exact segs_comps hRne hall2
      | true =>
        rw [hbr] at hCX
        simp only [if_true] at hCX
        have hlt : stars X + stars b.parts < C.length := by omega
        have hd : C.drop (stars X + stars b.parts) = [C.getD (stars X + stars b.parts) []] := by
          rw [List.drop_eq_getElem_cons hlt, List.drop_of_length_le (by omega)]
          simp [List.getD_eq_getElem?_getD, List.getElem?_eq_getElem hlt]
        rw [hd] at hR
        subst hR
        exact all_of_segs hall2 (hC2 (by rw [hwr, hbr]))
    have hlen2 : (fillsOf X C).length = stars p.parts := by rw [fillsOf_len, hXl]
    have hk : fillErr p (fillsOf X C ++ [Lib.join R [47]]) = 0 := by
      refine capsOk_iff.2 ⟨hc, ?_, ?_, fun _ => ?_⟩
      · rw [List.length_append, hlen2]; unfold wilds; rw [hr]; rfl
      · rw [List.take_left' hlen2]; exact hall
      · rw [List.getD_eq_getElem?_getD, List.getElem?_append_right (by omega), hlen2]
        simpa using hRs
    refine ⟨hk, ?_⟩
    have hkk : capsOk p (fillsOf X C ++ [Lib.join R [47]]) = true := by
      cases hk2 : capsOk p (fillsOf X C ++ [Lib.join R [47]]) with
      | true => rfl
      | false => rw [fill_err, if_pos hc, hk2] at hk; simp at hk
    rw [hft, fill_text hc hkk, List.drop_left' hlen2, ← fillsOf_take p.parts (fillsOf X C ++ _), List.take_left' hlen2, join_one_app _ hRne, hwp, fills_append, hff, hsf, stars_append, hsf, List.append_assoc, hR]
end Go.Proofs.YtihboibebhokbaaDoor.Pt

namespace Go.Proofs.YtihboibebhokbaaDoor.Pt
open Go

theorem within_of_all {p q : Pat} (hp : check p = 0) (hq : check q = 0) (h : ∀ s, (matchP p s).isSome = true → (matchP q s).isSome = true) : within p q = true := by
  cases hr : p.rest with
  | false =>
    rw [outside_plain hp hq hr]
    exact h _ (wit_matches q hp (by rw [hr]; rfl))
  | true =>
    have hw := fun n (hn : 1 ≤ n) => h _ (wit_matches q (n := n) hp (by rw [hr]; exact hn))
    exact (outside_rest hp hq hr).2 (hw 1 (by omega)) (hw 2 (by omega))
theorem some_path {p : Pat} (hp : check p = 0) : ∃ s, (matchP p s).isSome = true := by
  cases hr : p.rest with
  | false => exact ⟨_, wit_matches p (n := 0) hp (by rw [hr]; rfl)⟩
  | true => exact ⟨_, wit_matches p (n := 1) hp (by rw [hr]; exact Nat.le_refl 1)⟩
theorem allIn_anti : ∀ {ps qs : List (List UInt8)}, ps.length = qs.length → (∀ x ∈ ps, part x = true) → (∀ x ∈ qs, part x = true) → allIn ps qs = true → allIn qs ps = true → ps = qs
  | [], [], _, _, _, _, _ => rfl
  | [], _ :: _, h, _, _, _, _ => by simp at h
  | _ :: _, [], h, _, _, _, _ => by simp at h
  | x :: ps, y :: qs, h, h1, h2, a, b => by
    simp only [allIn, Bool.and_eq_true] at a b
    have e := inside_anti (h1 x (by simp)) (h2 y (by simp)) a.1 b.1
    have ih := allIn_anti (ps := ps) (qs := qs) (by simpa using h) (fun z hz => h1 z (List.mem_cons_of_mem _ hz)) (fun z hz => h2 z (List.mem_cons_of_mem _ hz)) a.2 b.2
    rw [e, ih]
theorem within_anti {p q : Pat} (h1 : within p q = true) (h2 : within q p = true) : p = q := by
  obtain ⟨a1, a2, a3, a4⟩ := within_parts h1
  obtain ⟨_, _, b3, b4⟩ := within_parts h2
  unfold counts at a3 b3
  simp only [Bool.and_eq_true, decide_eq_true_eq] at a3 b3
  have hl : p.parts.length = q.parts.length := by omega
  refine Pat.ext' (allIn_anti hl (form_parts (check_ok.1 a1).1) (form_parts (check_ok.1 a2).1) a4 b4) ?_
  have x3 := a3.2
  have y3 := b3.2
  cases hp : p.rest <;> cases hq : q.rest <;> simp_all
theorem pat_ext {p q : Pat} (hp : check p = 0) (hq : check q = 0) (h : ∀ s, (matchP p s).isSome = (matchP q s).isSome) : p = q :=
  within_anti (within_of_all hp hq fun s hs => by rw [← h s]; exact hs) (within_of_all hq hp fun s hs => by rw [h s]; exact hs)
theorem meet_some {p q m : Pat} (h : meet p q = some m) (s : List UInt8) : ((matchP p s).isSome && (matchP q s).isSome) = (matchP m s).isSome := by
  have := meet_match p q s
  rw [h] at this
  exact this
theorem meet_none {p q : Pat} (h : meet p q = none) (s : List UInt8) : ((matchP p s).isSome && (matchP q s).isSome) = false := by
  have := meet_match p q s
  rw [h] at this
  exact this
theorem meet_checks {p q m : Pat} (h : meet p q = some m) : check p = 0 ∧ check q = 0 ∧ check m = 0 := by
  refine ⟨?_, ?_, meet_ok h⟩
  · unfold meet at h
    split at h
    · rename_i h0; exact h0.1
    · cases h
  · unfold meet at h
    split at h
    · rename_i h0; exact h0.2
    · cases h
theorem meet_within {p q m : Pat} (h : meet p q = some m) : within m p = true ∧ within m q = true := by
  obtain ⟨hp, hq, hm⟩ := meet_checks h
  refine ⟨within_of_all hm hp fun s hs => ?_, within_of_all hm hq fun s hs => ?_⟩
  · rw [← meet_some h, Bool.and_eq_true] at hs; exact hs.1
  · rw [← meet_some h, Bool.and_eq_true] at hs; exact hs.2
theorem meet_self {p m : Pat} (h : within m p = true) : meet p m = some m := by
  obtain ⟨hm, hp, _, _⟩ := within_parts h
  cases hx : meet p m with
  | none =>
    obtain ⟨s, hs⟩ := some_path hm
    have := meet_none hx s
    rw [hs, within_match h hs] at this
    cases this
  | some x =>
    congr 1
    refine pat_ext (meet_ok hx) hm fun s => ?_
    rw [← meet_some hx]
    cases hs : (matchP m s).isSome with
    | false => simp
    | true => rw [within_match h hs]; rfl
theorem bind_within {p q : Pat} (h : within q p = true) : ∃ l, bind p q = some l ∧ substErr p l = 0 ∧ subst p l = q := by
  unfold bind
  rw [if_pos h]
  refine ⟨_, rfl, narrow_bind ?_⟩
  unfold bind
  rw [if_pos h]
theorem meet_comm {p q : Pat} : meet p q = meet q p := by
  have hw : ∀ {a b m : Pat}, meet a b = some m → meet b a = some m := fun {a b m} h => by
    obtain ⟨ha, hb, hm⟩ := meet_checks h
    cases hx : meet b a with
    | none =>
      obtain ⟨s, hs⟩ := some_path hm
      have h1 := meet_some h s
      have h2 := meet_none hx s
      rw [Bool.and_comm, h1, hs] at h2
      cases h2
    | some x =>
      congr 1
      refine pat_ext (meet_ok hx) hm fun s => ?_
      rw [← meet_some hx, ← meet_some h, Bool.and_comm]
  cases hx : meet p q with
  | some m => rw [hw hx]
  | none =>
    cases hy : meet q p with
    | none => rfl
    | some m => rw [hw hy] at hx; cases hx

theorem same_caps {p q : Pat} {C : List (List UInt8)} (h1 : stars p.parts = stars q.parts) (h2 : p.rest = q.rest) (hq : check q = 0) (h : fillErr p C = 0) : fillErr q C = 0 := by
  obtain ⟨_, a2, a3, a4⟩ := capsOk_iff.1 h
  refine capsOk_iff.2 ⟨hq, ?_, ?_, ?_⟩
  · rw [a2]; unfold wilds; rw [h1, h2]
  · rw [← h1]; exact a3
  · rw [← h1, ← h2]; exact a4
theorem fwd_some {r : Rul} {s t : List UInt8} : fwd r s = some t ↔ rcheck r = 0 ∧ ∃ C, matchP r.left s = some C ∧ matchP r.right t = some C := by
  unfold fwd
  constructor
  · intro h
    split at h
    · rename_i hc
      refine ⟨hc, ?_⟩
      split at h
      · cases h
      · rename_i C hC
        split at h
        · rename_i hf
          injection h with h
          subst h
          exact ⟨C, hC, match_fill hf⟩
        · cases h
    · cases h
  · rintro ⟨hc, C, h1, h2⟩
    obtain ⟨f1, f2⟩ := fill_match h2
    rw [if_pos hc, h1]
    simp only
    rw [if_pos f1, f2]
theorem fwd_turn {r : Rul} {s t : List UInt8} : fwd r s = some t ↔ fwd (turnR r) t = some s := by
  rw [fwd_some, fwd_some]
  constructor
  · rintro ⟨h, C, h1, h2⟩
    exact ⟨turn_check h, C, h2, h1⟩
  · rintro ⟨h, C, h1, h2⟩
    exact ⟨turn_check h, C, h2, h1⟩
theorem fwd_match {r : Rul} (hc : rcheck r = 0) (s : List UInt8) : (fwd r s).isSome = (matchP r.left s).isSome := by
  cases h : matchP r.left s with
  | none =>
    unfold fwd
    rw [if_pos hc, h]
    rfl
  | some C =>
    obtain ⟨_, c2, c3, c4⟩ := rcheck_zero.1 hc
    unfold fwd
    rw [if_pos hc, h]
    simp only
    rw [if_pos (same_caps c3 c4 c2 (fill_match h).1)]
    rfl
theorem fwd_back {r : Rul} {s t : List UInt8} (h : fwd r s = some t) : (matchP r.left s).isSome = true ∧ (matchP r.right t).isSome = true := by
  obtain ⟨_, C, h1, h2⟩ := fwd_some.1 h
  rw [h1, h2]
  exact ⟨rfl, rfl⟩
theorem opt_ext {α : Type} {a b : Option α} (h : ∀ x, a = some x ↔ b = some x) : a = b := by
  cases ha : a with
  | none =>
    cases hb : b with
    | none => rfl
    | some x => rw [(h x).2 hb] at ha; cases ha
  | some x => rw [(h x).1 ha]
theorem rul_ext {a b : Rul} (ha : rcheck a = 0) (hb : rcheck b = 0) (he : a.ex = b.ex) (h : ∀ s, fwd a s = fwd b s) : a = b := by
  obtain ⟨a1, a2, _, _⟩ := rcheck_zero.1 ha
  obtain ⟨b1, b2, _, _⟩ := rcheck_zero.1 hb
  have hl : a.left = b.left := pat_ext a1 b1 fun s => by rw [← fwd_match ha, ← fwd_match hb, h]
  have hr : a.right = b.right := pat_ext a2 b2 fun t => by
    have ea := fwd_match (turn_check ha) t
    have eb := fwd_match (turn_check hb) t
    rw [show a.right = (turnR a).left from rfl, show b.right = (turnR b).left from rfl, ← ea, ← eb]
    congr 1
    refine opt_ext fun x => ?_
    rw [← fwd_turn, ← fwd_turn, h]
  obtain ⟨e1, l1, r1⟩ := a
  obtain ⟨e2, l2, r2⟩ := b
  simp only at he hl hr
  rw [he, hl, hr]

/-- How many wildcards a narrowed pattern has. -/
theorem subst_kinds {p q : Pat} {l : List Pat} (hp : substErr p l = 0) (hq : substErr q l = 0) (hs : stars p.parts = stars q.parts) (hr : p.rest = q.rest) :
    stars (subst p l).parts = stars (subst q l).parts ∧ (subst p l).rest = (subst q l).rest := by
  obtain ⟨p1, _, p3, p4, _, p6, p7⟩ := subst_form hp
  obtain ⟨q1, _, q3, q4, _, q6, q7⟩ := subst_form hq
  rw [p7, q7, p6, q6, stars_append, stars_append, stars_fills (form_parts (check_ok.1 p1).1) p3 p4.symm, stars_fills (form_parts (check_ok.1 q1).1) q3 q4.symm, hs, hr]
  exact ⟨rfl, rfl⟩
theorem nleft_form {r n : Rul} {p : Pat} (h : nleft r p = some n) : rcheck r = 0 ∧ check p = 0 ∧ ∃ m l, meet r.left p = some m ∧ bind r.left m = some l ∧ substErr r.left l = 0 ∧ subst r.left l = m ∧ substErr r.right l = 0 ∧ n = ⟨false, m, subst r.right l⟩ ∧ rcheck n = 0 := by
  unfold nleft at h
  split at h
  · rename_i hr
    split at h
    · rename_i hp
      split at h
      · cases h
      · rename_i m hm
        obtain ⟨l, hb, h1, h2⟩ := bind_within (meet_within hm).1
        rw [hb] at h
        simp only [Option.getD_some] at h
        split at h
        · rename_i hs
          injection h with h
          subst h
          obtain ⟨_, _, c3, c4⟩ := rcheck_zero.1 hr
          have hk := subst_kinds h1 hs c3 c4
          rw [h2] at hk
          exact ⟨hr, hp, m, l, hm, hb, h1, h2, hs, rfl, rcheck_zero.2 ⟨meet_ok hm, subst_check hs, hk⟩⟩
        · cases h
    · cases h
  · cases h
theorem nleft_sub {r n : Rul} {p : Pat} (h : nleft r p = some n) {s t : List UInt8} (hf : fwd n s = some t) : fwd r s = some t ∧ (matchP p s).isSome = true := by
  obtain ⟨hr, hp, m, l, hm, hb, h1, h2, h3, rfl, hc⟩ := nleft_form h
  obtain ⟨_, C, g1, g2⟩ := fwd_some.1 hf
  simp only at g1 g2
  obtain ⟨_, _, c3, c4⟩ := rcheck_zero.1 hr
  have hms := meet_some hm s
  rw [g1, Option.isSome_some, Bool.and_eq_true] at hms
  refine ⟨fwd_some.2 ⟨hr, app (stars r.left.parts) r.left.rest l C, ?_, ?_⟩, hms.2⟩
  · obtain ⟨f1, f2⟩ := fill_match g1
    rw [← h2] at f1 f2
    obtain ⟨k1, k2⟩ := fill_subst h1 f1
    have := match_fill k1
    rw [k2, f2] at this
    exact this
  · obtain ⟨f1, f2⟩ := fill_match g2
    obtain ⟨k1, k2⟩ := fill_subst h3 f1
    have := match_fill k1
    rw [k2, f2] at this
    rw [c3, c4]
    exact this
theorem nleft_fwd {r n : Rul} {p : Pat} (h : nleft r p = some n) (s : List UInt8) : fwd n s = if (matchP p s).isSome = true then fwd r s else none := by
  refine opt_ext fun t => ?_
  constructor
  · intro hf
    obtain ⟨h1, h2⟩ := nleft_sub h hf
    rw [if_pos h2, h1]
  · intro hf
    split at hf
    · rename_i hp
      obtain ⟨hr, _, m, l, hm, _, _, _, _, hn, hc⟩ := nleft_form h
      have hms := meet_some hm s
      rw [hp, (fwd_back hf).1] at hms
      have he := fwd_match hc s
      rw [hn] at he
      simp only at he
      rw [← hms] at he
      obtain ⟨t', ht⟩ := Option.isSome_iff_exists.1 he
      rw [← hn] at ht
      have := (nleft_sub h ht).1
      rw [hf] at this
      rw [ht, this]
    · cases hf
theorem nright_form {r n : Rul} {p : Pat} (h : nright r p = some n) : ∃ n', nleft (turnR r) p = some n' ∧ n = turnR n' := by
  unfold nright at h
  cases hx : nleft (turnR r) p with
  | none => rw [hx] at h; cases h
  | some n' =>
    rw [hx] at h
    injection h with h
    exact ⟨n', rfl, h.symm⟩
theorem nright_fwd {r n : Rul} {p : Pat} (h : nright r p = some n) {s t : List UInt8} : fwd n s = some t ↔ fwd r s = some t ∧ (matchP p t).isSome = true := by
  obtain ⟨n', hn, rfl⟩ := nright_form h
  rw [← fwd_turn, nleft_fwd hn, fwd_turn (r := r)]
  constructor
  · intro hf
    split at hf
    · rename_i hp; exact ⟨hf, hp⟩
    · cases hf
  · rintro ⟨h1, h2⟩
    rw [if_pos h2]
    exact h1
theorem nleft_none {r : Rul} {p : Pat} (h : nleft r p = none) (he : nleftE r p = 0) (s : List UInt8) : (matchP r.left s).isSome = true → (matchP p s).isSome = false := by
  unfold nleft at h
  unfold nleftE at he
  by_cases hr : rcheck r = 0
  · by_cases hp : check p = 0
    · rw [if_pos hr, if_pos hp] at h he
      cases hm : meet r.left p with
      | none =>
        intro hs
        have := meet_none hm s
        rw [hs] at this
        simpa using this
      | some m =>
        rw [hm] at h he
        simp only at h he
        split at h
        · cases h
        · rename_i hx
          rw [if_neg hx] at he
          cases he
    · rw [if_pos hr, if_neg hp] at he
      exact absurd he hp
  · rw [if_neg hr] at he
    exact absurd he hr
theorem nleft_says {r : Rul} {p : Pat} (he : nleftE r p = 0) (s : List UInt8) : (nleft r p).bind (fun n => fwd n s) = if (matchP p s).isSome = true then fwd r s else none := by
  cases h : nleft r p with
  | some n => exact nleft_fwd h s
  | none =>
    have := nleft_none h he s
    split
    · rename_i hp
      cases hf : fwd r s with
      | none => rfl
      | some t =>
        rw [this (fwd_back hf).1] at hp
        cases hp
    · rfl
theorem nleftE_zero {r : Rul} {p : Pat} (he : nleftE r p = 0) : rcheck r = 0 ∧ check p = 0 := by
  unfold nleftE at he
  split at he
  · rename_i hr
    split at he
    · rename_i hp; exact ⟨hr, hp⟩
    · rename_i hp; exact absurd he hp
  · rename_i hr; exact absurd he hr
theorem nleft_some_E {r n : Rul} {p : Pat} (h : nleft r p = some n) : nleftE r p = 0 := by
  obtain ⟨hr, hp, m, l, hm, hb, _, _, hs, _, _⟩ := nleft_form h
  unfold nleftE
  rw [if_pos hr, if_pos hp, hm]
  show (if substErr r.right ((bind r.left m).getD []) = 0 then 0 else 43) = 0
  rw [hb, Option.getD_some, if_pos hs]

/-! ### Composition -/

theorem chain_form {a b c : Rul} (h : chain a b = some c) : rcheck a = 0 ∧ rcheck b = 0 ∧ ∃ x y m, meet a.right b.left = some m ∧ nright a b.left = some x ∧ nleft b m = some y ∧ x.right = m ∧ y.left = m ∧ rcheck x = 0 ∧ rcheck y = 0 ∧ c = ⟨false, x.left, y.right⟩ ∧ rcheck c = 0 := by
  unfold chain at h
  split at h
  · rename_i h0
    split at h
    · cases h
    · rename_i x hx
      split at h
      · cases h
      · rename_i y hy
        injection h with h
        subst h
        obtain ⟨n', hn, rfl⟩ := nright_form hx
        obtain ⟨_, _, m, l, hm, _, _, _, _, hnn, hcn⟩ := nleft_form hn
        have hxr : (turnR n').right = m := by rw [hnn]; rfl
        rw [hxr] at hy
        obtain ⟨_, _, m2, l2, hm2, _, _, _, _, hyy, hcy⟩ := nleft_form hy
        have hmm : m2 = m := by
          have := meet_self (meet_within hm).2
          rw [this] at hm2
          injection hm2 with e
          exact e.symm
        have hyl : y.left = m := by rw [hyy]; exact hmm
        have hcx := turn_check hcn
        obtain ⟨x1, x2, x3, x4⟩ := rcheck_zero.1 hcx
        obtain ⟨y1, y2, y3, y4⟩ := rcheck_zero.1 hcy
        rw [hxr] at x3 x4
        rw [hyl] at y3 y4
        exact ⟨h0.1, h0.2, turnR n', y, m, hm, hx, hy, hxr, hyl, hcx, hcy, rfl, rcheck_zero.2 ⟨x1, y2, x3.trans y3, x4.trans y4⟩⟩
  · cases h
theorem chain_fwd {a b c : Rul} (h : chain a b = some c) (s : List UInt8) : fwd c s = (fwd a s).bind (fwd b) := by
  obtain ⟨ha, hb, x, y, m, hm, hx, hy, hxr, hyl, hcx, hcy, rfl, hcc⟩ := chain_form h
  refine opt_ext fun z => ?_
  rw [Option.bind_eq_some_iff]
  constructor
  · intro hf
    obtain ⟨_, C, g1, g2⟩ := fwd_some.1 hf
    simp only at g1 g2
    obtain ⟨x1, x2, x3, x4⟩ := rcheck_zero.1 hcx
    have hf := same_caps x3 x4 x2 (fill_match g1).1
    have hmm := match_fill hf
    have e1 : fwd x s = some (filled x.right C) := fwd_some.2 ⟨hcx, C, g1, hmm⟩
    have e2 : fwd y (filled x.right C) = some z := fwd_some.2 ⟨hcy, C, by rw [hyl, ← hxr]; exact hmm, g2⟩
    refine ⟨_, (nright_fwd hx).1 e1 |>.1, ?_⟩
    exact (nleft_sub hy e2).1
  · rintro ⟨t, h1, h2⟩
    have h3 := (fwd_back h1).2
    have h4 := (fwd_back h2).1
    have h5 := meet_some hm t
    rw [h3, h4] at h5
    have e1 : fwd x s = some t := (nright_fwd hx).2 ⟨h1, h4⟩
    have e2 : fwd y t = some z := by rw [nleft_fwd hy, if_pos (show (matchP m t).isSome = true from h5.symm)]; exact h2
    obtain ⟨_, C, g1, g2⟩ := fwd_some.1 e1
    obtain ⟨_, D, g3, g4⟩ := fwd_some.1 e2
    rw [hxr] at g2
    rw [hyl, g2] at g3
    injection g3 with g3
    subst g3
    exact fwd_some.2 ⟨hcc, C, g1, g4⟩
theorem chain_none {a b : Rul} (h : chain a b = none) (he : chainE a b = 0) (s : List UInt8) : (fwd a s).bind (fwd b) = none := by
  unfold chainE at he
  unfold chain at h
  split at he
  · rename_i ha
    split at he
    · rename_i hb
      rw [if_pos ⟨ha, hb⟩] at h
      have hno : (∀ t, (matchP a.right t).isSome = true → (matchP b.left t).isSome = false) → (fwd a s).bind (fwd b) = none := fun hn => by
        cases h1 : fwd a s with
        | none => rfl
        | some t =>
          cases h2 : fwd b t with
          | none => simpa using h2
          | some z =>
            have := hn t (fwd_back h1).2
            rw [(fwd_back h2).1] at this
            cases this
      split at he
      · rename_i hx
        rw [nrightE, if_pos ha] at he
        unfold nright at hx
        simp only [Option.map_eq_none_iff] at hx
        exact hno (nleft_none hx he)
      · rename_i x hx
        rw [hx] at h
        simp only at h
        split at h
        · rename_i hy
          obtain ⟨n', hn, rfl⟩ := nright_form hx
          obtain ⟨_, _, m, l, hm, _, _, _, _, hnn, hcn⟩ := nleft_form hn
          have hxr : (turnR n').right = m := by rw [hnn]; rfl
          refine hno fun t ht => ?_
          cases hbt : (matchP b.left t).isSome with
          | false => rfl
          | true =>
            have h5 := meet_some hm t
            rw [hbt, show (turnR a).left = a.right from rfl, ht] at h5
            have := nleft_none hy he t hbt
            rw [hxr, ← h5] at this
            cases this
        · cases h
    · rename_i hb; exact absurd he hb
  · rename_i ha; exact absurd he ha
/-- The composition relates what the two lines relate, one behind the other. -/
theorem chain_says {a b : Rul} (he : chainE a b = 0) (s : List UInt8) : (chain a b).bind (fun c => fwd c s) = (fwd a s).bind (fwd b) := by
  cases h : chain a b with
  | some c => exact chain_fwd h s
  | none => exact (chain_none h he s).symm
theorem nright_mid {a : Rul} {p m : Pat} (ha : rcheck a = 0) (hm : meet a.right p = some m) : nright a m = nright a p ∧ nrightE a m = nrightE a p := by
  obtain ⟨_, hp, hmc⟩ := meet_checks hm
  have hs := meet_self (meet_within hm).1
  have ht := turn_check ha
  unfold nright nrightE nleft nleftE
  rw [if_pos ht, if_pos ht, if_pos hp, if_pos hmc, if_pos hp, if_pos hmc, show (turnR a).left = a.right from rfl, hm, hs]
  exact ⟨rfl, rfl⟩
theorem chain_ref (a b : Rul) : chainR a b = chain a b ∧ chainRE a b = chainE a b := by
  unfold chainR chain chainRE chainE
  by_cases ha : rcheck a = 0
  · by_cases hb : rcheck b = 0
    · rw [if_pos ⟨ha, hb⟩, if_pos ⟨ha, hb⟩, if_pos ha, if_pos hb, if_pos ha, if_pos hb]
      have hbl := (rcheck_zero.1 hb).1
      have ht := turn_check ha
      cases hm : meet a.right b.left with
      | none =>
        have hx : nright a b.left = none := by
          unfold nright nleft
          rw [if_pos ht, if_pos hbl, show (turnR a).left = a.right from rfl, hm]
          rfl
        have he : nrightE a b.left = 0 := by
          unfold nrightE nleftE
          rw [if_pos ha, if_pos ht, if_pos hbl, show (turnR a).left = a.right from rfl, hm]
        rw [hx, he]
        exact ⟨rfl, rfl⟩
      | some m =>
        obtain ⟨e1, e2⟩ := nright_mid ha hm
        simp only
        rw [e1]
        cases hx : nright a b.left with
        | none =>
          have he : nrightE a b.left = 43 := by
            unfold nright nleft at hx
            unfold nrightE nleftE
            rw [if_pos ht, if_pos hbl, show (turnR a).left = a.right from rfl, hm] at hx
            rw [if_pos ha, if_pos ht, if_pos hbl, show (turnR a).left = a.right from rfl, hm]
            simp only at hx ⊢
            split at hx
            · cases hx
            · rename_i h0
              rw [if_neg h0]
          rw [he]
          exact ⟨rfl, rfl⟩
        | some x =>
          obtain ⟨n', hn, rfl⟩ := nright_form hx
          obtain ⟨_, _, m', l, hm', _, _, _, _, hnn, hcn⟩ := nleft_form hn
          have hmm : m' = m := by
            rw [show (turnR a).left = a.right from rfl, hm] at hm'
            injection hm' with e
            exact e.symm
          have hxr : (turnR n').right = m := by rw [hnn]; exact hmm
          simp only [hxr]
          have hs := meet_self (meet_within hm).2
          have hmc := meet_ok hm
          cases hy : nleft b m with
          | none =>
            have he : nleftE b m = 43 := by
              unfold nleft at hy
              unfold nleftE
              rw [if_pos hb, if_pos hmc, hs] at hy ⊢
              simp only at hy ⊢
              split at hy
              · cases hy
              · rename_i h0
                rw [if_neg h0]
            rw [he]
            exact ⟨rfl, rfl⟩
          | some y =>
            rw [nleft_some_E hy]
            exact ⟨rfl, rfl⟩
    · have hn : ¬ (rcheck a = 0 ∧ rcheck b = 0) := fun h => hb h.2
      rw [if_neg hn, if_neg hn, if_pos ha, if_neg hb, if_pos ha, if_neg hb]
      exact ⟨rfl, rfl⟩
  · have hn : ¬ (rcheck a = 0 ∧ rcheck b = 0) := fun h => ha h.1
    rw [if_neg hn, if_neg hn, if_neg ha, if_neg ha]
    exact ⟨rfl, rfl⟩
theorem chain_ex {a b c : Rul} (h : chain a b = some c) : c.ex = false := by
  obtain ⟨_, _, x, y, m, _, _, _, _, _, _, _, rfl, _⟩ := chain_form h
  rfl
theorem chain_ok {a b c : Rul} (h : chain a b = some c) : rcheck c = 0 := by
  obtain ⟨_, _, x, y, m, _, _, _, _, _, _, _, _, hc⟩ := chain_form h
  exact hc
theorem line_path {c : Rul} (h : rcheck c = 0) : ∃ s t, fwd c s = some t := by
  obtain ⟨s, hs⟩ := some_path (rcheck_zero.1 h).1
  rw [← fwd_match h] at hs
  obtain ⟨t, ht⟩ := Option.isSome_iff_exists.1 hs
  exact ⟨s, t, ht⟩
/-- Three lines in either order. -/
theorem chain_assoc {a b c : Rul} (h1 : chainE a b = 0) (h2 : chainE b c = 0) (h3 : ∀ x, chain a b = some x → chainE x c = 0) (h4 : ∀ y, chain b c = some y → chainE a y = 0) :
    (chain a b).bind (fun x => chain x c) = (chain b c).bind (fun y => chain a y) := by
  have hl : ∀ s, ((chain a b).bind (fun x => chain x c)).bind (fun l => fwd l s) = ((fwd a s).bind (fwd b)).bind (fwd c) := fun s => by
    rw [← chain_says h1]
    cases hx : chain a b with
    | none => rfl
    | some x => exact chain_says (h3 x hx) s
  have hr : ∀ s, ((chain b c).bind (fun y => chain a y)).bind (fun l => fwd l s) = ((fwd a s).bind (fwd b)).bind (fwd c) := fun s => by
    have e : (fun t => (fwd b t).bind (fwd c)) = fun t => (chain b c).bind (fun y => fwd y t) := funext fun t => (chain_says h2 t).symm
    rw [show ((fwd a s).bind (fwd b)).bind (fwd c) = (fwd a s).bind fun t => (fwd b t).bind (fwd c) from Option.bind_assoc _ _ _, e]
    cases hy : chain b c with
    | none =>
      cases fwd a s <;> rfl
    | some y => exact chain_says (h4 y hy) s
  have hc1 : ∀ l, (chain a b).bind (fun x => chain x c) = some l → rcheck l = 0 ∧ l.ex = false := fun l hl => by
    rw [Option.bind_eq_some_iff] at hl
    obtain ⟨x, _, hx⟩ := hl
    exact ⟨chain_ok hx, chain_ex hx⟩
  have hc2 : ∀ l, (chain b c).bind (fun y => chain a y) = some l → rcheck l = 0 ∧ l.ex = false := fun l hl => by
    rw [Option.bind_eq_some_iff] at hl
    obtain ⟨x, _, hx⟩ := hl
    exact ⟨chain_ok hx, chain_ex hx⟩
  generalize (chain a b).bind (fun x => chain x c) = L at hl hc1 ⊢
  generalize (chain b c).bind (fun y => chain a y) = R at hr hc2 ⊢
  cases L with
  | none =>
    cases R with
    | none => rfl
    | some r =>
      obtain ⟨s, t, hs⟩ := line_path (hc2 r rfl).1
      have e1 := hl s
      have e2 := hr s
      rw [← e1] at e2
      simp only [Option.bind_some, Option.bind_none] at e2
      rw [hs] at e2
      cases e2
  | some l =>
    cases R with
    | none =>
      obtain ⟨s, t, hs⟩ := line_path (hc1 l rfl).1
      have e1 := hl s
      have e2 := hr s
      rw [← e2] at e1
      simp only [Option.bind_some, Option.bind_none] at e1
      rw [hs] at e1
      cases e1
    | some r =>
      congr 1
      refine rul_ext (hc1 l rfl).1 (hc2 r rfl).1 ((hc1 l rfl).2.trans (hc2 r rfl).2.symm) fun s => ?_
      have e1 := hl s
      have e2 := hr s
      simp only [Option.bind_some] at e1 e2
      rw [e1, e2]
end Go.Proofs.YtihboibebhokbaaDoor.Pt

namespace Go.Proofs.YtihboibebhokbaaDoor.Pt
open Go

def szs (N : Nat) (p : Pat) : Prop := ∀ x ∈ p.parts, x.length ≤ N
theorem szs.more {N M : Nat} {p : Pat} (h : szs N p) (hm : N ≤ M) : szs M p := fun x hx => Nat.le_trans (h x hx) hm
theorem szs_none (N : Nat) : szs N none_ := fun x hx => by cases hx
theorem meetOf_sizes {N : Nat} : ∀ {ps qs ms : List (List UInt8)}, (∀ x ∈ ps, x.length ≤ N) → (∀ x ∈ qs, x.length ≤ N) → meetOf ps qs = some ms → ∀ x ∈ ms, x.length ≤ N
  | ps, [], ms, hp, _, h => by
    rw [meetOf_nil] at h
    injection h with h
    subst h
    exact hp
  | [], _ :: _, _, _, _, h => by cases h
  | x :: ps, y :: qs, ms, hp, hq, h => by
    rw [meetOf_cons] at h
    have ih := fun r hr => meetOf_sizes (ps := ps) (qs := qs) (ms := r) (fun z hz => hp z (List.mem_cons_of_mem _ hz)) (fun z hz => hq z (List.mem_cons_of_mem _ hz)) hr
    split at h
    · simp only [Option.map_eq_some_iff] at h
      obtain ⟨r, hr, rfl⟩ := h
      intro z hz
      rcases List.mem_cons.1 hz with rfl | hz
      · exact hp _ (by simp)
      · exact ih r hr z hz
    · split at h
      · simp only [Option.map_eq_some_iff] at h
        obtain ⟨r, hr, rfl⟩ := h
        intro z hz
        rcases List.mem_cons.1 hz with rfl | hz
        · exact hq _ (by simp)
        · exact ih r hr z hz
      · cases h
theorem meetLong_sizes {N : Nat} {p q m : Pat} (hp : szs N p) (hq : szs N q) (h : meetLong p q = some m) : szs N m := by
  unfold meetLong at h
  split at h
  · cases h
  · simp only [Option.map_eq_some_iff] at h
    obtain ⟨r, hr, rfl⟩ := h
    exact meetOf_sizes hp hq hr
theorem meet_sizes {N : Nat} {p q m : Pat} (hp : szs N p) (hq : szs N q) (h : meet p q = some m) : szs N m := by
  unfold meet at h
  split at h
  · split at h
    · exact meetLong_sizes hq hp h
    · exact meetLong_sizes hp hq h
  · cases h
theorem bindOf_sizes {N : Nat} : ∀ {ps qs : List (List UInt8)}, (∀ x ∈ qs, x.length ≤ N) → ∀ b ∈ bindOf ps qs, szs N b ∧ b.parts.length = 1
  | [], qs, _, b, h => by
    have : bindOf [] qs = [] := by cases qs <;> rfl
    rw [this] at h
    cases h
  | x :: ps, [], _, b, h => by
    have : bindOf (x :: ps) [] = [] := rfl
    rw [this] at h
    cases h
  | x :: ps, y :: qs, hq, b, h => by
    have ih := bindOf_sizes (ps := ps) (qs := qs) (fun z hz => hq z (List.mem_cons_of_mem _ hz))
    cases hs : star x with
    | none => rw [bindOf_comp _ _ _ hs] at h; exact ih b h
    | some s =>
      rw [bindOf_star _ _ _ hs] at h
      rcases List.mem_cons.1 h with rfl | h
      · refine ⟨fun z hz => ?_, rfl⟩
        simp only [List.mem_singleton] at hz
        subst hz
        rw [List.length_take]
        have := hq y (by simp)
        omega
      · exact ih b h
theorem bind_sizes {N : Nat} {p q : Pat} {l : List Pat} (hq : szs N q) (h : bind p q = some l) : ∀ b ∈ l, szs N b ∧ b.parts.length ≤ 12 := by
  unfold bind at h
  split at h
  · rename_i hw
    have h12 := (check_ok.1 (within_parts hw).1).2
    injection h with h
    subst h
    intro b hb
    rcases List.mem_append.1 hb with hb | hb
    · have := bindOf_sizes hq b hb
      exact ⟨this.1, by omega⟩
    · split at hb
      · simp only [List.mem_singleton] at hb
        subst hb
        refine ⟨fun z hz => hq z (List.mem_of_mem_drop hz), ?_⟩
        simp only [List.length_drop]
        omega
      · cases hb
  · cases h
theorem fillsOf_sizes {N M : Nat} : ∀ {ps cs : List (List UInt8)}, (∀ x ∈ ps, x.length ≤ N) → (∀ x ∈ cs, x.length ≤ M) → ∀ z ∈ fillsOf ps cs, z.length ≤ N + M
  | [], _, _, _, z, hz => by cases hz
  | x :: ps, cs, h1, h2, z, hz => by
    cases hs : star x with
    | none =>
      rw [fillsOf_comp _ _ hs] at hz
      rcases List.mem_cons.1 hz with rfl | hz
      · have := h1 z (by simp); omega
      · exact fillsOf_sizes (fun z hz => h1 z (List.mem_cons_of_mem _ hz)) h2 z hz
    | some s =>
      rw [fillsOf_star _ _ hs] at hz
      rcases List.mem_cons.1 hz with rfl | hz
      · have h3 := h1 x (by simp)
        rw [(star_some.1 hs).1, List.length_cons] at h3
        rw [List.length_append]
        have h4 : (cs.headD []).length ≤ M := by
          cases cs with
          | nil => simp
          | cons c r => exact h2 c (by simp)
        omega
      · exact fillsOf_sizes (fun z hz => h1 z (List.mem_cons_of_mem _ hz)) (fun z hz => h2 z (List.mem_of_mem_drop hz)) z hz
theorem subst_sizes {N M : Nat} {p : Pat} {l : List Pat} (hp : szs N p) (hl : ∀ b ∈ l, szs M b) : szs (N + M) (subst p l) := by
  by_cases h : substErr p l = 0
  · rw [subst_val h]
    intro x hx
    simp only at hx
    rcases List.mem_append.1 hx with hx | hx
    · refine fillsOf_sizes (N := N) (M := M) hp (fun y hy => ?_) x hx
      obtain ⟨b, hb, rfl⟩ := List.mem_map.1 hy
      cases hbp : b.parts with
      | nil => simp
      | cons c r => exact hl b hb c (by rw [hbp]; simp)
    · split at hx
      · have hm : ∀ b ∈ l ++ [none_], szs M b := fun b hb => by
          rcases List.mem_append.1 hb with hb | hb
          · exact hl b hb
          · rw [List.mem_singleton.1 hb]; exact szs_none M
        have : l.getD (stars p.parts) none_ ∈ l ++ [none_] := by
          rw [List.getD_eq_getElem?_getD]
          cases hg : l[stars p.parts]? with
          | none => simp
          | some b => exact List.mem_append_left _ (List.mem_of_getElem? hg)
        have := hm _ this x hx
        omega
      · cases hx
  · unfold subst
    rw [if_neg h]
    exact (szs_none _)
theorem nleft_sizes {N M : Nat} {r n : Rul} {p : Pat} (h : nleft r p = some n) (hl : szs N r.left) (hp : szs N p) (hr : szs M r.right) : szs N n.left ∧ szs (M + N) n.right := by
  obtain ⟨_, _, m, l, hm, hb, _, _, _, rfl, _⟩ := nleft_form h
  have hms := meet_sizes hl hp hm
  exact ⟨hms, subst_sizes hr fun b hb' => (bind_sizes hms hb b hb').1⟩
end Go.Proofs.YtihboibebhokbaaDoor.Pt
