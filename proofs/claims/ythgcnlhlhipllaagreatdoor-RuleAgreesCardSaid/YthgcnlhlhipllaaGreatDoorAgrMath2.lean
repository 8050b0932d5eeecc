/- The plain mathematics of Agree, second part: one round of the program's, and of the reference's. No program. -/
import Derived.Test.YthgcnlhlhipllaaGreatDoorMathAll
namespace Go.Proofs.YthgcnlhlhipllaaGreatDoor.Pt
open Go

theorem meet_of_path {p q : Pat} {t : List UInt8} (h1 : (matchP p t).isSome = true) (h2 : (matchP q t).isSome = true) : ∃ m, meet p q = some m := by
  cases hm : meet p q with
  | some m => exact ⟨m, rfl⟩
  | none =>
    have := meet_none hm t
    rw [h1, h2] at this
    cases this
/-- Where the narrowing to the component gives nothing, there is no path in common. -/
theorem det_dead {a b : Rul} {us : List (List UInt8)} {x y : List UInt8} {vs ws : List (List UInt8)} {p t : List UInt8} (hl : a.left = b.left) (ha : a.right.parts = us ++ x :: vs) (hb : b.right.parts = us ++ y :: ws)
    (hy : star y = none) (hn : nright a ⟨us ++ y :: vs, a.right.rest⟩ = none) (h1 : fwd a p = some t) (h2 : fwd b p = some t) : False := by
  obtain ⟨hw, hwt, _⟩ := agree_comp hl ha hb hy h1 h2
  obtain ⟨ca, _⟩ := fwd_some.1 h1
  have hat := (fwd_back h1).2
  obtain ⟨m, hm⟩ := meet_of_path hat hwt
  have hmW := wanted_within (p := a.right) (rcheck_zero.1 ca).2.1 ha hy hm
  have hE : nleftE (turnR a) ⟨us ++ y :: vs, a.right.rest⟩ = 0 := nleftE_same (turn_check ca) hw hm (by rw [hmW]; show _ ≤ a.right.parts.length; rw [ha]; simp)
  have hn' : nleft (turnR a) ⟨us ++ y :: vs, a.right.rest⟩ = none := by
    unfold nright at hn
    cases hx : nleft (turnR a) ⟨us ++ y :: vs, a.right.rest⟩ with
    | none => rfl
    | some n => rw [hx] at hn; cases hn
  have := nleft_none hn' hE t hat
  rw [hwt] at this
  cases this
/-- Where it gives a line, the other part was a star. -/
theorem det_star {a a1 : Rul} {us : List (List UInt8)} {x y : List UInt8} {vs : List (List UInt8)} (ha : a.right.parts = us ++ x :: vs) (hy : star y = none) (hxy : x ≠ y) (hn : nright a ⟨us ++ y :: vs, a.right.rest⟩ = some a1) : ∃ s, star x = some s := by
  cases hs : star x with
  | some s => exact ⟨s, rfl⟩
  | none =>
    exfalso
    obtain ⟨n', hn', rfl⟩ := nright_form hn
    obtain ⟨hr, hp, m, l, hm, _⟩ := nleft_form hn'
    obtain ⟨_, hw, hmm⟩ := meet_checks hm
    obtain ⟨t, ht⟩ := some_path hmm
    have h := meet_some hm t
    rw [ht, Bool.and_eq_true] at h
    obtain ⟨C, hC⟩ := Option.isSome_iff_exists.1 h.1
    obtain ⟨D, hD⟩ := Option.isSome_iff_exists.1 h.2
    obtain ⟨_, k, cs, g1, _, g3, _⟩ := matchP_some.1 hC
    obtain ⟨_, k', cs', f1, _, f3, _⟩ := matchP_some.1 hD
    obtain rfl : k = k' := Option.some.inj (g1.symm.trans f1)
    have g3' : capsOf (us ++ x :: vs) k = some cs := by rw [← ha]; exact g3
    exact hxy (comps_same hs hy g3' f3)
/-- Sizes of a round: lines whose parts have at most L bytes, their stars at most S. -/
structure Szl (S L : Nat) (a b : Rul) : Prop where
  left : szc S L a.left.parts
  ra : szc S L a.right.parts
  rb : szc S L b.right.parts
/-- Two lines that are compared: one left side, right sides as long. -/
structure Two (a b : Rul) : Prop where
  ca : rcheck a = 0
  cb : rcheck b = 0
  left : a.left = b.left
  len : a.right.parts.length = b.right.parts.length
/-- What comes behind a round. -/
structure Nx (a b r1 r2 : Rul) : Prop where
  two : Two r1 r2
  less : stars r1.left.parts < stars a.left.parts
  agree : ∀ o, AgreeIs r1 r2 o → AgreeIs a b o
  sizes : ∀ S L, S ≤ L → Szl S L a b → Szl S (L + S) r1 r2
theorem Two.swap {a b : Rul} (h : Two a b) : Two b a := ⟨h.cb, h.ca, h.left.symm, h.len.symm⟩
theorem Nx.swap {a b r1 r2 : Rul} (h : Nx a b r1 r2) (hl : a.left = b.left) : Nx b a r1 r2 :=
  ⟨h.two, by rw [← hl]; exact h.less, fun o ho => (h.agree o ho).swap, fun S L hS hz => h.sizes S L hS ⟨by rw [hl]; exact hz.left, hz.rb, hz.ra⟩⟩
theorem szc_mem {S L : Nat} {us : List (List UInt8)} {x : List UInt8} {vs : List (List UInt8)} (h : szc S L (us ++ x :: vs)) : x.length ≤ L := (h x (by simp)).1
/-- A round of the program's: the first unlike parts, that of b a component. -/
theorem round_nx {a b a1 b1 : Rul} {us : List (List UInt8)} {x y : List UInt8} {vs ws : List (List UInt8)} (h2 : Two a b) (ha : a.right.parts = us ++ x :: vs) (hb : b.right.parts = us ++ y :: ws)
    (hxy : x ≠ y) (hy : star y = none) (h : nright a ⟨us ++ y :: vs, a.right.rest⟩ = some a1) (hn : nleft b a1.left = some b1) : Nx a b a1 b1 := by
  obtain ⟨s, hx⟩ := det_star ha hy hxy h
  obtain ⟨k1, k2, k3, k4, b1', k5, k6, k7, k8⟩ := agree_some h2.cb h2.left ha hx hy h
  obtain rfl : b1' = b1 := Option.some.inj (k5.symm.trans hn)
  refine ⟨⟨k1, k6, k7, by rw [k3, k8, h2.len]⟩, k4, fun o ho => ho.of (agree_narrowed h hn fun p t f1 f2 => (agree_comp h2.left ha hb hy f1 f2).2.1), fun S L hS hz => ?_⟩
  have hyl : y.length ≤ L := szc_mem (by rw [← hb]; exact hz.rb)
  obtain ⟨e1, e2, e3, e4⟩ := agree_sizes h2.cb h2.left ha hx hy h hn hz.left hz.ra hz.rb hyl
  have hm : max L (L + S) = L + S := by omega
  rw [hm] at e1 e2 e4
  exact ⟨e1, e2, e4⟩
theorem round_some {a b a1 : Rul} {us : List (List UInt8)} {x y : List UInt8} {vs ws : List (List UInt8)} (h2 : Two a b) (ha : a.right.parts = us ++ x :: vs) (_hb : b.right.parts = us ++ y :: ws)
    (hxy : x ≠ y) (hy : star y = none) (h : nright a ⟨us ++ y :: vs, a.right.rest⟩ = some a1) : ∃ b1, nleft b a1.left = some b1 := by
  obtain ⟨s, hx⟩ := det_star ha hy hxy h
  obtain ⟨_, _, _, _, b1, k5, _⟩ := agree_some h2.cb h2.left ha hx hy h
  exact ⟨b1, k5⟩
theorem split_at {α : Type} (l : List α) {i : Nat} (h : i < l.length) : l = l.take i ++ l[i] :: l.drop (i + 1) := by
  rw [← List.drop_eq_getElem_cons h, List.take_append_drop]
theorem set_at {α : Type} (l : List α) {i : Nat} (y : α) (h : i < l.length) : l.set i y = l.take i ++ y :: l.drop (i + 1) := by
  rw [List.set_eq_take_append_cons_drop, if_pos h]
end Go.Proofs.YthgcnlhlhipllaaGreatDoor.Pt
