/- The contract of the reference's Fill. The contract of the law file's copied. The contract of the reference's Meet. -/
import Derived.Test.YtembmegllpkmfaaDoorPatFnB
import Derived.Test.YtembmegllpkmfaaDoorPathOwnAll
import Derived.Deep.RegionHeld3
import Derived.Deep.DeepCutAuto
import Derived.Deep.RegionLaw
namespace Go.Proofs.YtembmegllpkmfaaDoor
open Go.RowKit

theorem lib_join_len (b : Nat) : ∀ (l : List (List UInt8)), (∀ x ∈ l, x.length ≤ b) → (Lib.join l [47]).length ≤ l.length * (b + 1)
  | [], _ => by simp [Lib.join_nil]
  | [x], h => by
    have := h x (by simp)
    rw [Lib.join_one]
    simp
    omega
  | x :: y :: r, h => by
    have h1 := h x (by simp)
    have h2 := lib_join_len b (y :: r) fun z hz => h z (by simp [hz])
    rw [Pm.lib_join_cons]
    simp only [List.length_cons, List.length_append, Nat.succ_mul] at h2 ⊢
    omega
/-- What Fill hands back. -/
def fillBoth (p : Pt.Pat) (caps : List (List UInt8)) : List UInt8 × Nat :=
  if Pt.check p = 0 then (if caps.length = Pt.wilds p then (match Pt.fillComps p caps with | none => ([], 32) | some l => (Pm.join l, 0)) else ([], 32)) else ([], Pt.check p)
theorem fill_both (p : Pt.Pat) (caps : List (List UInt8)) : fillBoth p caps = (Pt.filled p caps, Pt.fillErr p caps) := by
  unfold fillBoth Pt.filled Pt.fillErr
  by_cases h0 : Pt.check p = 0
  · rw [if_pos h0, if_pos h0]
    by_cases h1 : caps.length = Pt.wilds p
    · rw [if_pos h1, if_pos h1]
      cases Pt.fillComps p caps with
      | none => simp
      | some l => simp
    · rw [if_neg h1, if_neg h1]; simp
  · rw [if_neg h0, if_neg h0, if_neg h0]
theorem fill_step {ps cs : List (List UInt8)} {k : Nat} (h : k < ps.length) : Pt.fillOf (ps.drop k) cs = match Pt.star ps[k] with
    | none => (Pt.fillOf (ps.drop (k + 1)) cs).map fun r => ps[k] :: r
    | some s => match cs with
      | [] => none
      | y :: cs => if Pm.comp y then (Pt.fillOf (ps.drop (k + 1)) cs).map fun r => (y ++ s) :: r else none := by
  rw [List.drop_eq_getElem_cons h, Pt.fillOf]
  cases Pt.star ps[k] <;> rfl
theorem stars_drop {ps : List (List UInt8)} {k : Nat} (h : k < ps.length) : Pt.stars (ps.drop k) = Pt.stars (ps.drop (k + 1)) + if (Pt.star ps[k]).isSome then 1 else 0 := by
  rw [List.drop_eq_getElem_cons h, Pt.stars_cons]
  rfl

theorem star_len {l u : List UInt8} (h : Pt.star l = some u) : u.length ≤ l.length := by
  rw [(Pt.star_some.1 h).1]
  simp

end Go.Proofs.YtembmegllpkmfaaDoor

namespace Go.Proofs.YtembmegllpkmfaaDoor
open Go.RowKit

end Go.Proofs.YtembmegllpkmfaaDoor

namespace Go.Proofs.YtembmegllpkmfaaDoor
open Go.RowKit

/-- What Meet and Substitute's like hand back: a pattern and whether there is one. -/
def GivesPB (w : World) (o : Option Pt.Pat) (e : Ending) (w' : World) : Prop :=
  ∃ A xs c b, e = .returned (.tuple #[patV A (List.length xs) c b, .bool o.isSome]) ∧ PatR w' A xs c b (o.getD ⟨[], false⟩) ∧ Below w.heap.size w w'
theorem box3_cells {w w' : World} {v0 v1 u0 u1 x0 x1 : Value} {t : TypeId} (h : Below (((w.alloc (.cells #[v0, v1] t)).alloc (.cells #[u0, u1] t)).alloc (.cells #[x0, x1] t)).heap.size (((w.alloc (.cells #[v0, v1] t)).alloc (.cells #[u0, u1] t)).alloc (.cells #[x0, x1] t)) w') :
    w'.cell? ⟨w.heap.size, 0, none⟩ = some v0 ∧ w'.cell? ⟨w.heap.size, 1, none⟩ = some v1 ∧ w'.cell? ⟨w.heap.size + 1, 0, none⟩ = some u0 ∧ w'.cell? ⟨w.heap.size + 1, 1, none⟩ = some u1 ∧
    w'.cell? ⟨w.heap.size + 1 + 1, 0, none⟩ = some x0 ∧ w'.cell? ⟨w.heap.size + 1 + 1, 1, none⟩ = some x1 ∧
    (∀ k, w'.frozen? ⟨w.heap.size, k, none⟩ = false) ∧ (∀ k, w'.frozen? ⟨w.heap.size + 1, k, none⟩ = false) ∧ (∀ k, w'.frozen? ⟨w.heap.size + 1 + 1, k, none⟩ = false) := by
  have h1 : Below ((w.alloc (.cells #[v0, v1] t)).alloc (.cells #[u0, u1] t)).heap.size ((w.alloc (.cells #[v0, v1] t)).alloc (.cells #[u0, u1] t)) w' := ((Below.refl _ _).alloc (Nat.le_refl _) _).trans (h.mono (by simp))
  have h2 : Below (w.alloc (.cells #[v0, v1] t)).heap.size (w.alloc (.cells #[v0, v1] t)) w' := ((Below.refl _ _).alloc (Nat.le_refl _) _).trans (h1.mono (by simp))
  obtain ⟨a, b⟩ := box_cells h2
  obtain ⟨c, d⟩ := box_cells h1
  obtain ⟨e, f⟩ := box_cells h
  have g1 := box_free h2
  have g2 := box_free h1
  have g3 := box_free h
  simp only [World.alloc, Array.size_push] at c d e f g2 g3
  exact ⟨a, b, c, d, e, f, g1, g2, g3⟩
theorem meetOf_step {ps qs : List (List UInt8)} {k : Nat} (h1 : k < ps.length) (h2 : k < qs.length) : Pt.meetOf (ps.drop k) (qs.drop k) = if Pt.inside ps[k] qs[k] then (Pt.meetOf (ps.drop (k + 1)) (qs.drop (k + 1))).map fun r => ps[k] :: r else if Pt.inside qs[k] ps[k] then (Pt.meetOf (ps.drop (k + 1)) (qs.drop (k + 1))).map fun r => qs[k] :: r else none := by
  rw [List.drop_eq_getElem_cons h1, List.drop_eq_getElem_cons h2, Pt.meetOf_cons]
theorem meetOf_none (ps : List (List UInt8)) : Pt.meetOf ps [] = some ps := by cases ps <;> rfl
theorem OwnS.setCell {w : World} {base : Nat} {v : Value} {xs : List ByteArray} (h : OwnS w base v xs) {p : Addr} (hp : p.block < base) (u : Value) : OwnS (w.setCell p u) base v xs := by
  refine ⟨h.1, ?_⟩
  rcases h.2 with hv | ⟨g, cap, cur, hv, hbg, hg, r⟩
  · exact .inl hv
  · exact .inr ⟨g, cap, cur, hv, hbg, by rw [Below.heap_setCell _ _ _ _ (by omega)]; exact hg, r⟩

theorem swap4 {W W' : World} {g : Nat} {v0 v1 v2 v3 u0 u1 u2 u3 : Value} (h0 : W.cell? ⟨g, 0, none⟩ = some v0) (h1 : W.cell? ⟨g, 1, none⟩ = some v1) (h2 : W.cell? ⟨g + 1, 0, none⟩ = some v2) (h3 : W.cell? ⟨g + 1, 1, none⟩ = some v3)
    (e : W' = (((W.setCell ⟨g, 0, none⟩ u0).setCell ⟨g, 1, none⟩ u1).setCell ⟨g + 1, 0, none⟩ u2).setCell ⟨g + 1, 1, none⟩ u3) :
    W'.cell? ⟨g, 0, none⟩ = some u0 ∧ W'.cell? ⟨g, 1, none⟩ = some u1 ∧ W'.cell? ⟨g + 1, 0, none⟩ = some u2 ∧ W'.cell? ⟨g + 1, 1, none⟩ = some u3 ∧
    (∀ k, W'.cell? ⟨g + 1 + 1, k, none⟩ = W.cell? ⟨g + 1 + 1, k, none⟩) ∧ (∀ k, W'.frozen? ⟨g + 1 + 1, k, none⟩ = W.frozen? ⟨g + 1 + 1, k, none⟩) := by
  subst e
  have o := fun (w : World) (p a : Addr) (v : Value) (h : p ≠ a) => World.cell?_setCell_other w p a v h
  refine ⟨?_, ?_, ?_, ?_, fun k => ?_, fun k => ?_⟩
  · rw [o _ _ _ _ (by simp), o _ _ _ _ (by simp), o _ _ _ _ (by simp)]
    exact World.cell?_setCell_same W _ u0 h0
  · rw [o _ _ _ _ (by simp), o _ _ _ _ (by simp)]
    exact World.cell?_setCell_same _ _ u1 ((o _ _ _ _ (by simp)).trans h1)
  · rw [o _ _ _ _ (by simp)]
    exact World.cell?_setCell_same _ _ u2 ((o _ _ _ _ (by simp)).trans ((o _ _ _ _ (by simp)).trans h2))
  · exact World.cell?_setCell_same _ _ u3 ((o _ _ _ _ (by simp)).trans ((o _ _ _ _ (by simp)).trans ((o _ _ _ _ (by simp)).trans h3)))
  · rw [o _ _ _ _ (by simp), o _ _ _ _ (by simp), o _ _ _ _ (by simp), o _ _ _ _ (by simp)]
  · simp [go_sem]
theorem below_drew {B : Nat} {a w : World} (h : Below B a w) : Below B a w.drew := h.trans ⟨rfl, rfl, rfl, Nat.le_refl _, fun _ _ => rfl⟩
theorem RdS.drew {w : World} {B : Nat} {A : Option Addr} {xs : List ByteArray} (h : RdS w B A xs) : RdS w.drew B A xs := h
/-- What Meet knows when the longer pattern stands first: the boxes and what the answer is. -/
structure Longer (w wx : World) (o : Option Pt.Pat) (A B : Option Addr) (xs ys : List ByteArray) (c d n m : Nat) (b f : Bool) (p q : Pt.Pat) : Prop where
  rdA : RdS w w.heap.size A xs
  rdB : RdS w w.heap.size B ys
  pa : bs xs = p.parts
  pb : bs ys = q.parts
  sa : ∀ x ∈ xs, x.size ≤ maxLen
  sb : ∀ x ∈ ys, x.size ≤ maxLen
  nc : n ≤ c
  md : m ≤ d
  cm : (c : Int) ≤ 9223372036854775807
  dm : (d : Int) ≤ 9223372036854775807
  na : n = xs.length
  mb : m = ys.length
  mn : m ≤ n
  n12 : n ≤ 12
  e0 : wx.cell? ⟨w.heap.size, 0, none⟩ = some (.slice A n c)
  e1 : wx.cell? ⟨w.heap.size, 1, none⟩ = some (.bool b)
  e2 : wx.cell? ⟨w.heap.size + 1, 0, none⟩ = some (.slice B m d)
  e3 : wx.cell? ⟨w.heap.size + 1, 1, none⟩ = some (.bool f)
  e4 : wx.cell? ⟨w.heap.size + 1 + 1, 0, none⟩ = some (.slice none 0 0)
  e5 : wx.cell? ⟨w.heap.size + 1 + 1, 1, none⟩ = some (.bool false)
  f4 : wx.frozen? ⟨w.heap.size + 1 + 1, 0, none⟩ = false
  f5 : wx.frozen? ⟨w.heap.size + 1 + 1, 1, none⟩ = false
  below : Below w.heap.size w wx
  hz : w.heap.size + 1 + 1 < wx.heap.size
  ho : o = if (decide (m < n) && !f) || (decide (n = m) && (b != f)) then none else (Pt.meetOf p.parts q.parts).map fun l => ⟨l, b⟩

end Go.Proofs.YtembmegllpkmfaaDoor
