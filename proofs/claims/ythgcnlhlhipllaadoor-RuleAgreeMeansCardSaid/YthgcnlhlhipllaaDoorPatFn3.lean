/- The contracts of the reference's Text, Same, Kinds, wildcards; of small and equal. -/
import Derived.Test.YthgcnlhlhipllaaDoorPatFn2
namespace Go.Proofs.YthgcnlhlhipllaaDoor
open Go.RowKit

theorem below_drewN {B : Nat} {a w : World} (h : Below B a w) (n : Nat) : Below B a (w.drewN n) := ⟨h.os, h.tape, h.output, h.size, h.block⟩
theorem dots4 (l : List UInt8) : (ByteArray.mk #[47, 47]) ++ (ByteArray.mk l.toArray) ++ (ByteArray.mk #[47, 46, 46, 46]) = ⟨(47 :: 47 :: (l ++ [47, 46, 46, 46])).toArray⟩ := by
  apply ba_ext
  simp [ByteArray.data_append]
/-- How much a row of strings holds. -/
def lens (l : List (List UInt8)) : Nat := (l.map List.length).sum
def smallB (l : List (List UInt8)) : Bool := decide (l.length ≤ 20) && decide (lens l ≤ 400)
theorem lens_take {l : List (List UInt8)} {k : Nat} (h : k < l.length) : lens (l.take (k + 1)) = lens (l.take k) + l[k].length := by
  unfold lens
  rw [List.take_succ_eq_append_getElem h, List.map_append, List.sum_append]
  simp
theorem lens_le {l : List (List UInt8)} {b : Nat} (h : ∀ x ∈ l, x.length ≤ b) : lens l ≤ l.length * b := by
  unfold lens
  induction l with
  | nil => simp
  | cons x r ih =>
    have h1 := h x (by simp)
    have h2 := ih fun y hy => h y (by simp [hy])
    simp only [List.map_cons, List.sum_cons, List.length_cons, Nat.succ_mul]
    omega
end Go.Proofs.YthgcnlhlhipllaaDoor
