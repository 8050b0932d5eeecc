/- The contracts of the reference's Text, Same, Kinds, wildcards; of small and equal. -/
import Derived.Test.YthgcnlhlhipllaaGreatDoorPatFn2
namespace Go.Proofs.YthgcnlhlhipllaaGreatDoor
open Go.RowKit

theorem below_drewN {B : Nat} {a w : World} (h : Below B a w) (n : Nat) : Below B a (w.drewN n) := ⟨h.os, h.tape, h.output, h.size, h.block⟩
theorem dots4 (l : List UInt8) : (ByteArray.mk #[47, 47]) ++ (ByteArray.mk l.toArray) ++ (ByteArray.mk #[47, 46, 46, 46]) = ⟨(47 :: 47 :: (l ++ [47, 46, 46, 46])).toArray⟩ := by
  apply ba_ext
  simp [ByteArray.data_append]
theorem rtext_any (A : Option Addr) (xs : List ByteArray) (c : Nat) (b : Bool) (p : Pt.Pat) (w : World) (hp : PatR w A xs c b p) (hlen : (Lib.join p.parts [47]).length ≤ 140737488350000) (hN : xs.length ≤ 140737488355328) :
    Calls Tryz.prog 63 #[patV A xs.length c b] w (GivesS w (Pt.text p)) := by
  have halloc : Below w.heap.size w (w.alloc (.cells #[.slice A xs.length c, .bool b] 24)) := (Below.refl _ _).alloc (Nat.le_refl _) _
  have hpa := hp.keep halloc
  have HJ := Lib.hid (sjoin_any A xs c ⟨#[47]⟩ (w.alloc (.cells #[.slice A xs.length c, .bool b] 24)) hpa.rd hp.le rfl (by rw [hp.parts]; omega) hN)
  have ht : Pt.text p = 47 :: 47 :: (Lib.join p.parts [47] ++ (if p.rest then [47, 46, 46, 46] else [])) := rfl
  rw [ht, ← hp.rest]
  rw [hp.parts] at HJ
  generalize Lib.join p.parts [47] = l at HJ hlen
  generalize xs.length = n at *
  have HAL := Lib.hid halloc
  clear hp hpa ht halloc
  cases b with
  | false =>
    simp only [Bool.false_eq_true, if_false, List.append_nil]
    go_enter Tryz.func63, Tryz.ntmps63
    go_wp2_with fail
    with_reducible refine HJ.out.mono ?_
    rintro e w1 ⟨rfl, hb⟩
    have hc0 := hb.cell (p := ⟨w.heap.size, 1, none⟩) (by simp)
    have hc1 : w1.cell? ⟨w.heap.size, 1, none⟩ = some (.bool false) := by
      rw [hc0, cell_of_row _ _ _ _ _ (0, 0) (heap_alloc_new w _)]
      rfl
    have HB := Lib.hid hb
    clear hb hc0
    go_wp2
    go_ret
    exact ⟨ret_str (slash2 l), HAL.out.trans (HB.out.mono (by simp))⟩
  | true =>
    simp only [if_true]
    go_enter Tryz.func63, Tryz.ntmps63
    go_wp2_with fail
    with_reducible refine HJ.out.mono ?_
    rintro e w1 ⟨rfl, hb⟩
    have hc0 := hb.cell (p := ⟨w.heap.size, 1, none⟩) (by simp)
    have hc1 : w1.cell? ⟨w.heap.size, 1, none⟩ = some (.bool true) := by
      rw [hc0, cell_of_row _ _ _ _ _ (0, 0) (heap_alloc_new w _)]
      rfl
    have HB := Lib.hid hb
    clear hb hc0
    go_wp2
    go_ret
    exact ⟨ret_str (dots4 l), HAL.out.trans (HB.out.mono (by simp))⟩

/-- How much a row of strings holds. -/
def lens (l : List (List UInt8)) : Nat := (l.map List.length).sum
def smallB (l : List (List UInt8)) : Bool := decide (l.length ≤ 20) && decide (lens l ≤ 400)
theorem lens_take {l : List (List UInt8)} {k : Nat} (h : k < l.length) : lens (l.take (k + 1)) = lens (l.take k) + l[k].length := by
  unfold lens
  rw [List.take_succ_eq_append_getElem h, List.map_append, List.sum_append]
  simp
theorem lens_le {l : List (List UInt8)} {b : Nat} (h : ∀ x ∈ l, x.length ≤ b) : lens l ≤ l.length * b := by
  unfold lens
  induction l with
  | nil => simp
  | cons x r ih =>
    have h1 := h x (by simp)
    have h2 := ih fun y hy => h y (by simp [hy])
    simp only [List.map_cons, List.sum_cons, List.length_cons, Nat.succ_mul]
    omega
end Go.Proofs.YthgcnlhlhipllaaGreatDoor
