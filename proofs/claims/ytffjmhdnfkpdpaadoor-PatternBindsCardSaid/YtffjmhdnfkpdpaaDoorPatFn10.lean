/- The contract of the law file's copied. -/
import Derived.Test.YtffjmhdnfkpdpaaDoorPatFn9
import Derived.Test.YtffjmhdnfkpdpaaDoorPathOwn3
import Derived.Deep.RegionHeld3
namespace Go.Proofs.YtffjmhdnfkpdpaaDoor
open Go.RowKit

set_option maxHeartbeats 4000000 in
theorem copied_any (A : Option Addr) (xs : List ByteArray) (c : Nat) (b : Bool) (p : Pt.Pat) (w : World) (hp : PatR w A xs c b p) (hN : xs.length ≤ 1000000) :
    Calls Tryd.prog 23 #[patV A xs.length c b] w (fun e w' => ∃ B d, e = .returned (patV B xs.length d b) ∧ PatR w' B xs d b p ∧ Below w.heap.size w w') := by
  obtain ⟨W0, hW0⟩ : ∃ W0, W0 = (w.alloc (.cells #[.slice A xs.length c, .bool b] 25)).alloc (.cells #[.slice none 0 0, .bool false] 25) := ⟨_, rfl⟩
  have halloc : Below w.heap.size w W0 := by rw [hW0]; exact ((Below.refl _ _).alloc (Nat.le_refl _) _).alloc (by simp) _
  have HRD := Lib.hid ((hp.keep halloc).rd)
  obtain ⟨c0, c1, c2, c3⟩ := box2_cells (w' := W0) (w := w) (t := 25) (by rw [← hW0]; exact Below.refl _ _)
  have f0 : W0.frozen? ⟨w.heap.size + 1, 0, none⟩ = false := by
    subst hW0
    simp
  have f1 : W0.frozen? ⟨w.heap.size + 1, 1, none⟩ = false := by
    subst hW0
    simp
  have hz : w.heap.size + 1 < W0.heap.size := by rw [hW0]; simp
  have hz2 : w.heap.size + 1 + 1 ≤ W0.heap.size := by omega
  have hz' : w.heap.size < W0.heap.size := by omega
  have HP := Lib.hid hp
  have HAL := Lib.hid halloc
  obtain ⟨n, hn⟩ : ∃ n, n = xs.length := ⟨_, rfl⟩
  have HNN := Lib.hid hN
  rw [← hn] at hW0 c0 ⊢
  have HN := Lib.hid hn
  clear hp halloc hN hn
  go_enter Tryd.func23, Tryd.ntmps23
  go_wp2_with fail
  generalize hwg : (w.alloc (.cells #[.slice A n c, .bool b] 25)).alloc (.cells #[.slice none 0 0, .bool false] 25) = W
  have hWW : W = W0 := by rw [← hwg, hW0]
  subst hWW
  clear hwg hW0
  go_region_held3 (fun w' => w'.cell? ⟨w.heap.size, 0, none⟩ = some (.slice A n c) ∧ w'.cell? ⟨w.heap.size, 1, none⟩ = some (.bool b))
    (first | exact ⟨(hb.cell (p := ⟨w.heap.size, 0, none⟩) (by show w.heap.size < w.heap.size + 1 + 1; omega)).trans c0, (hb.cell (p := ⟨w.heap.size, 1, none⟩) (by show w.heap.size < w.heap.size + 1 + 1; omega)).trans c1⟩ | go_keep)
    ((refine step_append_ss rfl _ _ rfl (w.heap.size + 1 + 1) (.slice none 0 0) [] rfl (OwnS.empty _ _) A xs n c HN.out rfl HRD.out HP.out.nil (by simpa using HNN.out) (by first | omega | (simp; omega)) ?_; intro v' w' hown hb
      have k2 := (hb.cell (p := ⟨w.heap.size + 1, 0, none⟩) (by show w.heap.size + 1 < w.heap.size + 1 + 1; omega)).trans c2
      have k3 := (hb.cell (p := ⟨w.heap.size + 1, 1, none⟩) (by show w.heap.size + 1 < w.heap.size + 1 + 1; omega)).trans c3
      have k4 := (hb.frozen (p := ⟨w.heap.size + 1, 0, none⟩) (by show w.heap.size + 1 < w.heap.size + 1 + 1; omega)).trans f0
      have k5 := (hb.frozen (p := ⟨w.heap.size + 1, 1, none⟩) (by show w.heap.size + 1 < w.heap.size + 1 + 1; omega)).trans f1
      obtain ⟨A', c', rfl, hf1, hf2, hf3, hf4⟩ := hown.form
      have F1 := Lib.hid hf1
      have F2 := Lib.hid hf2
      have F3 := Lib.hid hf3
      have F4 := Lib.hid hf4
      clear hf1 hf2 hf3 hf4 hown))
  go_wp2
  refine bodyPost_ret (v := patV A' n c' b) (by simp [results, Tryd.results23, go_sem, k2, k3, HN.out]) rfl ⟨A', c', rfl, ?_, ?_⟩
  · rw [List.nil_append] at F1 F3
    have h1 : PatR w' A' xs c' b p := ⟨F3.out, HP.out.parts, HP.out.rest, F1.out, F2.out, F4.out, HP.out.sz⟩
    exact h1.store2 _ _ _ _ _ k2 k3 (fun _ h => by cases h) (fun _ h => by cases h)
  · have hb5 : Below w.heap.size w w' := HAL.out.trans (((Below.refl w.heap.size W).trans (show Below w.heap.size W W.drew from ⟨rfl, rfl, rfl, Nat.le_refl _, fun _ _ => rfl⟩)).trans (hb.mono (by omega)))
    exact (hb5.setCell (p := ⟨w.heap.size + 1, 0, none⟩) (by simp) _).setCell (p := ⟨w.heap.size + 1, 1, none⟩) (by simp) _
end Go.Proofs.YtffjmhdnfkpdpaaDoor
