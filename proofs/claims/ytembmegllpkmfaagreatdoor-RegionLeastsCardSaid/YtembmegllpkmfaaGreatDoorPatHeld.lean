/- Two boxes that stay over calls, for regions that draw their order. -/
import Derived.Test.YtembmegllpkmfaaGreatDoorPatAwake2
import Derived.Test.YtembmegllpkmfaaGreatDoorPatFnC
import Derived.Test.YtembmegllpkmfaaGreatDoorPatGoB
import Derived.Deep.RegionHeld3
namespace Go.Proofs.YtembmegllpkmfaaGreatDoor
open Go.RowKit

/-- The two boxes of a call's parameters, and all behind them, at a later world. -/
structure In2 (w : World) (v0 v1 u0 u1 : Value) (t : TypeId) (w' : World) : Prop where
  below : Below ((w.alloc (.cells #[v0, v1] t)).alloc (.cells #[u0, u1] t)).heap.size ((w.alloc (.cells #[v0, v1] t)).alloc (.cells #[u0, u1] t)) w'
def Held2 (w : World) (v0 v1 u0 u1 : Value) (t : TypeId) (w' : World) : Prop :=
  w'.cell? ⟨w.heap.size, 0, none⟩ = some v0 ∧ w'.cell? ⟨w.heap.size, 1, none⟩ = some v1 ∧ w'.cell? ⟨w.heap.size + 1, 0, none⟩ = some u0 ∧ w'.cell? ⟨w.heap.size + 1, 1, none⟩ = some u1 ∧ In2 w v0 v1 u0 u1 t w'
theorem In2.held {w w' : World} {v0 v1 u0 u1 : Value} {t : TypeId} (h : In2 w v0 v1 u0 u1 t w') : Held2 w v0 v1 u0 u1 t w' := by
  obtain ⟨a, b, c, d⟩ := box2_cells h.below
  exact ⟨a, b, c, d, h⟩
theorem In2.next {w w1 w' : World} {v0 v1 u0 u1 : Value} {t : TypeId} (h : In2 w v0 v1 u0 u1 t w1) (hb : Below w1.heap.size w1 w') : In2 w v0 v1 u0 u1 t w' := ⟨h.below.trans (hb.mono h.below.size)⟩
theorem In2.drew {w w' : World} {v0 v1 u0 u1 : Value} {t : TypeId} (h : In2 w v0 v1 u0 u1 t w') : In2 w v0 v1 u0 u1 t w'.drew := ⟨h.below.trans (below_drew (Below.refl _ _))⟩
theorem elem_lens : ∀ {l : List (List UInt8)} {x : List UInt8}, x ∈ l → x.length ≤ lens l
  | [], _, h => by cases h
  | y :: r, x, h => by
    unfold lens
    simp only [List.map_cons, List.sum_cons]
    rcases List.mem_cons.1 h with rfl | h
    · omega
    · have := elem_lens h
      unfold lens at this
      omega
theorem small_facts {xs : List ByteArray} (h : smallB (bs xs) = true) : xs.length ≤ 20 ∧ (∀ x ∈ bs xs, x.length ≤ 400) ∧ (Lib.join (bs xs) [47]).length ≤ 8020 ∧ ∀ x ∈ xs, x.size ≤ 400 := by
  unfold smallB at h
  simp only [Bool.and_eq_true, decide_eq_true_eq, bs_length] at h
  obtain ⟨h1, h2⟩ := h
  have h3 : ∀ x ∈ bs xs, x.length ≤ 400 := fun x hx => Nat.le_trans (elem_lens hx) h2
  have h4 := lib_join_len 400 (bs xs) h3
  rw [bs_length] at h4
  refine ⟨h1, h3, Nat.le_trans h4 (Nat.le_trans (Nat.mul_le_mul_right 401 h1) (by decide)), fun x hx => ?_⟩
  rw [Lib.size_eq]
  exact h3 _ (List.mem_map_of_mem hx)
end Go.Proofs.YtembmegllpkmfaaGreatDoor
