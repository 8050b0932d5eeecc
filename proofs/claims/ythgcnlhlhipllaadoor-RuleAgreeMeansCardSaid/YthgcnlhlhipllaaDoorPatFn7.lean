/- The contract of the reference's Within. -/
import Derived.Test.YthgcnlhlhipllaaDoorPatFn6
namespace Go.Proofs.YthgcnlhlhipllaaDoor
open Go.RowKit

theorem box2_cells {w w' : World} {v0 v1 u0 u1 : Value} {t : TypeId} (h : Below ((w.alloc (.cells #[v0, v1] t)).alloc (.cells #[u0, u1] t)).heap.size ((w.alloc (.cells #[v0, v1] t)).alloc (.cells #[u0, u1] t)) w') :
    w'.cell? ⟨w.heap.size, 0, none⟩ = some v0 ∧ w'.cell? ⟨w.heap.size, 1, none⟩ = some v1 ∧ w'.cell? ⟨w.heap.size + 1, 0, none⟩ = some u0 ∧ w'.cell? ⟨w.heap.size + 1, 1, none⟩ = some u1 := by
  have h1 : Below (w.alloc (.cells #[v0, v1] t)).heap.size (w.alloc (.cells #[v0, v1] t)) w' := ((Below.refl _ _).alloc (Nat.le_refl _) _).trans (h.mono (by simp))
  obtain ⟨a, b⟩ := box_cells h1
  obtain ⟨c, d⟩ := box_cells h
  simp only [World.alloc, Array.size_push] at c d
  exact ⟨a, b, c, d⟩
theorem in_step {ps qs : List (List UInt8)} {k : Nat} (h1 : k < ps.length) (h2 : k < qs.length) : Pt.allIn (ps.drop k) (qs.drop k) = (Pt.inside ps[k] qs[k] && Pt.allIn (ps.drop (k + 1)) (qs.drop (k + 1))) := by
  rw [List.drop_eq_getElem_cons h1, List.drop_eq_getElem_cons h2, Pt.allIn]
theorem in_nil (ps : List (List UInt8)) : Pt.allIn ps [] = true := by cases ps <;> rfl

end Go.Proofs.YthgcnlhlhipllaaDoor
