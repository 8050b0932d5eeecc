/- Two boxes that stay, as a region's condition. -/
import Derived.Test.YtembmegllpkmfaaGreatDoorPatHeld
namespace Go.Proofs.YtembmegllpkmfaaGreatDoor
open Go.RowKit

abbrev S2 (w : World) (v0 v1 u0 u1 : Value) (t : TypeId) (w' : World) : Prop :=
  w'.cell? ⟨w.heap.size, 0, none⟩ = some v0 ∧ w'.cell? ⟨w.heap.size, 1, none⟩ = some v1 ∧ w'.cell? ⟨w.heap.size + 1, 0, none⟩ = some u0 ∧ w'.cell? ⟨w.heap.size + 1, 1, none⟩ = some u1 ∧ In2 w v0 v1 u0 u1 t w'
theorem S2.nxt {w w1 w' : World} {v0 v1 u0 u1 : Value} {t : TypeId} (hb : Below w1.heap.size w1 w') (h : S2 w v0 v1 u0 u1 t w1) : S2 w v0 v1 u0 u1 t w' := (In2.next h.2.2.2.2 hb).held
theorem S2.drew {w w' : World} {v0 v1 u0 u1 : Value} {t : TypeId} (h : S2 w v0 v1 u0 u1 t w') : S2 w v0 v1 u0 u1 t w'.drew := (In2.drew h.2.2.2.2).held
end Go.Proofs.YtembmegllpkmfaaGreatDoor
