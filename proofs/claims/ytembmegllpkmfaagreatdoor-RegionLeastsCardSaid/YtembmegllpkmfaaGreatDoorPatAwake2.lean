/- The contract of the law file's awake. -/
import Derived.Test.YtembmegllpkmfaaGreatDoorPatAwake
import Derived.Test.YtembmegllpkmfaaGreatDoorPatGoA
import Derived.Test.YtembmegllpkmfaaGreatDoorPatGoB
namespace Go.Proofs.YtembmegllpkmfaaGreatDoor
open Go.RowKit

theorem awake_bytes : ([⟨#[120]⟩, ⟨#[98, 47, 99]⟩] : List ByteArray).length = 2 := rfl
end Go.Proofs.YtembmegllpkmfaaGreatDoor
