/- The contract of the law file's awake. -/
import Derived.Test.YtembmegllpkmfaaDoorPatAwake
import Derived.Test.YtembmegllpkmfaaDoorPatGoA
import Derived.Test.YtembmegllpkmfaaDoorPatGoB
namespace Go.Proofs.YtembmegllpkmfaaDoor
open Go.RowKit

theorem awake_bytes : ([⟨#[120]⟩, ⟨#[98, 47, 99]⟩] : List ByteArray).length = 2 := rfl
end Go.Proofs.YtembmegllpkmfaaDoor
