/- pattern.Meet: its contract stands in PatGoD. -/
import Derived.Test.YtembmegllpkmfaaDoorPatGoD
namespace Go.Proofs.YtembmegllpkmfaaDoor
open Go.RowKit
end Go.Proofs.YtembmegllpkmfaaDoor
