/- pattern.Meet: its contract stands in PatGoD. -/
import Derived.Test.YtembmegllpkmfaaGreatDoorPatGoD
namespace Go.Proofs.YtembmegllpkmfaaGreatDoor
open Go.RowKit
end Go.Proofs.YtembmegllpkmfaaGreatDoor
