/- Closed facts of the program that every claim of the seat asks, each by the kernel, one by one. No law. -/
import Derived.Test.YtembmegllpkmfaaDoorRows
import Derived.ProofKit
import Derived.JoinedOf
namespace Go.Proofs.YtembmegllpkmfaaDoor
theorem seatLaid : laidOutB Tryd.prog = true := by kernel_rfl
theorem seatMaps : mapsRowed Tryd.prog = true := by kernel_rfl
theorem seatHeard : Tryd.prog.stopsHeard = true := by kernel_rfl
theorem seatEnter : Tryd.prog.mayEnter = true := by kernel_rfl
end Go.Proofs.YtembmegllpkmfaaDoor
