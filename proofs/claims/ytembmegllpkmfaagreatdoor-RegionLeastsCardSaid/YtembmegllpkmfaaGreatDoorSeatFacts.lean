/- Closed facts of the program that every claim of the seat asks, each by the kernel, one by one. No law. -/
import Derived.Test.YtembmegllpkmfaaGreatDoorRows
import Derived.ProofKit
import Derived.JoinedOf
namespace Go.Proofs.YtembmegllpkmfaaGreatDoor
theorem seatLaid : laidOutB Tryz.prog = true := by kernel_rfl
theorem seatMaps : mapsRowed Tryz.prog = true := by kernel_rfl
theorem seatHeard : Tryz.prog.stopsHeard = true := by kernel_rfl
theorem seatEnter : Tryz.prog.mayEnter = true := by kernel_rfl
end Go.Proofs.YtembmegllpkmfaaGreatDoor
