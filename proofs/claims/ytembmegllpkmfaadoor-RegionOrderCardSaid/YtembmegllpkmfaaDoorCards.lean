/-
  DERIVED. GIVEN WITH THE SEED: THE CARDS: each row of YtembmegllpkmfaaDoorRows.lean that lists a variable, with what it lists TIED to the program's text (the seventh form; the later family's looks); each row that meets fmt, with fmt's text TOLD by the authors' own Lean function (tested against real Go, not proved from fmt's source: count such statements apart). THE CARD IS WHAT COUNTS. Prove the row's statement (the work); the ties are given (YtembmegllpkmfaaDoorTie.lean); close each card by the builder's one call (the guide's Derived/Test/ToyasCard.lean, 'card_holds'). Laid BY PROGRAM, IN A SANDBOX (cutbox-door.mjs). By AI agents, Wed Nov 11 2026. No macro, syntax, notation, axiom, sorry.
-/
import Derived.Test.YtembmegllpkmfaaDoorRows
import GoSem.ClaimSeven
namespace Go.Proofs.YtembmegllpkmfaaDoor
namespace Rows

/-- THE TIED CARD OF 'stockyardlaw05.RegionOrder'. -/
def regionOrderCard : Claim7 := { stood := { row := regionOrderRow, standIns := [], harness := (true, "3a415054cacd42ada478fc7e7d90c41a015a7e35055444602f45c507c6aaaf32"), looks := false }, kinds := [], alts := [], laidByText := true, laidKinds := [.data, .pinned], laidTests := true, laidLooks := .later }
def RegionOrderCardSaid : Prop := Claim7.holds Tryd.pinned (.plain (OpenSpec.ofChange regionOrderSpec)) regionOrderCard

/-- THE SECOND FORM's CARD OF 'stockyardlaw05.RegionOrder'. -/
def regionOrderUptoCard : Claim7 := { stood := { row := regionOrderUptoRow, standIns := [], harness := (true, "3a415054cacd42ada478fc7e7d90c41a015a7e35055444602f45c507c6aaaf32"), looks := false }, kinds := [], alts := [], laidByText := true, laidKinds := [.data, .pinned], laidTests := true, laidLooks := .later }
def RegionOrderUptoCardSaid : Prop := Claim7.holds Tryd.pinned (.plain (OpenSpec.upto regionOrderSpec)) regionOrderUptoCard
end Rows
end Go.Proofs.YtembmegllpkmfaaDoor
