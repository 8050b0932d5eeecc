/-
  DERIVED. GIVEN WITH THE SEED: THE CARDS: each row of YtembmegllpkmfaaGreatDoorRows.lean that lists a variable, with what it lists TIED to the program's text (the seventh form; the later family's looks); each row that meets fmt, with fmt's text TOLD by the authors' own Lean function (tested against real Go, not proved from fmt's source: count such statements apart). THE CARD IS WHAT COUNTS. Prove the row's statement (the work); the ties are given (YtembmegllpkmfaaGreatDoorTie.lean); close each card by the builder's one call (the guide's Derived/Test/ToyasCard.lean, 'card_holds'). Laid BY PROGRAM, IN A SANDBOX (cutbox-door.mjs). By AI agents, Wed Nov 11 2026. No macro, syntax, notation, axiom, sorry.
-/
import Derived.Test.YtembmegllpkmfaaGreatDoorRows
import GoSem.ClaimSeven
namespace Go.Proofs.YtembmegllpkmfaaGreatDoor
namespace Rows

/-- THE TIED CARD OF 'stockyardlaw05.RegionLeasts'. -/
def regionLeastsCard : Claim7 := { stood := { row := regionLeastsRow, standIns := [], harness := (true, "13a1592ea518a331a55498c53063d8a09fd075e45ceed0415c0e22f015d07094"), looks := false }, kinds := [], alts := [], laidByText := true, laidKinds := [.data, .pinned], laidTests := true, laidLooks := .later }
def RegionLeastsCardSaid : Prop := Claim7.holds Tryz.pinned (.plain (OpenSpec.ofChange regionLeastsSpec)) regionLeastsCard

/-- THE TIED CARD OF 'stockyardlaw05.RegionMeets'. -/
def regionMeetsCard : Claim7 := { stood := { row := regionMeetsRow, standIns := [], harness := (true, "13a1592ea518a331a55498c53063d8a09fd075e45ceed0415c0e22f015d07094"), looks := false }, kinds := [], alts := [], laidByText := true, laidKinds := [.data, .pinned], laidTests := true, laidLooks := .later }
def RegionMeetsCardSaid : Prop := Claim7.holds Tryz.pinned (.plain (OpenSpec.ofChange regionMeetsSpec)) regionMeetsCard

/-- THE TIED CARD OF 'stockyardlaw05.RegionMinuses'. -/
def regionMinusesCard : Claim7 := { stood := { row := regionMinusesRow, standIns := [], harness := (true, "13a1592ea518a331a55498c53063d8a09fd075e45ceed0415c0e22f015d07094"), looks := false }, kinds := [], alts := [], laidByText := true, laidKinds := [.data, .pinned], laidTests := true, laidLooks := .later }
def RegionMinusesCardSaid : Prop := Claim7.holds Tryz.pinned (.plain (OpenSpec.ofChange regionMinusesSpec)) regionMinusesCard

/-- THE TIED CARD OF 'stockyardlaw05.RegionParts'. -/
def regionPartsCard : Claim7 := { stood := { row := regionPartsRow, standIns := [], harness := (true, "13a1592ea518a331a55498c53063d8a09fd075e45ceed0415c0e22f015d07094"), looks := false }, kinds := [], alts := [], laidByText := true, laidKinds := [.data, .pinned], laidTests := true, laidLooks := .later }
def RegionPartsCardSaid : Prop := Claim7.holds Tryz.pinned (.plain (OpenSpec.ofChange regionPartsSpec)) regionPartsCard

/-- THE TIED CARD OF 'stockyardlaw06.ViewEntries'. -/
def viewEntriesCard : Claim7 := { stood := { row := viewEntriesRow, standIns := [], harness := (true, "13a1592ea518a331a55498c53063d8a09fd075e45ceed0415c0e22f015d07094"), looks := false }, kinds := [], alts := [], laidByText := true, laidKinds := [.data, .pinned], laidTests := true, laidLooks := .later }
def ViewEntriesCardSaid : Prop := Claim7.holds Tryz.pinned (.plain (OpenSpec.ofChange viewEntriesSpec)) viewEntriesCard

/-- THE TIED CARD OF 'stockyardlaw06.ViewEntriesMean'. -/
def viewEntriesMeanCard : Claim7 := { stood := { row := viewEntriesMeanRow, standIns := [], harness := (true, "13a1592ea518a331a55498c53063d8a09fd075e45ceed0415c0e22f015d07094"), looks := false }, kinds := [], alts := [], laidByText := true, laidKinds := [.data, .pinned], laidTests := true, laidLooks := .later }
def ViewEntriesMeanCardSaid : Prop := Claim7.holds Tryz.pinned (.plain (OpenSpec.ofChange viewEntriesMeanSpec)) viewEntriesMeanCard

/-- THE SECOND FORM's CARD OF 'stockyardlaw05.RegionLeasts'. -/
def regionLeastsUptoCard : Claim7 := { stood := { row := regionLeastsUptoRow, standIns := [], harness := (true, "13a1592ea518a331a55498c53063d8a09fd075e45ceed0415c0e22f015d07094"), looks := false }, kinds := [], alts := [], laidByText := true, laidKinds := [.data, .pinned], laidTests := true, laidLooks := .later }
def RegionLeastsUptoCardSaid : Prop := Claim7.holds Tryz.pinned (.plain (OpenSpec.upto regionLeastsSpec)) regionLeastsUptoCard

/-- THE SECOND FORM's CARD OF 'stockyardlaw05.RegionMeets'. -/
def regionMeetsUptoCard : Claim7 := { stood := { row := regionMeetsUptoRow, standIns := [], harness := (true, "13a1592ea518a331a55498c53063d8a09fd075e45ceed0415c0e22f015d07094"), looks := false }, kinds := [], alts := [], laidByText := true, laidKinds := [.data, .pinned], laidTests := true, laidLooks := .later }
def RegionMeetsUptoCardSaid : Prop := Claim7.holds Tryz.pinned (.plain (OpenSpec.upto regionMeetsSpec)) regionMeetsUptoCard

/-- THE SECOND FORM's CARD OF 'stockyardlaw05.RegionMinuses'. -/
def regionMinusesUptoCard : Claim7 := { stood := { row := regionMinusesUptoRow, standIns := [], harness := (true, "13a1592ea518a331a55498c53063d8a09fd075e45ceed0415c0e22f015d07094"), looks := false }, kinds := [], alts := [], laidByText := true, laidKinds := [.data, .pinned], laidTests := true, laidLooks := .later }
def RegionMinusesUptoCardSaid : Prop := Claim7.holds Tryz.pinned (.plain (OpenSpec.upto regionMinusesSpec)) regionMinusesUptoCard

/-- THE SECOND FORM's CARD OF 'stockyardlaw05.RegionParts'. -/
def regionPartsUptoCard : Claim7 := { stood := { row := regionPartsUptoRow, standIns := [], harness := (true, "13a1592ea518a331a55498c53063d8a09fd075e45ceed0415c0e22f015d07094"), looks := false }, kinds := [], alts := [], laidByText := true, laidKinds := [.data, .pinned], laidTests := true, laidLooks := .later }
def RegionPartsUptoCardSaid : Prop := Claim7.holds Tryz.pinned (.plain (OpenSpec.upto regionPartsSpec)) regionPartsUptoCard

/-- THE SECOND FORM's CARD OF 'stockyardlaw06.ViewEntries'. -/
def viewEntriesUptoCard : Claim7 := { stood := { row := viewEntriesUptoRow, standIns := [], harness := (true, "13a1592ea518a331a55498c53063d8a09fd075e45ceed0415c0e22f015d07094"), looks := false }, kinds := [], alts := [], laidByText := true, laidKinds := [.data, .pinned], laidTests := true, laidLooks := .later }
def ViewEntriesUptoCardSaid : Prop := Claim7.holds Tryz.pinned (.plain (OpenSpec.upto viewEntriesSpec)) viewEntriesUptoCard

/-- THE SECOND FORM's CARD OF 'stockyardlaw06.ViewEntriesMean'. -/
def viewEntriesMeanUptoCard : Claim7 := { stood := { row := viewEntriesMeanUptoRow, standIns := [], harness := (true, "13a1592ea518a331a55498c53063d8a09fd075e45ceed0415c0e22f015d07094"), looks := false }, kinds := [], alts := [], laidByText := true, laidKinds := [.data, .pinned], laidTests := true, laidLooks := .later }
def ViewEntriesMeanUptoCardSaid : Prop := Claim7.holds Tryz.pinned (.plain (OpenSpec.upto viewEntriesMeanSpec)) viewEntriesMeanUptoCard
end Rows
end Go.Proofs.YtembmegllpkmfaaGreatDoor
