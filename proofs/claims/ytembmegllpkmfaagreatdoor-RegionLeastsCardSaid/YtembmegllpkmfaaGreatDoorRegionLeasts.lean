/- RegionLeasts returns true at every region (the card: the variables that it lists hold what the program text lays). Conditions: none of its own. -/
import Derived.Test.YtembmegllpkmfaaGreatDoorCards
import Derived.Test.YtembmegllpkmfaaGreatDoorTie
import Derived.WalkKit
import Derived.ProofKit
import Derived.OpenShut
import Derived.ShutString
import Derived.Test.YtembmegllpkmfaaGreatDoorPatOpen
import Derived.Test.YtembmegllpkmfaaGreatDoorRegOpen
import Derived.Test.YtembmegllpkmfaaGreatDoorRegAwake
import Derived.Test.YtembmegllpkmfaaGreatDoorRegShort
import Derived.Test.YtembmegllpkmfaaGreatDoorRegRL
import Derived.Test.YtembmegllpkmfaaGreatDoorRegPoint
import Derived.Test.YtembmegllpkmfaaGreatDoorORegionLeasts
import Derived.JoinedOf
namespace Go.Proofs.YtembmegllpkmfaaGreatDoor.regionLeasts
open Go.ChangeShapes Go.WideShapes Go.ChangeAt Go.RowKit
open Go.ChangeMaps (open_string shut_string)
set_option linter.unusedVariables false

theorem proved : Rows.RegionLeastsCardSaid :=
  Claim7.holds_tied_plain_at .later [] [.data, .pinned] true (true, "13a1592ea518a331a55498c53063d8a09fd075e45ceed0415c0e22f015d07094") false over (fun _ h => by cases h) pW (fun _ h => by cases h) regionLeasts_row_tie rfl ⟨rfl, rfl⟩ pM rfl
    pN pG
#print axioms proved
end Go.Proofs.YtembmegllpkmfaaGreatDoor.regionLeasts
