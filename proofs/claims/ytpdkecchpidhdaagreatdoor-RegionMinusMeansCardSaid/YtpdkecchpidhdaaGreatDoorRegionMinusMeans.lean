/- RegionMinusMeans returns true at every two regions and every string (the card: the variables that it lists hold what the program text lays). Conditions: none of its own. -/
import Derived.Test.YtpdkecchpidhdaaGreatDoorCards
import Derived.Test.YtpdkecchpidhdaaGreatDoorTie
import Derived.WalkKit
import Derived.ProofKit
import Derived.OpenShut
import Derived.ShutString
import Derived.Test.YtpdkecchpidhdaaGreatDoorPatOpen
import Derived.Test.YtpdkecchpidhdaaGreatDoorRegOpen
import Derived.Test.YtpdkecchpidhdaaGreatDoorRegAwake
import Derived.Test.YtpdkecchpidhdaaGreatDoorRegMinusL
import Derived.Test.YtpdkecchpidhdaaGreatDoorORegionMinusMeans
import Derived.JoinedOf
namespace Go.Proofs.YtpdkecchpidhdaaGreatDoor.regionMinusMeans
open Go.ChangeShapes Go.WideShapes Go.ChangeAt Go.RowKit
open Go.ChangeMaps (open_string shut_string)
set_option linter.unusedVariables false

theorem proved : Rows.RegionMinusMeansCardSaid :=
  Claim7.holds_tied_plain_at .later [] [.data, .pinned] true (true, "220643eee5f425b1564fd2373b1079dafdbb6cf2ccffd63e2417b694ad73a0e7") false over (fun _ h => by cases h) pW (fun _ h => by cases h) regionMinusMeans_row_tie rfl ⟨rfl, rfl⟩ pM rfl
    pN pG
#print axioms proved
end Go.Proofs.YtpdkecchpidhdaaGreatDoor.regionMinusMeans
