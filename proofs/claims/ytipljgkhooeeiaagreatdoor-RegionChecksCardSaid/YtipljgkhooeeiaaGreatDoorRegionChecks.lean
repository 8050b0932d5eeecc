/- RegionChecks returns true at every region and every string (the card: the variables that it lists hold what the program text lays). Conditions: none of its own. -/
import Derived.Test.YtipljgkhooeeiaaGreatDoorCards
import Derived.Test.YtipljgkhooeeiaaGreatDoorTie
import Derived.WalkKit
import Derived.ProofKit
import Derived.OpenShut
import Derived.ShutString
import Derived.Test.YtipljgkhooeeiaaGreatDoorPatOpen
import Derived.Test.YtipljgkhooeeiaaGreatDoorRegOpen
import Derived.Test.YtipljgkhooeeiaaGreatDoorRegSmall
import Derived.Test.YtipljgkhooeeiaaGreatDoorRegAwake
import Derived.Test.YtipljgkhooeeiaaGreatDoorORegionChecks
import Derived.JoinedOf
namespace Go.Proofs.YtipljgkhooeeiaaGreatDoor.regionChecks
open Go.ChangeShapes Go.WideShapes Go.ChangeAt Go.RowKit
open Go.ChangeMaps (open_string shut_string)
set_option linter.unusedVariables false

theorem proved : Rows.RegionChecksCardSaid :=
  Claim7.holds_tied_plain_at .later [] [.data, .pinned] true (true, "de5c284c433ac47b8874559eea19a8eb99af1d1e4a9b065ccefc20af4810d302") false over (fun _ h => by cases h) pW (fun _ h => by cases h) regionChecks_row_tie rfl ⟨rfl, rfl⟩ pM rfl
    pN pG
#print axioms proved
end Go.Proofs.YtipljgkhooeeiaaGreatDoor.regionChecks
