/- ViewMaps returns true at every list of lines and every string (the card: the variables that it lists hold what the program text lays). Conditions: what it reads is of bulk at most 1048576 values and letters. -/
import Derived.Test.YtipljgkhooeeiaaGreatDoorCards
import Derived.Test.YtipljgkhooeeiaaGreatDoorTie
import Derived.WalkKit
import Derived.ProofKit
import Derived.OpenShut
import Derived.ShutString
import Derived.Test.YtipljgkhooeeiaaGreatDoorPatOpen
import Derived.Test.YtipljgkhooeeiaaGreatDoorVwOpen
import Derived.Test.YtipljgkhooeeiaaGreatDoorVwLaw
import Derived.Test.YtipljgkhooeeiaaGreatDoorVwBack
import Derived.Test.YtipljgkhooeeiaaGreatDoorVwRef
import Derived.Deep.DeepHandedRow
import Derived.Lib.LaidTab
import Derived.Deep.DeepWitnessRowRef
import Derived.Deep.CondSized
import Derived.Test.YtipljgkhooeeiaaGreatDoorOViewMaps
import Derived.JoinedOf
namespace Go.Proofs.YtipljgkhooeeiaaGreatDoor.viewMaps
open Go.ChangeShapes Go.WideShapes Go.ChangeAt Go.RowKit
open Go.ChangeMaps (open_string shut_string)
set_option linter.unusedVariables false

theorem proved : Rows.ViewMapsUptoCardSaid :=
  Claim7.holds_tied_plain_at .later [] [.data, .pinned] true (true, "de5c284c433ac47b8874559eea19a8eb99af1d1e4a9b065ccefc20af4810d302") false over (fun _ h => by cases h) pW (fun _ h => by cases h) viewMapsUpto_row_tie rfl ⟨rfl, rfl⟩ pM rfl
    pN pG
#print axioms proved
end Go.Proofs.YtipljgkhooeeiaaGreatDoor.viewMaps
