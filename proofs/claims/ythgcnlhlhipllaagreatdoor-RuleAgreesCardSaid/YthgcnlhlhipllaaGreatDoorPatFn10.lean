/- The contract of the law file's copied. -/
import Derived.Test.YthgcnlhlhipllaaGreatDoorPatFn9
import Derived.Test.YthgcnlhlhipllaaGreatDoorPathOwnAll
import Derived.Deep.RegionHeld3
namespace Go.Proofs.YthgcnlhlhipllaaGreatDoor
open Go.RowKit

end Go.Proofs.YthgcnlhlhipllaaGreatDoor
