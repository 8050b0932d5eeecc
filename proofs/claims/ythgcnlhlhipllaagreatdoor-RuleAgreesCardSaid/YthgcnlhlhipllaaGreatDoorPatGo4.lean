/- The contract of the program's Parse. -/
import Derived.Test.YthgcnlhlhipllaaGreatDoorPatGo2
import Derived.Test.YthgcnlhlhipllaaGreatDoorPatFn8
namespace Go.Proofs.YthgcnlhlhipllaaGreatDoor
open Go.RowKit

end Go.Proofs.YthgcnlhlhipllaaGreatDoor
