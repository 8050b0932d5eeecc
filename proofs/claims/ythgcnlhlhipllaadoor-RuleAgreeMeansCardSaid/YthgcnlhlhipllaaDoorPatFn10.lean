/- The contract of the law file's copied. -/
import Derived.Test.YthgcnlhlhipllaaDoorPatFn9
import Derived.Test.YthgcnlhlhipllaaDoorPathOwnAll
import Derived.Deep.RegionHeld3
namespace Go.Proofs.YthgcnlhlhipllaaDoor
open Go.RowKit

end Go.Proofs.YthgcnlhlhipllaaDoor
