/- The contract of the program's Parse. -/
import Derived.Test.YthgcnlhlhipllaaDoorPatGo2
import Derived.Test.YthgcnlhlhipllaaDoorPatFn8
namespace Go.Proofs.YthgcnlhlhipllaaDoor
open Go.RowKit

end Go.Proofs.YthgcnlhlhipllaaDoor
