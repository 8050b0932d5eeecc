/- The contract of the law file's copied. -/
import Derived.Test.YtihboibebhokbaaDoorPatFn9
import Derived.Test.YtihboibebhokbaaDoorPathOwn3
import Derived.Deep.RegionHeld3
namespace Go.Proofs.YtihboibebhokbaaDoor
open Go.RowKit

end Go.Proofs.YtihboibebhokbaaDoor
