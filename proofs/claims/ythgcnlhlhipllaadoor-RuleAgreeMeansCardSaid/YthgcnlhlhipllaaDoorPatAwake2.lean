/- The contract of the law file's awake. -/
import Derived.Test.YthgcnlhlhipllaaDoorPatAwake
import Derived.Test.YthgcnlhlhipllaaDoorPatGo4
import Derived.Test.YthgcnlhlhipllaaDoorPatGo5
namespace Go.Proofs.YthgcnlhlhipllaaDoor
open Go.RowKit

theorem awake_bytes : ([⟨#[120]⟩, ⟨#[98, 47, 99]⟩] : List ByteArray).length = 2 := rfl
end Go.Proofs.YthgcnlhlhipllaaDoor
