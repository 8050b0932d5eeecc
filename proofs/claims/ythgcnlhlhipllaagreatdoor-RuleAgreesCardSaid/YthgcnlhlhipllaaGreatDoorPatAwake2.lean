/- The contract of the law file's awake. -/
import Derived.Test.YthgcnlhlhipllaaGreatDoorPatAwake
import Derived.Test.YthgcnlhlhipllaaGreatDoorPatGo4
import Derived.Test.YthgcnlhlhipllaaGreatDoorPatGo5
namespace Go.Proofs.YthgcnlhlhipllaaGreatDoor
open Go.RowKit

theorem awake_bytes : ([⟨#[120]⟩, ⟨#[98, 47, 99]⟩] : List ByteArray).length = 2 := rfl
end Go.Proofs.YthgcnlhlhipllaaGreatDoor
