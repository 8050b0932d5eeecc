/- The contract of the law file's awake. -/
import Derived.Test.YtipljgkhooeeiaaGreatDoorPatAwake
import Derived.Test.YtipljgkhooeeiaaGreatDoorPatGoA
import Derived.Test.YtipljgkhooeeiaaGreatDoorPatGoB
namespace Go.Proofs.YtipljgkhooeeiaaGreatDoor
open Go.RowKit

theorem awake_bytes : ([⟨#[120]⟩, ⟨#[98, 47, 99]⟩] : List ByteArray).length = 2 := rfl
end Go.Proofs.YtipljgkhooeeiaaGreatDoor
