/- The contract of the law file's awake. -/
import Derived.Test.YtpdkecchpidhdaaGreatDoorPatAwake
import Derived.Test.YtpdkecchpidhdaaGreatDoorPatGoA
import Derived.Test.YtpdkecchpidhdaaGreatDoorPatGoB
namespace Go.Proofs.YtpdkecchpidhdaaGreatDoor
open Go.RowKit

theorem awake_bytes : ([⟨#[120]⟩, ⟨#[98, 47, 99]⟩] : List ByteArray).length = 2 := rfl
end Go.Proofs.YtpdkecchpidhdaaGreatDoor
