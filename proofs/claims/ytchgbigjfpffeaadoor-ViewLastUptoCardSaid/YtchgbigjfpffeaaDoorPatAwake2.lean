/- The contract of the law file's awake. -/
import Derived.Test.YtchgbigjfpffeaaDoorPatAwake
import Derived.Test.YtchgbigjfpffeaaDoorPatGoA
import Derived.Test.YtchgbigjfpffeaaDoorPatGoB
namespace Go.Proofs.YtchgbigjfpffeaaDoor
open Go.RowKit

theorem awake_bytes : ([⟨#[120]⟩, ⟨#[98, 47, 99]⟩] : List ByteArray).length = 2 := rfl
end Go.Proofs.YtchgbigjfpffeaaDoor
