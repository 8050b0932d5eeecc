/- What the laws' frames share: the library's variable at the first world; strings that are equal. -/
import Derived.Test.YtihboibebhokbaaDoorPathFn4
import Derived.HandedShaped
import Derived.Shelf.Vars
namespace Go.Proofs.YtihboibebhokbaaDoor
open Go.RowKit

theorem maxl_of (W : World) (h : W.ShapedOpen Tryd.prog) : MaxL W :=
  Go.Proofs.cell_of_shapedOpen_int (zero := #[.int .i64 0]) (t := 3) h (of_decide_eq_true (by kernel_rfl)) (by kernel_rfl) rfl (by kernel_rfl) (by kernel_rfl) Tryd.underlying3
theorem ba_ext {a b : ByteArray} (h : a.data.toList = b.data.toList) : a = b := by
  rw [← Lib.mk_data a, ← Lib.mk_data b, h]
theorem long_no {s : ByteArray} (h : ¬ 400 < s.size) : s.size < 4294967281 := by omega
end Go.Proofs.YtihboibebhokbaaDoor
