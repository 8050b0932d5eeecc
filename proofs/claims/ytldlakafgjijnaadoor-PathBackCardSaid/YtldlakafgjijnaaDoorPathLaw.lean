/- What the laws' frames share: the library's variable at the first world; strings that are equal. -/
import Derived.Test.YtldlakafgjijnaaDoorPathFn4
import Derived.HandedShaped
namespace Go.Proofs.YtldlakafgjijnaaDoor
open Go.RowKit

theorem maxl_of (W : World) (h : W.ShapedOpen Tryd.prog) : MaxL W := Tryd.laysM145.s1_3 W h
theorem ba_ext {a b : ByteArray} (h : a.data.toList = b.data.toList) : a = b := by
  rw [← Lib.mk_data a, ← Lib.mk_data b, h]
theorem long_no {s : ByteArray} (h : ¬ 400 < s.size) : s.size < 4294967281 := by omega
end Go.Proofs.YtldlakafgjijnaaDoor
