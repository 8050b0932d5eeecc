/- The contract of the law file's awake. -/
import Derived.Test.YtihboibebhokbaaDoorPatAwake
import Derived.Test.YtihboibebhokbaaDoorPatGo4
import Derived.Test.YtihboibebhokbaaDoorPatGo5
namespace Go.Proofs.YtihboibebhokbaaDoor
open Go.RowKit

theorem awake_bytes : ([⟨#[120]⟩, ⟨#[98, 47, 99]⟩] : List ByteArray).length = 2 := rfl
set_option maxHeartbeats 2000000 in
theorem awake3_any (w : World) (hm : MaxL w) : Calls Tryd.prog 15 #[] w (GivesBB w true) := by
  have HP := Lib.hid (parse_any ⟨#[47, 47, 97, 47, 42, 46, 112, 115, 100, 47, 46, 46, 46]⟩ w (by decide) hm)
  have e0 : (ByteArray.mk #[47, 47, 97, 47, 42, 46, 112, 115, 100, 47, 46, 46, 46]).data.toList = awakePat := rfl
  rw [e0, awake_parse, awake_parsed] at HP
  clear e0
  go_enter Tryd.func15, Tryd.ntmps15
  go_wp2_with fail
  with_reducible refine HP.out.mono ?_
  rintro e w1 ⟨A, xs, c, b, rfl, hpr, hb⟩
  obtain rfl : b = true := hpr.rest
  have hn : xs.length = 2 := by rw [← bs_length, hpr.parts]; rfl
  have halloc : Below w1.heap.size w1 (w1.alloc (.cells #[.slice A xs.length c, .bool true] 24)) := (Below.refl _ _).alloc (Nat.le_refl _) _
  have hm1 := hm.keep hb hm.size
  have HM := Lib.hid (match_any A xs c true _ ⟨#[47, 47, 97, 47, 120, 46, 112, 115, 100, 47, 98, 47, 99]⟩ _ (hpr.keep halloc) (by decide) (hm1.keep halloc hm1.size))
  have e0 : (ByteArray.mk #[47, 47, 97, 47, 120, 46, 112, 115, 100, 47, 98, 47, 99]).data.toList = awakePath := rfl
  rw [e0, awake_match] at HM
  rw [hn] at HM halloc ⊢
  have HB := Lib.hid (hb.trans (halloc.mono hb.size))
  have hz := hb.size
  clear e0 hpr hb halloc
  go_wp2_with fail
  with_reducible refine HM.out.mono ?_
  rintro e w2 ⟨v, rfl, B, ys, d, rfl, hby, hd, hdm, hr, hb2⟩
  obtain ⟨c0, c1⟩ := box_cells hb2
  have HB2 := Lib.hid hb2
  obtain rfl : ys = [⟨#[120]⟩, ⟨#[98, 47, 99]⟩] := bs_inj (by rw [hby]; rfl)
  obtain ⟨g, o, rfl, hg, hcell⟩ := hr.cells (by simp)
  have k0 := hcell 0 (by simp)
  have k1 := hcell 1 (by simp)
  simp only [List.getElem_cons_zero, List.getElem_cons_succ, Nat.add_zero] at k0 k1
  rw [awake_bytes] at hd ⊢
  have hdi : (d : Int) ≤ 9223372036854775807 := by unfold maxLen at hdm; omega
  clear hb2 hby hr hcell hdm
  go_wp2
  go_ret
  exact ⟨rfl, HB.out.trans (HB2.out.mono (by simp; omega))⟩
end Go.Proofs.YtihboibebhokbaaDoor
