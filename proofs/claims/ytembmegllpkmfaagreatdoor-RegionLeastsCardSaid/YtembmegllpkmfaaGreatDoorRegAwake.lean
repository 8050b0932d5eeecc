/- law05.awake. -/
import Derived.Test.YtembmegllpkmfaaGreatDoorRegLeast
namespace Go.Proofs.YtembmegllpkmfaaGreatDoor
open Go.RowKit
set_option linter.unusedVariables false
def awakeG : Pt.Rg.Reg := ⟨⟨[[97]], true⟩, [⟨[[97], [42]], false⟩]⟩
theorem awake5_simp : Pt.Rg.simpL awakeG.base awakeG.holes = [⟨[[97], [42]], false⟩] := by
  refine ((⟨fun x => ?_, List.pairwise_singleton _ _⟩ : Pt.Rg.IsSimp awakeG.base awakeG.holes [⟨[[97], [42]], false⟩]).eq).symm
  have hm : Pt.Rg.met awakeG.base awakeG.holes = [⟨[[97], [42]], false⟩] := by kernel_rfl
  rw [hm]
  constructor
  · intro h
    rw [List.mem_singleton] at h
    subst h
    exact ⟨by simp, fun y hy _ => List.mem_singleton.1 hy⟩
  · exact fun h => h.1
theorem awake5_check : Pt.Rg.gcheck awakeG = 0 := by kernel_rfl
theorem awake5_val : leastR awakeG = some [[97], [43], [43]] := by
  unfold leastR
  rw [if_pos awake5_check]
  show Pt.Rg.leastO awakeG.base (Pt.Rg.simpL awakeG.base awakeG.holes) = _
  rw [awake5_simp]
  kernel_rfl
theorem awake5_short : ShortG awakeG := by
  intro h hh x hx
  rw [List.mem_singleton.1 hh] at hx
  have hm : Pt.meet awakeG.base ⟨[[97], [42]], false⟩ = some ⟨[[97], [42]], false⟩ := by kernel_rfl
  rw [hm] at hx
  injection hx with hx
  rw [← hx]
  unfold shortP
  decide
theorem rds_two (w : World) (x y : ByteArray) : RdS (w.alloc (.cells #[.string x, .string y] 9)) (w.alloc (.cells #[.string x, .string y] 9)).heap.size (some ⟨w.heap.size, 0, none⟩) [x, y] := by
  refine .inr ⟨w.heap.size, 0, rfl, by simp, fun k hk => ?_⟩
  match k, hk with
  | 0, _ => exact cells_new _ _ _ 0 _ rfl
  | 1, _ => exact cells_new _ _ _ 1 _ rfl
set_option maxHeartbeats 4000000 in
theorem awake5_any (w : World) : Calls Tryz.prog 10 #[] w (GivesBB w true) := by
  obtain ⟨W1, hW1⟩ : ∃ W1, W1 = w.alloc (.cells #[.string ⟨#[97]⟩] 9) := ⟨_, rfl⟩
  obtain ⟨W2, hW2⟩ : ∃ W2, W2 = W1.alloc (.cells #[.slice (some ⟨w.heap.size, 0, none⟩) 1 1, .bool true] 24) := ⟨_, rfl⟩
  obtain ⟨W3, hW3⟩ : ∃ W3, W3 = W2.alloc (.cells #[.string ⟨#[97]⟩, .string ⟨#[42]⟩] 9) := ⟨_, rfl⟩
  have hs1 : W1.heap.size = w.heap.size + 1 := by rw [hW1]; simp
  have hs2 : W2.heap.size = w.heap.size + 1 + 1 := by rw [hW2]; simp [hs1]
  have hs3 : W3.heap.size = w.heap.size + 1 + 1 + 1 := by rw [hW3]; simp [hs2]
  have b1 : Below w.heap.size w W1 := by rw [hW1]; exact (Below.refl _ _).alloc (Nat.le_refl _) _
  have b2 : Below W1.heap.size W1 W2 := by rw [hW2]; exact (Below.refl _ _).alloc (Nat.le_refl _) _
  have b3 : Below W2.heap.size W2 W3 := by rw [hW3]; exact (Below.refl _ _).alloc (Nat.le_refl _) _
  have p1 : PatR W1 (some ⟨w.heap.size, 0, none⟩) [⟨#[97]⟩] 1 true ⟨[[97]], true⟩ := by
    rw [hW1]
    exact ⟨new_one w _ _, rfl, rfl, by simp, by decide, fun h => (by cases h), fun y hy => by rw [List.mem_singleton.1 hy]; decide⟩
  have p3 : PatR W3 (some ⟨w.heap.size + 1 + 1, 0, none⟩) [⟨#[97]⟩, ⟨#[42]⟩] 2 false ⟨[[97], [42]], false⟩ := by
    rw [hW3, ← hs2]
    exact ⟨rds_two W2 _ _, rfl, rfl, by simp, by decide, fun h => (by cases h), fun y hy => by
      simp only [List.mem_cons, List.not_mem_nil, or_false] at hy
      rcases hy with rfl | rfl <;> decide⟩
  obtain ⟨y, hy⟩ : ∃ y : BindV, y = ⟨some ⟨w.heap.size + 1 + 1, 0, none⟩, [⟨#[97]⟩, ⟨#[42]⟩], 2, false⟩ := ⟨_, rfl⟩
  have hyp : y.pat = ⟨[[97], [42]], false⟩ := by rw [hy]; rfl
  have hyr : PatR W3 y.A y.xs y.c y.b y.pat := by rw [hyp, hy]; exact p3
  obtain ⟨W4, hW4⟩ : ∃ W4, W4 = W3.alloc (.cells #[.slice y.A y.xs.length y.c, .bool y.b] 24) := ⟨_, rfl⟩
  have hrd : RdB W4 (some ⟨w.heap.size + 1 + 1 + 1, 0, none⟩) [y] 1 := by rw [← hs3, hW4]; exact newP W3 y hyr
  have b4 : Below W3.heap.size W3 W4 := by rw [hW4]; exact (Below.refl _ _).alloc (Nat.le_refl _) _
  have b14 : Below w.heap.size w W4 := ((b1.trans (b2.mono b1.size)).trans (b3.mono (by omega))).trans (b4.mono (by omega))
  have hreg : RegR W4 (some ⟨w.heap.size, 0, none⟩) [⟨#[97]⟩] 1 true (some ⟨w.heap.size + 1 + 1 + 1, 0, none⟩) [y] 1 awakeG := ⟨((p1.keep b2).keep b3).keep b4, hrd, by rw [List.map_cons, hyp]; rfl⟩
  have hL := least_any _ _ _ _ _ _ _ awakeG W4 hreg awake5_short (fun p hp => by rw [List.mem_singleton.1 hp]; decide)
  rw [awake5_val, awake5_check] at hL
  have hL2 : Calls Tryz.prog 12 #[regV (some ⟨w.heap.size, 0, none⟩) 1 1 true (some ⟨w.heap.size + 1 + 1 + 1, 0, none⟩) 1 1] W4 (fun en w' => en = .returned (.tuple #[.string ⟨#[47, 47, 97, 47, 43, 47, 43]⟩, .bool true, .int .i64 0]) ∧ Below W4.heap.size W4 w') := hL
  have HL := Lib.hid hL2
  have HW := Lib.hid b14
  obtain ⟨c0, c1, cl⟩ := PBox.new W1 (some ⟨w.heap.size, 0, none⟩) 1 1 true
  rw [hy] at hW4
  simp only [List.length_cons, List.length_nil] at hW4
  subst hW1
  subst hW2
  subst hW3
  subst hW4
  clear hs1 hs2 hs3 b1 b2 b3 b4 b14 p1 p3 hyr hyp hrd hreg hL hL2 hy c0 c1 cl
  go_enter Tryz.func10, Tryz.ntmps10
  go_wp2_with fail
  with_reducible refine HL.out.mono ?_
  rintro e w1 ⟨rfl, hb1⟩
  have HB1 := Lib.hid hb1
  clear hb1
  go_wp2
  go_ret
  exact ⟨rfl, HW.out.trans (HB1.out.mono HW.out.size)⟩
end Go.Proofs.YtembmegllpkmfaaGreatDoor
