/- PatternLaminar returns true at every two strings (the card: the variables that it lists hold what the program text lays). Conditions: none of its own. -/
import Derived.Test.YtffjmhdnfkpdpaaDoorCards
import Derived.Test.YtffjmhdnfkpdpaaDoorTie
import Derived.WalkKit
import Derived.ProofKit
import Derived.OpenShut
import Derived.ShutString
import Derived.Test.YtffjmhdnfkpdpaaDoorPatHeld
import Derived.Test.YtffjmhdnfkpdpaaDoorPatOpen
import Derived.Test.YtffjmhdnfkpdpaaDoorPatGo8
namespace Go.Proofs.YtffjmhdnfkpdpaaDoor.patternLaminar
open Go.ChangeShapes Go.WideShapes Go.ChangeAt Go.RowKit
open Go.ChangeMaps (open_string shut_string)
set_option linter.unusedVariables false

set_option maxHeartbeats 8000000 in
theorem walk (w : World) (s0 : ByteArray) (w0 : s0.size ≤ maxLen) (s1 : ByteArray) (w1 : s1.size ≤ maxLen) (hm : MaxL w) :
    Calls Tryd.prog 17 #[.string s0, .string s1] w fun e w' => e = .returned (.bool true) ∧ Below w.heap.size w w' := by
  have HAw := Lib.hid (fun (w : World) (hm : MaxL w) => awake3_any w hm)
  by_cases h0 : 60 < s0.size
  · have g0 : (60 : Int) < (s0.size : Int) := by omega
    go_enter Tryd.func17, Tryd.ntmps17
    go_wp2_with fail
    with_reducible refine (HAw.out _ hm).mono ?_
    rintro e w9 ⟨rfl, hb9⟩
    go_wp2
    go_ret
    exact ⟨rfl, hb9⟩
  have g0 : ¬ (60 : Int) < (s0.size : Int) := by omega
  by_cases h1 : 60 < s1.size
  · have g1 : (60 : Int) < (s1.size : Int) := by omega
    go_enter Tryd.func17, Tryd.ntmps17
    go_wp2_with fail
    with_reducible refine (HAw.out _ hm).mono ?_
    rintro e w9 ⟨rfl, hb9⟩
    go_wp2
    go_ret
    exact ⟨rfl, hb9⟩
  have g1 : ¬ (60 : Int) < (s1.size : Int) := by omega
  obtain ⟨U, hU⟩ : ∃ U, U = (w.alloc (.cells #[.string ⟨#[97]⟩, .string s0] 9)).alloc (.cells #[.string ⟨#[97]⟩, .string s1] 9) := ⟨_, rfl⟩
  obtain ⟨W0, hW0⟩ : ∃ W0, W0 = (U.alloc (.cells #[.slice (some ⟨w.heap.size, 0, none⟩) 2 2, .bool false] 25)).alloc (.cells #[.slice (some ⟨w.heap.size + 1, 0, none⟩) 2 2, .bool false] 25) := ⟨_, rfl⟩
  have huw : Below w.heap.size w U := by rw [hU]; exact ((Below.refl _ _).alloc (Nat.le_refl _) _).alloc (by simp) _
  have hal : Below U.heap.size U W0 := by rw [hW0]; exact ((Below.refl _ _).alloc (Nat.le_refl _) _).alloc (by simp) _
  have hus : U.heap.size = w.heap.size + 1 + 1 := by rw [hU]; simp
  obtain ⟨q0, q1, q2, q3⟩ := box2_cells (w := w) (w' := U) (v0 := .string ⟨#[97]⟩) (v1 := .string s0) (u0 := .string ⟨#[97]⟩) (u1 := .string s1) (t := 9) (by rw [← hU]; exact Below.refl _ _)
  have hr0 : PatR U (some ⟨w.heap.size, 0, none⟩) [⟨#[97]⟩, s0] 2 false (Pt.two s0.data.toList) := ⟨.inr ⟨w.heap.size, 0, rfl, by rw [hus]; omega, fun i hi => by
      match i, hi with
      | 0, _ => exact q0
      | 1, _ => exact q1⟩, rfl, rfl, by simp, by decide, (fun h => by cases h), fun x hx => by
      rcases List.mem_cons.1 hx with rfl | hx
      · decide
      · rw [List.mem_singleton.1 hx]; exact w0⟩
  have hr1 : PatR U (some ⟨w.heap.size + 1, 0, none⟩) [⟨#[97]⟩, s1] 2 false (Pt.two s1.data.toList) := ⟨.inr ⟨w.heap.size + 1, 0, rfl, by rw [hus]; omega, fun i hi => by
      match i, hi with
      | 0, _ => exact q2
      | 1, _ => exact q3⟩, rfl, rfl, by simp, by decide, (fun h => by cases h), fun x hx => by
      rcases List.mem_cons.1 hx with rfl | hx
      · decide
      · rw [List.mem_singleton.1 hx]; exact w1⟩
  have hmW := (hm.keep huw hm.size).keep hal (hm.keep huw hm.size).size
  have HK0 := Lib.hid (fun (w' : World) (hb : Below W0.heap.size W0 w') => hr0.keep (hal.trans (hb.mono hal.size)))
  have HK1 := Lib.hid (fun (w' : World) (hb : Below W0.heap.size W0 w') => hr1.keep (hal.trans (hb.mono hal.size)))
  have HCk0 := Lib.hid (fun (w' : World) (hb : Below W0.heap.size W0 w') => check_any (some ⟨w.heap.size, 0, none⟩) [⟨#[97]⟩, s0] 2 false _ w' (HK0.out w' hb))
  have HCk1 := Lib.hid (fun (w' : World) (hb : Below W0.heap.size W0 w') => check_any (some ⟨w.heap.size + 1, 0, none⟩) [⟨#[97]⟩, s1] 2 false _ w' (HK1.out w' hb))
  have HMt := Lib.hid (fun (w' : World) (hb : Below W0.heap.size W0 w') => meet_any (some ⟨w.heap.size, 0, none⟩) (some ⟨w.heap.size + 1, 0, none⟩) [⟨#[97]⟩, s0] [⟨#[97]⟩, s1] 2 2 false false _ _ w' (HK0.out w' hb) (HK1.out w' hb))
  have HWa := Lib.hid (fun (w' : World) (hb : Below W0.heap.size W0 w') => within_any (some ⟨w.heap.size, 0, none⟩) (some ⟨w.heap.size + 1, 0, none⟩) [⟨#[97]⟩, s0] [⟨#[97]⟩, s1] 2 2 false false _ _ w' (HK0.out w' hb) (HK1.out w' hb))
  have HWb := Lib.hid (fun (w' : World) (hb : Below W0.heap.size W0 w') => within_any (some ⟨w.heap.size + 1, 0, none⟩) (some ⟨w.heap.size, 0, none⟩) [⟨#[97]⟩, s1] [⟨#[97]⟩, s0] 2 2 false false _ _ w' (HK1.out w' hb) (HK0.out w' hb))
  have HTM := Lib.hid (fun (h1 : Pt.check (Pt.two s0.data.toList) = 0) (h2 : Pt.check (Pt.two s1.data.toList) = 0) => Pt.two_meet h1 h2)
  have HTA := Lib.hid (fun (h1 : Pt.check (Pt.two s0.data.toList) = 0) (h2 : Pt.check (Pt.two s1.data.toList) = 0) => Pt.two_within h1 h2)
  have HTB := Lib.hid (fun (h1 : Pt.check (Pt.two s0.data.toList) = 0) (h2 : Pt.check (Pt.two s1.data.toList) = 0) => Pt.two_within h2 h1)
  generalize Pt.check (Pt.two s0.data.toList) = k0 at *
  generalize Pt.check (Pt.two s1.data.toList) = k1 at *
  generalize Pt.meet (Pt.two s0.data.toList) (Pt.two s1.data.toList) = om at *
  generalize Pt.within (Pt.two s0.data.toList) (Pt.two s1.data.toList) = va at *
  generalize Pt.within (Pt.two s1.data.toList) (Pt.two s0.data.toList) = vb at *
  generalize Pt.inside s0.data.toList s1.data.toList = ia at *
  generalize Pt.inside s1.data.toList s0.data.toList = ib at *
  simp only [show ∀ x y : ByteArray, [x, y].length = 2 from fun _ _ => rfl] at HCk0 HCk1 HMt HWa HWb
  have HAL := Lib.hid (huw.trans (hal.mono huw.size))
  have HX := Lib.hid (Below.refl W0.heap.size W0)
  have HUS := Lib.hid hus
  by_cases hk0 : k0 = 0
  · subst hk0
    by_cases hk1 : k1 = 0
    · subst hk1
      have htm := HTM.out rfl rfl
      have hta := HTA.out rfl rfl
      have htb := HTB.out rfl rfl
      subst hta htb
      clear HTM HTA HTB
      cases va with
      | true =>
        simp only [if_true] at htm
        subst htm
        subst hW0
        subst hU
        clear hal huw hr0 hr1 q0 q1 q2 q3 hus h0 h1
        go_enter Tryd.func17, Tryd.ntmps17
        go_wp2_with fail
        with_reducible refine (HCk0.out _ HX.out).mono ?_
        rintro e w1 ⟨rfl, hb1⟩
        have hX_w1 := HX.out.trans (hb1.mono HX.out.size)
        have HX_w1 := Lib.hid hX_w1
        obtain ⟨kX0_w1, kX1_w1, kX2_w1, kX3_w1⟩ := box2_cells hX_w1
        simp only [show (World.heap ((w.alloc (.cells #[.string ⟨#[97]⟩, .string s0] 9)).alloc (.cells #[.string ⟨#[97]⟩, .string s1] 9))).size = w.heap.size + 1 + 1 by simp] at kX0_w1 kX1_w1 kX2_w1 kX3_w1
        clear hX_w1
        have z_w1 := HX_w1.out.size
        simp only [World.alloc, Array.size_push] at z_w1
        have hm_w1 := hmW.keep hb1 hmW.size
        clear hb1
        go_wp2_with fail
        with_reducible refine (HCk1.out _ HX_w1.out).mono ?_
        rintro e w2 ⟨rfl, hb2⟩
        have hX_w2 := HX_w1.out.trans (hb2.mono HX_w1.out.size)
        have HX_w2 := Lib.hid hX_w2
        obtain ⟨kX0_w2, kX1_w2, kX2_w2, kX3_w2⟩ := box2_cells hX_w2
        simp only [show (World.heap ((w.alloc (.cells #[.string ⟨#[97]⟩, .string s0] 9)).alloc (.cells #[.string ⟨#[97]⟩, .string s1] 9))).size = w.heap.size + 1 + 1 by simp] at kX0_w2 kX1_w2 kX2_w2 kX3_w2
        clear hX_w2
        have z_w2 := HX_w2.out.size
        simp only [World.alloc, Array.size_push] at z_w2
        have hm_w2 := hm_w1.keep hb2 hm_w1.size
        clear hb2 kX0_w1 kX1_w1 kX2_w1 kX3_w1
        go_wp2_with fail
        with_reducible refine (HMt.out _ HX_w2.out).mono ?_
        rintro e w3 ⟨Am, xsm, cm, bm, rfl, hpm, hb3⟩
        have hX_w3 := HX_w2.out.trans (hb3.mono HX_w2.out.size)
        have HX_w3 := Lib.hid hX_w3
        obtain ⟨kX0_w3, kX1_w3, kX2_w3, kX3_w3⟩ := box2_cells hX_w3
        simp only [show (World.heap ((w.alloc (.cells #[.string ⟨#[97]⟩, .string s0] 9)).alloc (.cells #[.string ⟨#[97]⟩, .string s1] 9))).size = w.heap.size + 1 + 1 by simp] at kX0_w3 kX1_w3 kX2_w3 kX3_w3
        clear hX_w3
        have z_w3 := HX_w3.out.size
        simp only [World.alloc, Array.size_push] at z_w3
        have hm_w3 := hm_w2.keep hb3 hm_w2.size
        clear hb3 kX0_w2 kX1_w2 kX2_w2 kX3_w2
        obtain rfl : xsm = [⟨#[97]⟩, s0] := bs_inj hpm.parts
        simp only [show ∀ x y : ByteArray, [x, y].length = 2 from fun _ _ => rfl]
        have ha3 : Below w3.heap.size w3 (w3.alloc (.cells #[.slice Am 2 cm, .bool bm] 25)) := (Below.refl _ _).alloc (Nat.le_refl _) _
        have HX_b3 := Lib.hid (HX_w3.out.trans (ha3.mono HX_w3.out.size))
        obtain ⟨kX0_b3, kX1_b3, kX2_b3, kX3_b3⟩ := box2_cells HX_b3.out
        simp only [show (World.heap ((w.alloc (.cells #[.string ⟨#[97]⟩, .string s0] 9)).alloc (.cells #[.string ⟨#[97]⟩, .string s1] 9))).size = w.heap.size + 1 + 1 by simp] at kX0_b3 kX1_b3 kX2_b3 kX3_b3
        have hm_b3 := hm_w3.keep ha3 hm_w3.size
        have HBM := Lib.hid (hpm.keep ha3)
        clear hpm
        clear ha3
        have HM := Lib.hid (Below.refl (World.heap (w3.alloc (.cells #[.slice Am 2 cm, .bool bm] 25))).size (w3.alloc (.cells #[.slice Am 2 cm, .bool bm] 25)))
        go_wp2_with fail
        with_reducible refine (HWa.out _ HX_b3.out).mono ?_
        rintro e w4 ⟨rfl, hb4⟩
        have hX_w4 := HX_b3.out.trans (hb4.mono HX_b3.out.size)
        have HX_w4 := Lib.hid hX_w4
        obtain ⟨kX0_w4, kX1_w4, kX2_w4, kX3_w4⟩ := box2_cells hX_w4
        simp only [show (World.heap ((w.alloc (.cells #[.string ⟨#[97]⟩, .string s0] 9)).alloc (.cells #[.string ⟨#[97]⟩, .string s1] 9))).size = w.heap.size + 1 + 1 by simp] at kX0_w4 kX1_w4 kX2_w4 kX3_w4
        clear hX_w4
        have hM_w4 := HM.out.trans (hb4.mono HM.out.size)
        have HM_w4 := Lib.hid hM_w4
        obtain ⟨kM0_w4, kM1_w4⟩ := box_cells hM_w4
        clear hM_w4
        have z_w4 := HX_w4.out.size
        simp only [World.alloc, Array.size_push] at z_w4
        have hm_w4 := hm_b3.keep hb4 hm_b3.size
        clear hb4 kX0_w3 kX1_w3 kX2_w3 kX3_w3 kX0_b3 kX1_b3 kX2_b3 kX3_b3
        have q1 := HK0.out _ HX_w4.out
        have q2 := HBM.out.keep HM_w4.out
        have HEq := Lib.hid (requal_any _ _ _ _ _ _ _ _ _ q2.rd q1.rd (Nat.le_trans q2.le q2.cm) q2.le q1.le (Nat.le_trans q1.le q1.cm))
        rw [decide_eq_true rfl] at HEq
        simp only [show ∀ x y : ByteArray, [x, y].length = 2 from fun _ _ => rfl] at HEq
        clear q1 q2
        go_wp2_with fail
        with_reducible refine (HEq.out).mono ?_
        rintro e w5 ⟨rfl, hd5⟩
        have hb5 := hd5.below (World.heap w4).size
        have hX_w5 := HX_w4.out.trans (hb5.mono HX_w4.out.size)
        have HX_w5 := Lib.hid hX_w5
        obtain ⟨kX0_w5, kX1_w5, kX2_w5, kX3_w5⟩ := box2_cells hX_w5
        simp only [show (World.heap ((w.alloc (.cells #[.string ⟨#[97]⟩, .string s0] 9)).alloc (.cells #[.string ⟨#[97]⟩, .string s1] 9))).size = w.heap.size + 1 + 1 by simp] at kX0_w5 kX1_w5 kX2_w5 kX3_w5
        clear hX_w5
        have hM_w5 := HM_w4.out.trans (hb5.mono HM_w4.out.size)
        have HM_w5 := Lib.hid hM_w5
        obtain ⟨kM0_w5, kM1_w5⟩ := box_cells hM_w5
        clear hM_w5
        have z_w5 := HX_w5.out.size
        simp only [World.alloc, Array.size_push] at z_w5
        have hm_w5 := hm_w4.keep hb5 hm_w4.size
        clear hb5 kX0_w4 kX1_w4 kX2_w4 kX3_w4 kM0_w4 kM1_w4
        go_wp2_with fail
        with_reducible refine (HAw.out _ hm_w5).mono ?_
        rintro e w6 ⟨rfl, hb6⟩
        have hX_w6 := HX_w5.out.trans (hb6.mono HX_w5.out.size)
        have HX_w6 := Lib.hid hX_w6
        obtain ⟨kX0_w6, kX1_w6, kX2_w6, kX3_w6⟩ := box2_cells hX_w6
        simp only [show (World.heap ((w.alloc (.cells #[.string ⟨#[97]⟩, .string s0] 9)).alloc (.cells #[.string ⟨#[97]⟩, .string s1] 9))).size = w.heap.size + 1 + 1 by simp] at kX0_w6 kX1_w6 kX2_w6 kX3_w6
        clear hX_w6
        have hM_w6 := HM_w5.out.trans (hb6.mono HM_w5.out.size)
        have HM_w6 := Lib.hid hM_w6
        obtain ⟨kM0_w6, kM1_w6⟩ := box_cells hM_w6
        clear hM_w6
        have z_w6 := HX_w6.out.size
        simp only [World.alloc, Array.size_push] at z_w6
        have hm_w6 := hm_w5.keep hb6 hm_w5.size
        clear hb6 kX0_w5 kX1_w5 kX2_w5 kX3_w5 kM0_w5 kM1_w5
        go_wp2
        go_ret
        exact ⟨rfl, HAL.out.trans (HX_w6.out.mono HAL.out.size)⟩
      | false =>
        simp only [Bool.false_eq_true, if_false] at htm
        cases vb with
        | true =>
          simp only [if_true] at htm
          subst htm
          subst hW0
          subst hU
          clear hal huw hr0 hr1 q0 q1 q2 q3 hus h0 h1
          go_enter Tryd.func17, Tryd.ntmps17
          go_wp2_with fail
          with_reducible refine (HCk0.out _ HX.out).mono ?_
          rintro e w1 ⟨rfl, hb1⟩
          have hX_w1 := HX.out.trans (hb1.mono HX.out.size)
          have HX_w1 := Lib.hid hX_w1
          obtain ⟨kX0_w1, kX1_w1, kX2_w1, kX3_w1⟩ := box2_cells hX_w1
          simp only [show (World.heap ((w.alloc (.cells #[.string ⟨#[97]⟩, .string s0] 9)).alloc (.cells #[.string ⟨#[97]⟩, .string s1] 9))).size = w.heap.size + 1 + 1 by simp] at kX0_w1 kX1_w1 kX2_w1 kX3_w1
          clear hX_w1
          have z_w1 := HX_w1.out.size
          simp only [World.alloc, Array.size_push] at z_w1
          have hm_w1 := hmW.keep hb1 hmW.size
          clear hb1
          go_wp2_with fail
          with_reducible refine (HCk1.out _ HX_w1.out).mono ?_
          rintro e w2 ⟨rfl, hb2⟩
          have hX_w2 := HX_w1.out.trans (hb2.mono HX_w1.out.size)
          have HX_w2 := Lib.hid hX_w2
          obtain ⟨kX0_w2, kX1_w2, kX2_w2, kX3_w2⟩ := box2_cells hX_w2
          simp only [show (World.heap ((w.alloc (.cells #[.string ⟨#[97]⟩, .string s0] 9)).alloc (.cells #[.string ⟨#[97]⟩, .string s1] 9))).size = w.heap.size + 1 + 1 by simp] at kX0_w2 kX1_w2 kX2_w2 kX3_w2
          clear hX_w2
          have z_w2 := HX_w2.out.size
          simp only [World.alloc, Array.size_push] at z_w2
          have hm_w2 := hm_w1.keep hb2 hm_w1.size
          clear hb2 kX0_w1 kX1_w1 kX2_w1 kX3_w1
          go_wp2_with fail
          with_reducible refine (HMt.out _ HX_w2.out).mono ?_
          rintro e w3 ⟨Am, xsm, cm, bm, rfl, hpm, hb3⟩
          have hX_w3 := HX_w2.out.trans (hb3.mono HX_w2.out.size)
          have HX_w3 := Lib.hid hX_w3
          obtain ⟨kX0_w3, kX1_w3, kX2_w3, kX3_w3⟩ := box2_cells hX_w3
          simp only [show (World.heap ((w.alloc (.cells #[.string ⟨#[97]⟩, .string s0] 9)).alloc (.cells #[.string ⟨#[97]⟩, .string s1] 9))).size = w.heap.size + 1 + 1 by simp] at kX0_w3 kX1_w3 kX2_w3 kX3_w3
          clear hX_w3
          have z_w3 := HX_w3.out.size
          simp only [World.alloc, Array.size_push] at z_w3
          have hm_w3 := hm_w2.keep hb3 hm_w2.size
          clear hb3 kX0_w2 kX1_w2 kX2_w2 kX3_w2
          obtain rfl : xsm = [⟨#[97]⟩, s1] := bs_inj hpm.parts
          simp only [show ∀ x y : ByteArray, [x, y].length = 2 from fun _ _ => rfl]
          have ha3 : Below w3.heap.size w3 (w3.alloc (.cells #[.slice Am 2 cm, .bool bm] 25)) := (Below.refl _ _).alloc (Nat.le_refl _) _
          have HX_b3 := Lib.hid (HX_w3.out.trans (ha3.mono HX_w3.out.size))
          obtain ⟨kX0_b3, kX1_b3, kX2_b3, kX3_b3⟩ := box2_cells HX_b3.out
          simp only [show (World.heap ((w.alloc (.cells #[.string ⟨#[97]⟩, .string s0] 9)).alloc (.cells #[.string ⟨#[97]⟩, .string s1] 9))).size = w.heap.size + 1 + 1 by simp] at kX0_b3 kX1_b3 kX2_b3 kX3_b3
          have hm_b3 := hm_w3.keep ha3 hm_w3.size
          have HBM := Lib.hid (hpm.keep ha3)
          clear hpm
          clear ha3
          have HM := Lib.hid (Below.refl (World.heap (w3.alloc (.cells #[.slice Am 2 cm, .bool bm] 25))).size (w3.alloc (.cells #[.slice Am 2 cm, .bool bm] 25)))
          go_wp2_with fail
          with_reducible refine (HWa.out _ HX_b3.out).mono ?_
          rintro e w4 ⟨rfl, hb4⟩
          have hX_w4 := HX_b3.out.trans (hb4.mono HX_b3.out.size)
          have HX_w4 := Lib.hid hX_w4
          obtain ⟨kX0_w4, kX1_w4, kX2_w4, kX3_w4⟩ := box2_cells hX_w4
          simp only [show (World.heap ((w.alloc (.cells #[.string ⟨#[97]⟩, .string s0] 9)).alloc (.cells #[.string ⟨#[97]⟩, .string s1] 9))).size = w.heap.size + 1 + 1 by simp] at kX0_w4 kX1_w4 kX2_w4 kX3_w4
          clear hX_w4
          have hM_w4 := HM.out.trans (hb4.mono HM.out.size)
          have HM_w4 := Lib.hid hM_w4
          obtain ⟨kM0_w4, kM1_w4⟩ := box_cells hM_w4
          clear hM_w4
          have z_w4 := HX_w4.out.size
          simp only [World.alloc, Array.size_push] at z_w4
          have hm_w4 := hm_b3.keep hb4 hm_b3.size
          clear hb4 kX0_w3 kX1_w3 kX2_w3 kX3_w3 kX0_b3 kX1_b3 kX2_b3 kX3_b3
          go_wp2_with fail
          with_reducible refine (HWb.out _ HX_w4.out).mono ?_
          rintro e w5 ⟨rfl, hb5⟩
          have hX_w5 := HX_w4.out.trans (hb5.mono HX_w4.out.size)
          have HX_w5 := Lib.hid hX_w5
          obtain ⟨kX0_w5, kX1_w5, kX2_w5, kX3_w5⟩ := box2_cells hX_w5
          simp only [show (World.heap ((w.alloc (.cells #[.string ⟨#[97]⟩, .string s0] 9)).alloc (.cells #[.string ⟨#[97]⟩, .string s1] 9))).size = w.heap.size + 1 + 1 by simp] at kX0_w5 kX1_w5 kX2_w5 kX3_w5
          clear hX_w5
          have hM_w5 := HM_w4.out.trans (hb5.mono HM_w4.out.size)
          have HM_w5 := Lib.hid hM_w5
          obtain ⟨kM0_w5, kM1_w5⟩ := box_cells hM_w5
          clear hM_w5
          have z_w5 := HX_w5.out.size
          simp only [World.alloc, Array.size_push] at z_w5
          have hm_w5 := hm_w4.keep hb5 hm_w4.size
          clear hb5 kX0_w4 kX1_w4 kX2_w4 kX3_w4 kM0_w4 kM1_w4
          have q1 := HK1.out _ HX_w5.out
          have q2 := HBM.out.keep HM_w5.out
          have HEq := Lib.hid (requal_any _ _ _ _ _ _ _ _ _ q2.rd q1.rd (Nat.le_trans q2.le q2.cm) q2.le q1.le (Nat.le_trans q1.le q1.cm))
          rw [decide_eq_true rfl] at HEq
          simp only [show ∀ x y : ByteArray, [x, y].length = 2 from fun _ _ => rfl] at HEq
          clear q1 q2
          go_wp2_with fail
          with_reducible refine (HEq.out).mono ?_
          rintro e w6 ⟨rfl, hd6⟩
          have hb6 := hd6.below (World.heap w5).size
          have hX_w6 := HX_w5.out.trans (hb6.mono HX_w5.out.size)
          have HX_w6 := Lib.hid hX_w6
          obtain ⟨kX0_w6, kX1_w6, kX2_w6, kX3_w6⟩ := box2_cells hX_w6
          simp only [show (World.heap ((w.alloc (.cells #[.string ⟨#[97]⟩, .string s0] 9)).alloc (.cells #[.string ⟨#[97]⟩, .string s1] 9))).size = w.heap.size + 1 + 1 by simp] at kX0_w6 kX1_w6 kX2_w6 kX3_w6
          clear hX_w6
          have hM_w6 := HM_w5.out.trans (hb6.mono HM_w5.out.size)
          have HM_w6 := Lib.hid hM_w6
          obtain ⟨kM0_w6, kM1_w6⟩ := box_cells hM_w6
          clear hM_w6
          have z_w6 := HX_w6.out.size
          simp only [World.alloc, Array.size_push] at z_w6
          have hm_w6 := hm_w5.keep hb6 hm_w5.size
          clear hb6 kX0_w5 kX1_w5 kX2_w5 kX3_w5 kM0_w5 kM1_w5
          go_wp2_with fail
          with_reducible refine (HAw.out _ hm_w6).mono ?_
          rintro e w7 ⟨rfl, hb7⟩
          have hX_w7 := HX_w6.out.trans (hb7.mono HX_w6.out.size)
          have HX_w7 := Lib.hid hX_w7
          obtain ⟨kX0_w7, kX1_w7, kX2_w7, kX3_w7⟩ := box2_cells hX_w7
          simp only [show (World.heap ((w.alloc (.cells #[.string ⟨#[97]⟩, .string s0] 9)).alloc (.cells #[.string ⟨#[97]⟩, .string s1] 9))).size = w.heap.size + 1 + 1 by simp] at kX0_w7 kX1_w7 kX2_w7 kX3_w7
          clear hX_w7
          have hM_w7 := HM_w6.out.trans (hb7.mono HM_w6.out.size)
          have HM_w7 := Lib.hid hM_w7
          obtain ⟨kM0_w7, kM1_w7⟩ := box_cells hM_w7
          clear hM_w7
          have z_w7 := HX_w7.out.size
          simp only [World.alloc, Array.size_push] at z_w7
          have hm_w7 := hm_w6.keep hb7 hm_w6.size
          clear hb7 kX0_w6 kX1_w6 kX2_w6 kX3_w6 kM0_w6 kM1_w6
          go_wp2
          go_ret
          exact ⟨rfl, HAL.out.trans (HX_w7.out.mono HAL.out.size)⟩
        | false =>
          simp only [Bool.false_eq_true, if_false] at htm
          subst htm
          subst hW0
          subst hU
          clear hal huw hr0 hr1 q0 q1 q2 q3 hus h0 h1
          go_enter Tryd.func17, Tryd.ntmps17
          go_wp2_with fail
          with_reducible refine (HCk0.out _ HX.out).mono ?_
          rintro e w1 ⟨rfl, hb1⟩
          have hX_w1 := HX.out.trans (hb1.mono HX.out.size)
          have HX_w1 := Lib.hid hX_w1
          obtain ⟨kX0_w1, kX1_w1, kX2_w1, kX3_w1⟩ := box2_cells hX_w1
          simp only [show (World.heap ((w.alloc (.cells #[.string ⟨#[97]⟩, .string s0] 9)).alloc (.cells #[.string ⟨#[97]⟩, .string s1] 9))).size = w.heap.size + 1 + 1 by simp] at kX0_w1 kX1_w1 kX2_w1 kX3_w1
          clear hX_w1
          have z_w1 := HX_w1.out.size
          simp only [World.alloc, Array.size_push] at z_w1
          have hm_w1 := hmW.keep hb1 hmW.size
          clear hb1
          go_wp2_with fail
          with_reducible refine (HCk1.out _ HX_w1.out).mono ?_
          rintro e w2 ⟨rfl, hb2⟩
          have hX_w2 := HX_w1.out.trans (hb2.mono HX_w1.out.size)
          have HX_w2 := Lib.hid hX_w2
          obtain ⟨kX0_w2, kX1_w2, kX2_w2, kX3_w2⟩ := box2_cells hX_w2
          simp only [show (World.heap ((w.alloc (.cells #[.string ⟨#[97]⟩, .string s0] 9)).alloc (.cells #[.string ⟨#[97]⟩, .string s1] 9))).size = w.heap.size + 1 + 1 by simp] at kX0_w2 kX1_w2 kX2_w2 kX3_w2
          clear hX_w2
          have z_w2 := HX_w2.out.size
          simp only [World.alloc, Array.size_push] at z_w2
          have hm_w2 := hm_w1.keep hb2 hm_w1.size
          clear hb2 kX0_w1 kX1_w1 kX2_w1 kX3_w1
          go_wp2_with fail
          with_reducible refine (HMt.out _ HX_w2.out).mono ?_
          rintro e w3 ⟨Am, xsm, cm, bm, rfl, hpm, hb3⟩
          have hX_w3 := HX_w2.out.trans (hb3.mono HX_w2.out.size)
          have HX_w3 := Lib.hid hX_w3
          obtain ⟨kX0_w3, kX1_w3, kX2_w3, kX3_w3⟩ := box2_cells hX_w3
          simp only [show (World.heap ((w.alloc (.cells #[.string ⟨#[97]⟩, .string s0] 9)).alloc (.cells #[.string ⟨#[97]⟩, .string s1] 9))).size = w.heap.size + 1 + 1 by simp] at kX0_w3 kX1_w3 kX2_w3 kX3_w3
          clear hX_w3
          have z_w3 := HX_w3.out.size
          simp only [World.alloc, Array.size_push] at z_w3
          have hm_w3 := hm_w2.keep hb3 hm_w2.size
          clear hb3 kX0_w2 kX1_w2 kX2_w2 kX3_w2
          have ha3 : Below w3.heap.size w3 (w3.alloc (.cells #[.slice Am xsm.length cm, .bool bm] 25)) := (Below.refl _ _).alloc (Nat.le_refl _) _
          have HX_b3 := Lib.hid (HX_w3.out.trans (ha3.mono HX_w3.out.size))
          obtain ⟨kX0_b3, kX1_b3, kX2_b3, kX3_b3⟩ := box2_cells HX_b3.out
          simp only [show (World.heap ((w.alloc (.cells #[.string ⟨#[97]⟩, .string s0] 9)).alloc (.cells #[.string ⟨#[97]⟩, .string s1] 9))).size = w.heap.size + 1 + 1 by simp] at kX0_b3 kX1_b3 kX2_b3 kX3_b3
          have hm_b3 := hm_w3.keep ha3 hm_w3.size
          clear ha3
          have HM := Lib.hid (Below.refl (World.heap (w3.alloc (.cells #[.slice Am xsm.length cm, .bool bm] 25))).size (w3.alloc (.cells #[.slice Am xsm.length cm, .bool bm] 25)))
          go_wp2_with fail
          with_reducible refine (HWa.out _ HX_b3.out).mono ?_
          rintro e w4 ⟨rfl, hb4⟩
          have hX_w4 := HX_b3.out.trans (hb4.mono HX_b3.out.size)
          have HX_w4 := Lib.hid hX_w4
          obtain ⟨kX0_w4, kX1_w4, kX2_w4, kX3_w4⟩ := box2_cells hX_w4
          simp only [show (World.heap ((w.alloc (.cells #[.string ⟨#[97]⟩, .string s0] 9)).alloc (.cells #[.string ⟨#[97]⟩, .string s1] 9))).size = w.heap.size + 1 + 1 by simp] at kX0_w4 kX1_w4 kX2_w4 kX3_w4
          clear hX_w4
          have hM_w4 := HM.out.trans (hb4.mono HM.out.size)
          have HM_w4 := Lib.hid hM_w4
          obtain ⟨kM0_w4, kM1_w4⟩ := box_cells hM_w4
          clear hM_w4
          have z_w4 := HX_w4.out.size
          simp only [World.alloc, Array.size_push] at z_w4
          have hm_w4 := hm_b3.keep hb4 hm_b3.size
          clear hb4 kX0_w3 kX1_w3 kX2_w3 kX3_w3 kX0_b3 kX1_b3 kX2_b3 kX3_b3
          go_wp2_with fail
          with_reducible refine (HWb.out _ HX_w4.out).mono ?_
          rintro e w5 ⟨rfl, hb5⟩
          have hX_w5 := HX_w4.out.trans (hb5.mono HX_w4.out.size)
          have HX_w5 := Lib.hid hX_w5
          obtain ⟨kX0_w5, kX1_w5, kX2_w5, kX3_w5⟩ := box2_cells hX_w5
          simp only [show (World.heap ((w.alloc (.cells #[.string ⟨#[97]⟩, .string s0] 9)).alloc (.cells #[.string ⟨#[97]⟩, .string s1] 9))).size = w.heap.size + 1 + 1 by simp] at kX0_w5 kX1_w5 kX2_w5 kX3_w5
          clear hX_w5
          have hM_w5 := HM_w4.out.trans (hb5.mono HM_w4.out.size)
          have HM_w5 := Lib.hid hM_w5
          obtain ⟨kM0_w5, kM1_w5⟩ := box_cells hM_w5
          clear hM_w5
          have z_w5 := HX_w5.out.size
          simp only [World.alloc, Array.size_push] at z_w5
          have hm_w5 := hm_w4.keep hb5 hm_w4.size
          clear hb5 kX0_w4 kX1_w4 kX2_w4 kX3_w4 kM0_w4 kM1_w4
          go_wp2_with fail
          with_reducible refine (HAw.out _ hm_w5).mono ?_
          rintro e w6 ⟨rfl, hb6⟩
          have hX_w6 := HX_w5.out.trans (hb6.mono HX_w5.out.size)
          have HX_w6 := Lib.hid hX_w6
          obtain ⟨kX0_w6, kX1_w6, kX2_w6, kX3_w6⟩ := box2_cells hX_w6
          simp only [show (World.heap ((w.alloc (.cells #[.string ⟨#[97]⟩, .string s0] 9)).alloc (.cells #[.string ⟨#[97]⟩, .string s1] 9))).size = w.heap.size + 1 + 1 by simp] at kX0_w6 kX1_w6 kX2_w6 kX3_w6
          clear hX_w6
          have hM_w6 := HM_w5.out.trans (hb6.mono HM_w5.out.size)
          have HM_w6 := Lib.hid hM_w6
          obtain ⟨kM0_w6, kM1_w6⟩ := box_cells hM_w6
          clear hM_w6
          have z_w6 := HX_w6.out.size
          simp only [World.alloc, Array.size_push] at z_w6
          have hm_w6 := hm_w5.keep hb6 hm_w5.size
          clear hb6 kX0_w5 kX1_w5 kX2_w5 kX3_w5 kM0_w5 kM1_w5
          go_wp2
          go_ret
          exact ⟨rfl, HAL.out.trans (HX_w6.out.mono HAL.out.size)⟩
    · have u1 : ((k1 : Int) == 0) = false := by rw [beq_eq_false_iff_ne]; omega
      have u2 : ((k1 : Int) != 0) = true := by rw [bne, u1]; rfl
      subst hW0
      subst hU
      clear hal huw hr0 hr1 q0 q1 q2 q3 hus h0 h1
      go_enter Tryd.func17, Tryd.ntmps17
      go_wp2_with fail
      with_reducible refine (HCk0.out _ HX.out).mono ?_
      rintro e w1 ⟨rfl, hb1⟩
      have hX_w1 := HX.out.trans (hb1.mono HX.out.size)
      have HX_w1 := Lib.hid hX_w1
      obtain ⟨kX0_w1, kX1_w1, kX2_w1, kX3_w1⟩ := box2_cells hX_w1
      simp only [show (World.heap ((w.alloc (.cells #[.string ⟨#[97]⟩, .string s0] 9)).alloc (.cells #[.string ⟨#[97]⟩, .string s1] 9))).size = w.heap.size + 1 + 1 by simp] at kX0_w1 kX1_w1 kX2_w1 kX3_w1
      clear hX_w1
      have z_w1 := HX_w1.out.size
      simp only [World.alloc, Array.size_push] at z_w1
      have hm_w1 := hmW.keep hb1 hmW.size
      clear hb1
      go_wp2_with fail
      with_reducible refine (HCk1.out _ HX_w1.out).mono ?_
      rintro e w2 ⟨rfl, hb2⟩
      have hX_w2 := HX_w1.out.trans (hb2.mono HX_w1.out.size)
      have HX_w2 := Lib.hid hX_w2
      obtain ⟨kX0_w2, kX1_w2, kX2_w2, kX3_w2⟩ := box2_cells hX_w2
      simp only [show (World.heap ((w.alloc (.cells #[.string ⟨#[97]⟩, .string s0] 9)).alloc (.cells #[.string ⟨#[97]⟩, .string s1] 9))).size = w.heap.size + 1 + 1 by simp] at kX0_w2 kX1_w2 kX2_w2 kX3_w2
      clear hX_w2
      have z_w2 := HX_w2.out.size
      simp only [World.alloc, Array.size_push] at z_w2
      have hm_w2 := hm_w1.keep hb2 hm_w1.size
      clear hb2 kX0_w1 kX1_w1 kX2_w1 kX3_w1
      go_wp2_with fail
      with_reducible refine (HAw.out _ hm_w2).mono ?_
      rintro e w3 ⟨rfl, hb3⟩
      have hX_w3 := HX_w2.out.trans (hb3.mono HX_w2.out.size)
      have HX_w3 := Lib.hid hX_w3
      obtain ⟨kX0_w3, kX1_w3, kX2_w3, kX3_w3⟩ := box2_cells hX_w3
      simp only [show (World.heap ((w.alloc (.cells #[.string ⟨#[97]⟩, .string s0] 9)).alloc (.cells #[.string ⟨#[97]⟩, .string s1] 9))).size = w.heap.size + 1 + 1 by simp] at kX0_w3 kX1_w3 kX2_w3 kX3_w3
      clear hX_w3
      have z_w3 := HX_w3.out.size
      simp only [World.alloc, Array.size_push] at z_w3
      have hm_w3 := hm_w2.keep hb3 hm_w2.size
      clear hb3 kX0_w2 kX1_w2 kX2_w2 kX3_w2
      go_wp2
      go_ret
      exact ⟨rfl, HAL.out.trans (HX_w3.out.mono HAL.out.size)⟩
  · have u1 : ((k0 : Int) == 0) = false := by rw [beq_eq_false_iff_ne]; omega
    have u2 : ((k0 : Int) != 0) = true := by rw [bne, u1]; rfl
    subst hW0
    subst hU
    clear hal huw hr0 hr1 q0 q1 q2 q3 hus h0 h1
    go_enter Tryd.func17, Tryd.ntmps17
    go_wp2_with fail
    with_reducible refine (HCk0.out _ HX.out).mono ?_
    rintro e w1 ⟨rfl, hb1⟩
    have hX_w1 := HX.out.trans (hb1.mono HX.out.size)
    have HX_w1 := Lib.hid hX_w1
    obtain ⟨kX0_w1, kX1_w1, kX2_w1, kX3_w1⟩ := box2_cells hX_w1
    simp only [show (World.heap ((w.alloc (.cells #[.string ⟨#[97]⟩, .string s0] 9)).alloc (.cells #[.string ⟨#[97]⟩, .string s1] 9))).size = w.heap.size + 1 + 1 by simp] at kX0_w1 kX1_w1 kX2_w1 kX3_w1
    clear hX_w1
    have z_w1 := HX_w1.out.size
    simp only [World.alloc, Array.size_push] at z_w1
    have hm_w1 := hmW.keep hb1 hmW.size
    clear hb1
    go_wp2_with fail
    with_reducible refine (HAw.out _ hm_w1).mono ?_
    rintro e w2 ⟨rfl, hb2⟩
    have hX_w2 := HX_w1.out.trans (hb2.mono HX_w1.out.size)
    have HX_w2 := Lib.hid hX_w2
    obtain ⟨kX0_w2, kX1_w2, kX2_w2, kX3_w2⟩ := box2_cells hX_w2
    simp only [show (World.heap ((w.alloc (.cells #[.string ⟨#[97]⟩, .string s0] 9)).alloc (.cells #[.string ⟨#[97]⟩, .string s1] 9))).size = w.heap.size + 1 + 1 by simp] at kX0_w2 kX1_w2 kX2_w2 kX3_w2
    clear hX_w2
    have z_w2 := HX_w2.out.size
    simp only [World.alloc, Array.size_push] at z_w2
    have hm_w2 := hm_w1.keep hb2 hm_w1.size
    clear hb2 kX0_w1 kX1_w1 kX2_w1 kX3_w1
    go_wp2
    go_ret
    exact ⟨rfl, HAL.out.trans (HX_w2.out.mono HAL.out.size)⟩

end Go.Proofs.YtffjmhdnfkpdpaaDoor.patternLaminar
