/- PatternMeans returns true at every string and every two patterns (the card: the variables that it lists hold what the program text lays). Conditions: none of its own. -/
import Derived.Test.YtffjmhdnfkpdpaaDoorCards
import Derived.Test.YtffjmhdnfkpdpaaDoorTie
import Derived.WalkKit
import Derived.ProofKit
import Derived.OpenShut
import Derived.ShutString
import Derived.Test.YtffjmhdnfkpdpaaDoorPatHeld
import Derived.Test.YtffjmhdnfkpdpaaDoorPatOpen
import Derived.Test.YtffjmhdnfkpdpaaDoorPatGo8
namespace Go.Proofs.YtffjmhdnfkpdpaaDoor.patternMeans
open Go.ChangeShapes Go.WideShapes Go.ChangeAt Go.RowKit
open Go.ChangeMaps (open_string shut_string)
set_option linter.unusedVariables false

set_option maxHeartbeats 8000000 in
theorem walk (w : World) (A0 : Option Addr) (xs0 : List ByteArray) (c0 : Nat) (b0 : Bool) (hp0 : PatR w A0 xs0 c0 b0 ⟨bs xs0, b0⟩) (hz0 : ∀ x ∈ xs0, x.size ≤ 140737488355000) (A1 : Option Addr) (xs1 : List ByteArray) (c1 : Nat) (b1 : Bool) (hp1 : PatR w A1 xs1 c1 b1 ⟨bs xs1, b1⟩) (hz1 : ∀ x ∈ xs1, x.size ≤ 140737488355000) (s2 : ByteArray) (w2 : s2.size ≤ maxLen) (hm : MaxL w) :
    Calls Tryd.prog 14 #[patV A0 xs0.length c0 b0, patV A1 xs1.length c1 b1, .string s2] w fun e w' => e = .returned (.bool true) ∧ Below w.heap.size w w' := by
  obtain ⟨W0, hW0⟩ : ∃ W0, W0 = ((w.alloc (.cells #[.slice A0 xs0.length c0, .bool b0] 25)).alloc (.cells #[.slice A1 xs1.length c1, .bool b1] 25)) := ⟨_, rfl⟩
  have hal : Below w.heap.size w W0 := by rw [hW0]; exact ((Below.refl _ _).alloc (Nat.le_refl _) _).alloc (by simp) _
  have hmW := hm.keep hal hm.size
  have HK0 := Lib.hid (fun (w' : World) (hb : Below W0.heap.size W0 w') => hp0.keep (hal.trans (hb.mono hal.size)))
  have HK1 := Lib.hid (fun (w' : World) (hb : Below W0.heap.size W0 w') => hp1.keep (hal.trans (hb.mono hal.size)))
  have HAL := Lib.hid hal
  have HX := Lib.hid (Below.refl W0.heap.size W0)
  have HAw := Lib.hid (fun (w : World) (hm : MaxL w) => awake3_any w hm)
  have HSm0 := Lib.hid (fun (w' : World) (hb : Below W0.heap.size W0 w') => small_any A0 xs0 c0 b0 _ w' (HK0.out w' hb) (fun x hx => Nat.le_trans (hz0 x hx) (by decide)))
  cases hsm0 : smallB (bs xs0) with
  | false =>
    rw [hsm0] at HSm0
    subst hW0
    clear hal
    go_enter Tryd.func14, Tryd.ntmps14
    go_wp2_with fail
    with_reducible refine (HSm0.out _ HX.out).mono ?_
    rintro e w1 ⟨rfl, hb1⟩
    have hX_w1 := HX.out.trans (hb1.mono HX.out.size)
    have HX_w1 := Lib.hid hX_w1
    obtain ⟨kX0_w1, kX1_w1, kX2_w1, kX3_w1⟩ := box2_cells hX_w1
    clear hX_w1
    have z_w1 := HX_w1.out.size
    simp only [World.alloc, Array.size_push] at z_w1
    have hm_w1 := hmW.keep hb1 hmW.size
    clear hb1
    go_wp2_with fail
    with_reducible refine (HAw.out _ hm_w1).mono ?_
    rintro e w2 ⟨rfl, hb2⟩
    have hX_w2 := HX_w1.out.trans (hb2.mono HX_w1.out.size)
    have HX_w2 := Lib.hid hX_w2
    obtain ⟨kX0_w2, kX1_w2, kX2_w2, kX3_w2⟩ := box2_cells hX_w2
    clear hX_w2
    have z_w2 := HX_w2.out.size
    simp only [World.alloc, Array.size_push] at z_w2
    have hm_w2 := hm_w1.keep hb2 hm_w1.size
    clear hb2 kX0_w1 kX1_w1 kX2_w1 kX3_w1
    go_wp2
    go_ret
    exact ⟨rfl, HAL.out.trans (HX_w2.out.mono HAL.out.size)⟩
  | true =>
    rw [hsm0] at HSm0
    obtain ⟨hn0, he0, hj0, hy0⟩ := small_facts hsm0
    have HE0 := Lib.hid (And.intro he0 hy0)
    clear he0 hy0 hsm0
    have HSm1 := Lib.hid (fun (w' : World) (hb : Below W0.heap.size W0 w') => small_any A1 xs1 c1 b1 _ w' (HK1.out w' hb) (fun x hx => Nat.le_trans (hz1 x hx) (by decide)))
    cases hsm1 : smallB (bs xs1) with
    | false =>
      rw [hsm1] at HSm1
      subst hW0
      clear hal
      go_enter Tryd.func14, Tryd.ntmps14
      go_wp2_with fail
      with_reducible refine (HSm0.out _ HX.out).mono ?_
      rintro e w1 ⟨rfl, hb1⟩
      have hX_w1 := HX.out.trans (hb1.mono HX.out.size)
      have HX_w1 := Lib.hid hX_w1
      obtain ⟨kX0_w1, kX1_w1, kX2_w1, kX3_w1⟩ := box2_cells hX_w1
      clear hX_w1
      have z_w1 := HX_w1.out.size
      simp only [World.alloc, Array.size_push] at z_w1
      have hm_w1 := hmW.keep hb1 hmW.size
      clear hb1
      go_wp2_with fail
      with_reducible refine (HSm1.out _ HX_w1.out).mono ?_
      rintro e w2 ⟨rfl, hb2⟩
      have hX_w2 := HX_w1.out.trans (hb2.mono HX_w1.out.size)
      have HX_w2 := Lib.hid hX_w2
      obtain ⟨kX0_w2, kX1_w2, kX2_w2, kX3_w2⟩ := box2_cells hX_w2
      clear hX_w2
      have z_w2 := HX_w2.out.size
      simp only [World.alloc, Array.size_push] at z_w2
      have hm_w2 := hm_w1.keep hb2 hm_w1.size
      clear hb2 kX0_w1 kX1_w1 kX2_w1 kX3_w1
      go_wp2_with fail
      with_reducible refine (HAw.out _ hm_w2).mono ?_
      rintro e w3 ⟨rfl, hb3⟩
      have hX_w3 := HX_w2.out.trans (hb3.mono HX_w2.out.size)
      have HX_w3 := Lib.hid hX_w3
      obtain ⟨kX0_w3, kX1_w3, kX2_w3, kX3_w3⟩ := box2_cells hX_w3
      clear hX_w3
      have z_w3 := HX_w3.out.size
      simp only [World.alloc, Array.size_push] at z_w3
      have hm_w3 := hm_w2.keep hb3 hm_w2.size
      clear hb3 kX0_w2 kX1_w2 kX2_w2 kX3_w2
      go_wp2
      go_ret
      exact ⟨rfl, HAL.out.trans (HX_w3.out.mono HAL.out.size)⟩
    | true =>
      rw [hsm1] at HSm1
      obtain ⟨hn1, he1, hj1, hy1⟩ := small_facts hsm1
      have HE1 := Lib.hid (And.intro he1 hy1)
      clear he1 hy1 hsm1
      by_cases h4 : 400 < s2.size
      · have g0 : (400 : Int) < (s2.size : Int) := by omega
        subst hW0
        clear hal
        go_enter Tryd.func14, Tryd.ntmps14
        go_wp2_with fail
        with_reducible refine (HSm0.out _ HX.out).mono ?_
        rintro e w1 ⟨rfl, hb1⟩
        have hX_w1 := HX.out.trans (hb1.mono HX.out.size)
        have HX_w1 := Lib.hid hX_w1
        obtain ⟨kX0_w1, kX1_w1, kX2_w1, kX3_w1⟩ := box2_cells hX_w1
        clear hX_w1
        have z_w1 := HX_w1.out.size
        simp only [World.alloc, Array.size_push] at z_w1
        have hm_w1 := hmW.keep hb1 hmW.size
        clear hb1
        go_wp2_with fail
        with_reducible refine (HSm1.out _ HX_w1.out).mono ?_
        rintro e w2 ⟨rfl, hb2⟩
        have hX_w2 := HX_w1.out.trans (hb2.mono HX_w1.out.size)
        have HX_w2 := Lib.hid hX_w2
        obtain ⟨kX0_w2, kX1_w2, kX2_w2, kX3_w2⟩ := box2_cells hX_w2
        clear hX_w2
        have z_w2 := HX_w2.out.size
        simp only [World.alloc, Array.size_push] at z_w2
        have hm_w2 := hm_w1.keep hb2 hm_w1.size
        clear hb2 kX0_w1 kX1_w1 kX2_w1 kX3_w1
        go_wp2_with fail
        with_reducible refine (HAw.out _ hm_w2).mono ?_
        rintro e w3 ⟨rfl, hb3⟩
        have hX_w3 := HX_w2.out.trans (hb3.mono HX_w2.out.size)
        have HX_w3 := Lib.hid hX_w3
        obtain ⟨kX0_w3, kX1_w3, kX2_w3, kX3_w3⟩ := box2_cells hX_w3
        clear hX_w3
        have z_w3 := HX_w3.out.size
        simp only [World.alloc, Array.size_push] at z_w3
        have hm_w3 := hm_w2.keep hb3 hm_w2.size
        clear hb3 kX0_w2 kX1_w2 kX2_w2 kX3_w2
        go_wp2
        go_ret
        exact ⟨rfl, HAL.out.trans (HX_w3.out.mono HAL.out.size)⟩
      have g0 : ¬ (400 : Int) < (s2.size : Int) := by omega
      have hs : s2.size < 4294967281 := by omega
      have HM0 := Lib.hid (fun (w' : World) (hb : Below W0.heap.size W0 w') (hm : MaxL w') => match_any A0 xs0 c0 b0 _ s2 w' (HK0.out w' hb) hs hm)
      have HM1 := Lib.hid (fun (w' : World) (hb : Below W0.heap.size W0 w') (hm : MaxL w') => match_any A1 xs1 c1 b1 _ s2 w' (HK1.out w' hb) hs hm)
      have HMt := Lib.hid (fun (w' : World) (hb : Below W0.heap.size W0 w') => meet_any A0 A1 xs0 xs1 c0 c1 b0 b1 _ _ w' (HK0.out w' hb) (HK1.out w' hb))
      have HWi := Lib.hid (fun (w' : World) (hb : Below W0.heap.size W0 w') => within_any A0 A1 xs0 xs1 c0 c1 b0 b1 _ _ w' (HK0.out w' hb) (HK1.out w' hb))
      have HMM := Lib.hid (Pt.meet_match ⟨bs xs0, b0⟩ ⟨bs xs1, b1⟩ s2.data.toList)
      have HWM := Lib.hid (fun (h : Pt.within ⟨bs xs0, b0⟩ ⟨bs xs1, b1⟩ = true) => Pt.within_match (path := s2.data.toList) h)
      have HM3 := Lib.hid (fun (A : Option Addr) (xs : List ByteArray) (c : Nat) (b : Bool) (m : Pt.Pat) (w' : World) (hp : PatR w' A xs c b m) (hm : MaxL w') => match_any A xs c b m s2 w' hp hs hm)
      generalize Pt.within ⟨bs xs0, b0⟩ ⟨bs xs1, b1⟩ = v at *
      generalize Pt.matchP ⟨bs xs0, b0⟩ s2.data.toList = oa at *
      generalize Pt.matchP ⟨bs xs1, b1⟩ s2.data.toList = ob at *
      generalize Pt.meet ⟨bs xs0, b0⟩ ⟨bs xs1, b1⟩ = om at *
      clear hs h4
      cases oa with
      | none =>
        cases ob with
        | none =>
          cases v
          all_goals
            cases om with
            | none =>
              subst hW0
              clear hal
              go_enter Tryd.func14, Tryd.ntmps14
              go_wp2_with fail
              with_reducible refine (HSm0.out _ HX.out).mono ?_
              rintro e w1 ⟨rfl, hb1⟩
              have hX_w1 := HX.out.trans (hb1.mono HX.out.size)
              have HX_w1 := Lib.hid hX_w1
              obtain ⟨kX0_w1, kX1_w1, kX2_w1, kX3_w1⟩ := box2_cells hX_w1
              clear hX_w1
              have z_w1 := HX_w1.out.size
              simp only [World.alloc, Array.size_push] at z_w1
              have hm_w1 := hmW.keep hb1 hmW.size
              clear hb1
              go_wp2_with fail
              with_reducible refine (HSm1.out _ HX_w1.out).mono ?_
              rintro e w2 ⟨rfl, hb2⟩
              have hX_w2 := HX_w1.out.trans (hb2.mono HX_w1.out.size)
              have HX_w2 := Lib.hid hX_w2
              obtain ⟨kX0_w2, kX1_w2, kX2_w2, kX3_w2⟩ := box2_cells hX_w2
              clear hX_w2
              have z_w2 := HX_w2.out.size
              simp only [World.alloc, Array.size_push] at z_w2
              have hm_w2 := hm_w1.keep hb2 hm_w1.size
              clear hb2 kX0_w1 kX1_w1 kX2_w1 kX3_w1
              go_wp2_with fail
              with_reducible refine (HM0.out _ HX_w2.out hm_w2).mono ?_
              rintro e w3 ⟨rfl, hb3⟩
              have hX_w3 := HX_w2.out.trans (hb3.mono HX_w2.out.size)
              have HX_w3 := Lib.hid hX_w3
              obtain ⟨kX0_w3, kX1_w3, kX2_w3, kX3_w3⟩ := box2_cells hX_w3
              clear hX_w3
              have z_w3 := HX_w3.out.size
              simp only [World.alloc, Array.size_push] at z_w3
              have hm_w3 := hm_w2.keep hb3 hm_w2.size
              clear hb3 kX0_w2 kX1_w2 kX2_w2 kX3_w2
              go_wp2_with fail
              with_reducible refine (HM1.out _ HX_w3.out hm_w3).mono ?_
              rintro e w4 ⟨rfl, hb4⟩
              have hX_w4 := HX_w3.out.trans (hb4.mono HX_w3.out.size)
              have HX_w4 := Lib.hid hX_w4
              obtain ⟨kX0_w4, kX1_w4, kX2_w4, kX3_w4⟩ := box2_cells hX_w4
              clear hX_w4
              have z_w4 := HX_w4.out.size
              simp only [World.alloc, Array.size_push] at z_w4
              have hm_w4 := hm_w3.keep hb4 hm_w3.size
              clear hb4 kX0_w3 kX1_w3 kX2_w3 kX3_w3
              go_wp2_with fail
              with_reducible refine (HMt.out _ HX_w4.out).mono ?_
              rintro e w5 ⟨Am, xsm, cm, bm, rfl, hpm, hb5⟩
              have hX_w5 := HX_w4.out.trans (hb5.mono HX_w4.out.size)
              have HX_w5 := Lib.hid hX_w5
              obtain ⟨kX0_w5, kX1_w5, kX2_w5, kX3_w5⟩ := box2_cells hX_w5
              clear hX_w5
              have z_w5 := HX_w5.out.size
              simp only [World.alloc, Array.size_push] at z_w5
              have hm_w5 := hm_w4.keep hb5 hm_w4.size
              clear hb5 kX0_w4 kX1_w4 kX2_w4 kX3_w4
              have ha5 : Below w5.heap.size w5 (w5.alloc (.cells #[.slice Am xsm.length cm, .bool bm] 25)) := (Below.refl _ _).alloc (Nat.le_refl _) _
              have HX_b5 := Lib.hid (HX_w5.out.trans (ha5.mono HX_w5.out.size))
              obtain ⟨kX0_b5, kX1_b5, kX2_b5, kX3_b5⟩ := box2_cells HX_b5.out
              have hm_b5 := hm_w5.keep ha5 hm_w5.size
              clear ha5
              have HM := Lib.hid (Below.refl (World.heap (w5.alloc (.cells #[.slice Am xsm.length cm, .bool bm] 25))).size (w5.alloc (.cells #[.slice Am xsm.length cm, .bool bm] 25)))
              go_wp2_with fail
              with_reducible refine (HWi.out _ HX_b5.out).mono ?_
              rintro e w6 ⟨rfl, hb6⟩
              have hX_w6 := HX_b5.out.trans (hb6.mono HX_b5.out.size)
              have HX_w6 := Lib.hid hX_w6
              obtain ⟨kX0_w6, kX1_w6, kX2_w6, kX3_w6⟩ := box2_cells hX_w6
              clear hX_w6
              have hM_w6 := HM.out.trans (hb6.mono HM.out.size)
              have HM_w6 := Lib.hid hM_w6
              obtain ⟨kM0_w6, kM1_w6⟩ := box_cells hM_w6
              clear hM_w6
              have z_w6 := HX_w6.out.size
              simp only [World.alloc, Array.size_push] at z_w6
              have hm_w6 := hm_b5.keep hb6 hm_b5.size
              clear hb6 kX0_w5 kX1_w5 kX2_w5 kX3_w5 kX0_b5 kX1_b5 kX2_b5 kX3_b5
              go_wp2_with fail
              with_reducible refine (HAw.out _ hm_w6).mono ?_
              rintro e w7 ⟨rfl, hb7⟩
              have hX_w7 := HX_w6.out.trans (hb7.mono HX_w6.out.size)
              have HX_w7 := Lib.hid hX_w7
              obtain ⟨kX0_w7, kX1_w7, kX2_w7, kX3_w7⟩ := box2_cells hX_w7
              clear hX_w7
              have hM_w7 := HM_w6.out.trans (hb7.mono HM_w6.out.size)
              have HM_w7 := Lib.hid hM_w7
              obtain ⟨kM0_w7, kM1_w7⟩ := box_cells hM_w7
              clear hM_w7
              have z_w7 := HX_w7.out.size
              simp only [World.alloc, Array.size_push] at z_w7
              have hm_w7 := hm_w6.keep hb7 hm_w6.size
              clear hb7 kX0_w6 kX1_w6 kX2_w6 kX3_w6 kM0_w6 kM1_w6
              go_wp2
              go_ret
              exact ⟨rfl, HAL.out.trans (HX_w7.out.mono HAL.out.size)⟩
            | some m =>
              have hmn : Pt.matchP m s2.data.toList = none := Option.isNone_iff_eq_none.1 (by have h : (Pt.matchP m s2.data.toList).isSome = false := HMM.out.symm; simpa using h)
              subst hW0
              clear hal
              go_enter Tryd.func14, Tryd.ntmps14
              go_wp2_with fail
              with_reducible refine (HSm0.out _ HX.out).mono ?_
              rintro e w1 ⟨rfl, hb1⟩
              have hX_w1 := HX.out.trans (hb1.mono HX.out.size)
              have HX_w1 := Lib.hid hX_w1
              obtain ⟨kX0_w1, kX1_w1, kX2_w1, kX3_w1⟩ := box2_cells hX_w1
              clear hX_w1
              have z_w1 := HX_w1.out.size
              simp only [World.alloc, Array.size_push] at z_w1
              have hm_w1 := hmW.keep hb1 hmW.size
              clear hb1
              go_wp2_with fail
              with_reducible refine (HSm1.out _ HX_w1.out).mono ?_
              rintro e w2 ⟨rfl, hb2⟩
              have hX_w2 := HX_w1.out.trans (hb2.mono HX_w1.out.size)
              have HX_w2 := Lib.hid hX_w2
              obtain ⟨kX0_w2, kX1_w2, kX2_w2, kX3_w2⟩ := box2_cells hX_w2
              clear hX_w2
              have z_w2 := HX_w2.out.size
              simp only [World.alloc, Array.size_push] at z_w2
              have hm_w2 := hm_w1.keep hb2 hm_w1.size
              clear hb2 kX0_w1 kX1_w1 kX2_w1 kX3_w1
              go_wp2_with fail
              with_reducible refine (HM0.out _ HX_w2.out hm_w2).mono ?_
              rintro e w3 ⟨rfl, hb3⟩
              have hX_w3 := HX_w2.out.trans (hb3.mono HX_w2.out.size)
              have HX_w3 := Lib.hid hX_w3
              obtain ⟨kX0_w3, kX1_w3, kX2_w3, kX3_w3⟩ := box2_cells hX_w3
              clear hX_w3
              have z_w3 := HX_w3.out.size
              simp only [World.alloc, Array.size_push] at z_w3
              have hm_w3 := hm_w2.keep hb3 hm_w2.size
              clear hb3 kX0_w2 kX1_w2 kX2_w2 kX3_w2
              go_wp2_with fail
              with_reducible refine (HM1.out _ HX_w3.out hm_w3).mono ?_
              rintro e w4 ⟨rfl, hb4⟩
              have hX_w4 := HX_w3.out.trans (hb4.mono HX_w3.out.size)
              have HX_w4 := Lib.hid hX_w4
              obtain ⟨kX0_w4, kX1_w4, kX2_w4, kX3_w4⟩ := box2_cells hX_w4
              clear hX_w4
              have z_w4 := HX_w4.out.size
              simp only [World.alloc, Array.size_push] at z_w4
              have hm_w4 := hm_w3.keep hb4 hm_w3.size
              clear hb4 kX0_w3 kX1_w3 kX2_w3 kX3_w3
              go_wp2_with fail
              with_reducible refine (HMt.out _ HX_w4.out).mono ?_
              rintro e w5 ⟨Am, xsm, cm, bm, rfl, hpm, hb5⟩
              have hX_w5 := HX_w4.out.trans (hb5.mono HX_w4.out.size)
              have HX_w5 := Lib.hid hX_w5
              obtain ⟨kX0_w5, kX1_w5, kX2_w5, kX3_w5⟩ := box2_cells hX_w5
              clear hX_w5
              have z_w5 := HX_w5.out.size
              simp only [World.alloc, Array.size_push] at z_w5
              have hm_w5 := hm_w4.keep hb5 hm_w4.size
              clear hb5 kX0_w4 kX1_w4 kX2_w4 kX3_w4
              have ha5 : Below w5.heap.size w5 (w5.alloc (.cells #[.slice Am xsm.length cm, .bool bm] 25)) := (Below.refl _ _).alloc (Nat.le_refl _) _
              have HX_b5 := Lib.hid (HX_w5.out.trans (ha5.mono HX_w5.out.size))
              obtain ⟨kX0_b5, kX1_b5, kX2_b5, kX3_b5⟩ := box2_cells HX_b5.out
              have hm_b5 := hm_w5.keep ha5 hm_w5.size
              have HBM := Lib.hid (hpm.keep ha5)
              clear hpm
              clear ha5
              have HM := Lib.hid (Below.refl (World.heap (w5.alloc (.cells #[.slice Am xsm.length cm, .bool bm] 25))).size (w5.alloc (.cells #[.slice Am xsm.length cm, .bool bm] 25)))
              have HM4 := Lib.hid (HM3.out _ _ _ _ _ _ (HBM.out.keep HM.out) hm_b5)
              simp only [Option.getD_some] at HM4
              rw [hmn] at HM4
              go_wp2_with fail
              with_reducible refine (HM4.out).mono ?_
              rintro e w6 ⟨rfl, hb6⟩
              have hX_w6 := HX_b5.out.trans (hb6.mono HX_b5.out.size)
              have HX_w6 := Lib.hid hX_w6
              obtain ⟨kX0_w6, kX1_w6, kX2_w6, kX3_w6⟩ := box2_cells hX_w6
              clear hX_w6
              have hM_w6 := HM.out.trans (hb6.mono HM.out.size)
              have HM_w6 := Lib.hid hM_w6
              obtain ⟨kM0_w6, kM1_w6⟩ := box_cells hM_w6
              clear hM_w6
              have z_w6 := HX_w6.out.size
              simp only [World.alloc, Array.size_push] at z_w6
              have hm_w6 := hm_b5.keep hb6 hm_b5.size
              clear hb6 kX0_w5 kX1_w5 kX2_w5 kX3_w5 kX0_b5 kX1_b5 kX2_b5 kX3_b5
              go_wp2_with fail
              with_reducible refine (HWi.out _ HX_w6.out).mono ?_
              rintro e w7 ⟨rfl, hb7⟩
              have hX_w7 := HX_w6.out.trans (hb7.mono HX_w6.out.size)
              have HX_w7 := Lib.hid hX_w7
              obtain ⟨kX0_w7, kX1_w7, kX2_w7, kX3_w7⟩ := box2_cells hX_w7
              clear hX_w7
              have hM_w7 := HM_w6.out.trans (hb7.mono HM_w6.out.size)
              have HM_w7 := Lib.hid hM_w7
              obtain ⟨kM0_w7, kM1_w7⟩ := box_cells hM_w7
              clear hM_w7
              have z_w7 := HX_w7.out.size
              simp only [World.alloc, Array.size_push] at z_w7
              have hm_w7 := hm_w6.keep hb7 hm_w6.size
              clear hb7 kX0_w6 kX1_w6 kX2_w6 kX3_w6 kM0_w6 kM1_w6
              go_wp2_with fail
              with_reducible refine (HAw.out _ hm_w7).mono ?_
              rintro e w8 ⟨rfl, hb8⟩
              have hX_w8 := HX_w7.out.trans (hb8.mono HX_w7.out.size)
              have HX_w8 := Lib.hid hX_w8
              obtain ⟨kX0_w8, kX1_w8, kX2_w8, kX3_w8⟩ := box2_cells hX_w8
              clear hX_w8
              have hM_w8 := HM_w7.out.trans (hb8.mono HM_w7.out.size)
              have HM_w8 := Lib.hid hM_w8
              obtain ⟨kM0_w8, kM1_w8⟩ := box_cells hM_w8
              clear hM_w8
              have z_w8 := HX_w8.out.size
              simp only [World.alloc, Array.size_push] at z_w8
              have hm_w8 := hm_w7.keep hb8 hm_w7.size
              clear hb8 kX0_w7 kX1_w7 kX2_w7 kX3_w7 kM0_w7 kM1_w7
              go_wp2
              go_ret
              exact ⟨rfl, HAL.out.trans (HX_w8.out.mono HAL.out.size)⟩
        | some lb =>
          cases v
          all_goals
            cases om with
            | none =>
              subst hW0
              clear hal
              go_enter Tryd.func14, Tryd.ntmps14
              go_wp2_with fail
              with_reducible refine (HSm0.out _ HX.out).mono ?_
              rintro e w1 ⟨rfl, hb1⟩
              have hX_w1 := HX.out.trans (hb1.mono HX.out.size)
              have HX_w1 := Lib.hid hX_w1
              obtain ⟨kX0_w1, kX1_w1, kX2_w1, kX3_w1⟩ := box2_cells hX_w1
              clear hX_w1
              have z_w1 := HX_w1.out.size
              simp only [World.alloc, Array.size_push] at z_w1
              have hm_w1 := hmW.keep hb1 hmW.size
              clear hb1
              go_wp2_with fail
              with_reducible refine (HSm1.out _ HX_w1.out).mono ?_
              rintro e w2 ⟨rfl, hb2⟩
              have hX_w2 := HX_w1.out.trans (hb2.mono HX_w1.out.size)
              have HX_w2 := Lib.hid hX_w2
              obtain ⟨kX0_w2, kX1_w2, kX2_w2, kX3_w2⟩ := box2_cells hX_w2
              clear hX_w2
              have z_w2 := HX_w2.out.size
              simp only [World.alloc, Array.size_push] at z_w2
              have hm_w2 := hm_w1.keep hb2 hm_w1.size
              clear hb2 kX0_w1 kX1_w1 kX2_w1 kX3_w1
              go_wp2_with fail
              with_reducible refine (HM0.out _ HX_w2.out hm_w2).mono ?_
              rintro e w3 ⟨rfl, hb3⟩
              have hX_w3 := HX_w2.out.trans (hb3.mono HX_w2.out.size)
              have HX_w3 := Lib.hid hX_w3
              obtain ⟨kX0_w3, kX1_w3, kX2_w3, kX3_w3⟩ := box2_cells hX_w3
              clear hX_w3
              have z_w3 := HX_w3.out.size
              simp only [World.alloc, Array.size_push] at z_w3
              have hm_w3 := hm_w2.keep hb3 hm_w2.size
              clear hb3 kX0_w2 kX1_w2 kX2_w2 kX3_w2
              go_wp2_with fail
              with_reducible refine (HM1.out _ HX_w3.out hm_w3).mono ?_
              rintro e w4 ⟨_, rfl, Ab, xsb, cb, rfl, _, _, _, _, hb4⟩
              have hX_w4 := HX_w3.out.trans (hb4.mono HX_w3.out.size)
              have HX_w4 := Lib.hid hX_w4
              obtain ⟨kX0_w4, kX1_w4, kX2_w4, kX3_w4⟩ := box2_cells hX_w4
              clear hX_w4
              have z_w4 := HX_w4.out.size
              simp only [World.alloc, Array.size_push] at z_w4
              have hm_w4 := hm_w3.keep hb4 hm_w3.size
              clear hb4 kX0_w3 kX1_w3 kX2_w3 kX3_w3
              generalize xsb.length = nb
              go_wp2_with fail
              with_reducible refine (HMt.out _ HX_w4.out).mono ?_
              rintro e w5 ⟨Am, xsm, cm, bm, rfl, hpm, hb5⟩
              have hX_w5 := HX_w4.out.trans (hb5.mono HX_w4.out.size)
              have HX_w5 := Lib.hid hX_w5
              obtain ⟨kX0_w5, kX1_w5, kX2_w5, kX3_w5⟩ := box2_cells hX_w5
              clear hX_w5
              have z_w5 := HX_w5.out.size
              simp only [World.alloc, Array.size_push] at z_w5
              have hm_w5 := hm_w4.keep hb5 hm_w4.size
              clear hb5 kX0_w4 kX1_w4 kX2_w4 kX3_w4
              have ha5 : Below w5.heap.size w5 (w5.alloc (.cells #[.slice Am xsm.length cm, .bool bm] 25)) := (Below.refl _ _).alloc (Nat.le_refl _) _
              have HX_b5 := Lib.hid (HX_w5.out.trans (ha5.mono HX_w5.out.size))
              obtain ⟨kX0_b5, kX1_b5, kX2_b5, kX3_b5⟩ := box2_cells HX_b5.out
              have hm_b5 := hm_w5.keep ha5 hm_w5.size
              clear ha5
              have HM := Lib.hid (Below.refl (World.heap (w5.alloc (.cells #[.slice Am xsm.length cm, .bool bm] 25))).size (w5.alloc (.cells #[.slice Am xsm.length cm, .bool bm] 25)))
              go_wp2_with fail
              with_reducible refine (HWi.out _ HX_b5.out).mono ?_
              rintro e w6 ⟨rfl, hb6⟩
              have hX_w6 := HX_b5.out.trans (hb6.mono HX_b5.out.size)
              have HX_w6 := Lib.hid hX_w6
              obtain ⟨kX0_w6, kX1_w6, kX2_w6, kX3_w6⟩ := box2_cells hX_w6
              clear hX_w6
              have hM_w6 := HM.out.trans (hb6.mono HM.out.size)
              have HM_w6 := Lib.hid hM_w6
              obtain ⟨kM0_w6, kM1_w6⟩ := box_cells hM_w6
              clear hM_w6
              have z_w6 := HX_w6.out.size
              simp only [World.alloc, Array.size_push] at z_w6
              have hm_w6 := hm_b5.keep hb6 hm_b5.size
              clear hb6 kX0_w5 kX1_w5 kX2_w5 kX3_w5 kX0_b5 kX1_b5 kX2_b5 kX3_b5
              go_wp2_with fail
              with_reducible refine (HAw.out _ hm_w6).mono ?_
              rintro e w7 ⟨rfl, hb7⟩
              have hX_w7 := HX_w6.out.trans (hb7.mono HX_w6.out.size)
              have HX_w7 := Lib.hid hX_w7
              obtain ⟨kX0_w7, kX1_w7, kX2_w7, kX3_w7⟩ := box2_cells hX_w7
              clear hX_w7
              have hM_w7 := HM_w6.out.trans (hb7.mono HM_w6.out.size)
              have HM_w7 := Lib.hid hM_w7
              obtain ⟨kM0_w7, kM1_w7⟩ := box_cells hM_w7
              clear hM_w7
              have z_w7 := HX_w7.out.size
              simp only [World.alloc, Array.size_push] at z_w7
              have hm_w7 := hm_w6.keep hb7 hm_w6.size
              clear hb7 kX0_w6 kX1_w6 kX2_w6 kX3_w6 kM0_w6 kM1_w6
              go_wp2
              go_ret
              exact ⟨rfl, HAL.out.trans (HX_w7.out.mono HAL.out.size)⟩
            | some m =>
              have hmn : Pt.matchP m s2.data.toList = none := Option.isNone_iff_eq_none.1 (by have h : (Pt.matchP m s2.data.toList).isSome = false := HMM.out.symm; simpa using h)
              subst hW0
              clear hal
              go_enter Tryd.func14, Tryd.ntmps14
              go_wp2_with fail
              with_reducible refine (HSm0.out _ HX.out).mono ?_
              rintro e w1 ⟨rfl, hb1⟩
              have hX_w1 := HX.out.trans (hb1.mono HX.out.size)
              have HX_w1 := Lib.hid hX_w1
              obtain ⟨kX0_w1, kX1_w1, kX2_w1, kX3_w1⟩ := box2_cells hX_w1
              clear hX_w1
              have z_w1 := HX_w1.out.size
              simp only [World.alloc, Array.size_push] at z_w1
              have hm_w1 := hmW.keep hb1 hmW.size
              clear hb1
              go_wp2_with fail
              with_reducible refine (HSm1.out _ HX_w1.out).mono ?_
              rintro e w2 ⟨rfl, hb2⟩
              have hX_w2 := HX_w1.out.trans (hb2.mono HX_w1.out.size)
              have HX_w2 := Lib.hid hX_w2
              obtain ⟨kX0_w2, kX1_w2, kX2_w2, kX3_w2⟩ := box2_cells hX_w2
              clear hX_w2
              have z_w2 := HX_w2.out.size
              simp only [World.alloc, Array.size_push] at z_w2
              have hm_w2 := hm_w1.keep hb2 hm_w1.size
              clear hb2 kX0_w1 kX1_w1 kX2_w1 kX3_w1
              go_wp2_with fail
              with_reducible refine (HM0.out _ HX_w2.out hm_w2).mono ?_
              rintro e w3 ⟨rfl, hb3⟩
              have hX_w3 := HX_w2.out.trans (hb3.mono HX_w2.out.size)
              have HX_w3 := Lib.hid hX_w3
              obtain ⟨kX0_w3, kX1_w3, kX2_w3, kX3_w3⟩ := box2_cells hX_w3
              clear hX_w3
              have z_w3 := HX_w3.out.size
              simp only [World.alloc, Array.size_push] at z_w3
              have hm_w3 := hm_w2.keep hb3 hm_w2.size
              clear hb3 kX0_w2 kX1_w2 kX2_w2 kX3_w2
              go_wp2_with fail
              with_reducible refine (HM1.out _ HX_w3.out hm_w3).mono ?_
              rintro e w4 ⟨_, rfl, Ab, xsb, cb, rfl, _, _, _, _, hb4⟩
              have hX_w4 := HX_w3.out.trans (hb4.mono HX_w3.out.size)
              have HX_w4 := Lib.hid hX_w4
              obtain ⟨kX0_w4, kX1_w4, kX2_w4, kX3_w4⟩ := box2_cells hX_w4
              clear hX_w4
              have z_w4 := HX_w4.out.size
              simp only [World.alloc, Array.size_push] at z_w4
              have hm_w4 := hm_w3.keep hb4 hm_w3.size
              clear hb4 kX0_w3 kX1_w3 kX2_w3 kX3_w3
              generalize xsb.length = nb
              go_wp2_with fail
              with_reducible refine (HMt.out _ HX_w4.out).mono ?_
              rintro e w5 ⟨Am, xsm, cm, bm, rfl, hpm, hb5⟩
              have hX_w5 := HX_w4.out.trans (hb5.mono HX_w4.out.size)
              have HX_w5 := Lib.hid hX_w5
              obtain ⟨kX0_w5, kX1_w5, kX2_w5, kX3_w5⟩ := box2_cells hX_w5
              clear hX_w5
              have z_w5 := HX_w5.out.size
              simp only [World.alloc, Array.size_push] at z_w5
              have hm_w5 := hm_w4.keep hb5 hm_w4.size
              clear hb5 kX0_w4 kX1_w4 kX2_w4 kX3_w4
              have ha5 : Below w5.heap.size w5 (w5.alloc (.cells #[.slice Am xsm.length cm, .bool bm] 25)) := (Below.refl _ _).alloc (Nat.le_refl _) _
              have HX_b5 := Lib.hid (HX_w5.out.trans (ha5.mono HX_w5.out.size))
              obtain ⟨kX0_b5, kX1_b5, kX2_b5, kX3_b5⟩ := box2_cells HX_b5.out
              have hm_b5 := hm_w5.keep ha5 hm_w5.size
              have HBM := Lib.hid (hpm.keep ha5)
              clear hpm
              clear ha5
              have HM := Lib.hid (Below.refl (World.heap (w5.alloc (.cells #[.slice Am xsm.length cm, .bool bm] 25))).size (w5.alloc (.cells #[.slice Am xsm.length cm, .bool bm] 25)))
              have HM4 := Lib.hid (HM3.out _ _ _ _ _ _ (HBM.out.keep HM.out) hm_b5)
              simp only [Option.getD_some] at HM4
              rw [hmn] at HM4
              go_wp2_with fail
              with_reducible refine (HM4.out).mono ?_
              rintro e w6 ⟨rfl, hb6⟩
              have hX_w6 := HX_b5.out.trans (hb6.mono HX_b5.out.size)
              have HX_w6 := Lib.hid hX_w6
              obtain ⟨kX0_w6, kX1_w6, kX2_w6, kX3_w6⟩ := box2_cells hX_w6
              clear hX_w6
              have hM_w6 := HM.out.trans (hb6.mono HM.out.size)
              have HM_w6 := Lib.hid hM_w6
              obtain ⟨kM0_w6, kM1_w6⟩ := box_cells hM_w6
              clear hM_w6
              have z_w6 := HX_w6.out.size
              simp only [World.alloc, Array.size_push] at z_w6
              have hm_w6 := hm_b5.keep hb6 hm_b5.size
              clear hb6 kX0_w5 kX1_w5 kX2_w5 kX3_w5 kX0_b5 kX1_b5 kX2_b5 kX3_b5
              go_wp2_with fail
              with_reducible refine (HWi.out _ HX_w6.out).mono ?_
              rintro e w7 ⟨rfl, hb7⟩
              have hX_w7 := HX_w6.out.trans (hb7.mono HX_w6.out.size)
              have HX_w7 := Lib.hid hX_w7
              obtain ⟨kX0_w7, kX1_w7, kX2_w7, kX3_w7⟩ := box2_cells hX_w7
              clear hX_w7
              have hM_w7 := HM_w6.out.trans (hb7.mono HM_w6.out.size)
              have HM_w7 := Lib.hid hM_w7
              obtain ⟨kM0_w7, kM1_w7⟩ := box_cells hM_w7
              clear hM_w7
              have z_w7 := HX_w7.out.size
              simp only [World.alloc, Array.size_push] at z_w7
              have hm_w7 := hm_w6.keep hb7 hm_w6.size
              clear hb7 kX0_w6 kX1_w6 kX2_w6 kX3_w6 kM0_w6 kM1_w6
              go_wp2_with fail
              with_reducible refine (HAw.out _ hm_w7).mono ?_
              rintro e w8 ⟨rfl, hb8⟩
              have hX_w8 := HX_w7.out.trans (hb8.mono HX_w7.out.size)
              have HX_w8 := Lib.hid hX_w8
              obtain ⟨kX0_w8, kX1_w8, kX2_w8, kX3_w8⟩ := box2_cells hX_w8
              clear hX_w8
              have hM_w8 := HM_w7.out.trans (hb8.mono HM_w7.out.size)
              have HM_w8 := Lib.hid hM_w8
              obtain ⟨kM0_w8, kM1_w8⟩ := box_cells hM_w8
              clear hM_w8
              have z_w8 := HX_w8.out.size
              simp only [World.alloc, Array.size_push] at z_w8
              have hm_w8 := hm_w7.keep hb8 hm_w7.size
              clear hb8 kX0_w7 kX1_w7 kX2_w7 kX3_w7 kM0_w7 kM1_w7
              go_wp2
              go_ret
              exact ⟨rfl, HAL.out.trans (HX_w8.out.mono HAL.out.size)⟩
      | some la =>
        cases ob with
        | none =>
          have hv : v = false := by
            cases v with
            | false => rfl
            | true => have := HWM.out rfl rfl; simp at this
          subst hv
          skip
          all_goals
            cases om with
            | none =>
              subst hW0
              clear hal
              go_enter Tryd.func14, Tryd.ntmps14
              go_wp2_with fail
              with_reducible refine (HSm0.out _ HX.out).mono ?_
              rintro e w1 ⟨rfl, hb1⟩
              have hX_w1 := HX.out.trans (hb1.mono HX.out.size)
              have HX_w1 := Lib.hid hX_w1
              obtain ⟨kX0_w1, kX1_w1, kX2_w1, kX3_w1⟩ := box2_cells hX_w1
              clear hX_w1
              have z_w1 := HX_w1.out.size
              simp only [World.alloc, Array.size_push] at z_w1
              have hm_w1 := hmW.keep hb1 hmW.size
              clear hb1
              go_wp2_with fail
              with_reducible refine (HSm1.out _ HX_w1.out).mono ?_
              rintro e w2 ⟨rfl, hb2⟩
              have hX_w2 := HX_w1.out.trans (hb2.mono HX_w1.out.size)
              have HX_w2 := Lib.hid hX_w2
              obtain ⟨kX0_w2, kX1_w2, kX2_w2, kX3_w2⟩ := box2_cells hX_w2
              clear hX_w2
              have z_w2 := HX_w2.out.size
              simp only [World.alloc, Array.size_push] at z_w2
              have hm_w2 := hm_w1.keep hb2 hm_w1.size
              clear hb2 kX0_w1 kX1_w1 kX2_w1 kX3_w1
              go_wp2_with fail
              with_reducible refine (HM0.out _ HX_w2.out hm_w2).mono ?_
              rintro e w3 ⟨_, rfl, Aa, xsa, ca, rfl, _, _, _, _, hb3⟩
              have hX_w3 := HX_w2.out.trans (hb3.mono HX_w2.out.size)
              have HX_w3 := Lib.hid hX_w3
              obtain ⟨kX0_w3, kX1_w3, kX2_w3, kX3_w3⟩ := box2_cells hX_w3
              clear hX_w3
              have z_w3 := HX_w3.out.size
              simp only [World.alloc, Array.size_push] at z_w3
              have hm_w3 := hm_w2.keep hb3 hm_w2.size
              clear hb3 kX0_w2 kX1_w2 kX2_w2 kX3_w2
              generalize xsa.length = na
              go_wp2_with fail
              with_reducible refine (HM1.out _ HX_w3.out hm_w3).mono ?_
              rintro e w4 ⟨rfl, hb4⟩
              have hX_w4 := HX_w3.out.trans (hb4.mono HX_w3.out.size)
              have HX_w4 := Lib.hid hX_w4
              obtain ⟨kX0_w4, kX1_w4, kX2_w4, kX3_w4⟩ := box2_cells hX_w4
              clear hX_w4
              have z_w4 := HX_w4.out.size
              simp only [World.alloc, Array.size_push] at z_w4
              have hm_w4 := hm_w3.keep hb4 hm_w3.size
              clear hb4 kX0_w3 kX1_w3 kX2_w3 kX3_w3
              go_wp2_with fail
              with_reducible refine (HMt.out _ HX_w4.out).mono ?_
              rintro e w5 ⟨Am, xsm, cm, bm, rfl, hpm, hb5⟩
              have hX_w5 := HX_w4.out.trans (hb5.mono HX_w4.out.size)
              have HX_w5 := Lib.hid hX_w5
              obtain ⟨kX0_w5, kX1_w5, kX2_w5, kX3_w5⟩ := box2_cells hX_w5
              clear hX_w5
              have z_w5 := HX_w5.out.size
              simp only [World.alloc, Array.size_push] at z_w5
              have hm_w5 := hm_w4.keep hb5 hm_w4.size
              clear hb5 kX0_w4 kX1_w4 kX2_w4 kX3_w4
              have ha5 : Below w5.heap.size w5 (w5.alloc (.cells #[.slice Am xsm.length cm, .bool bm] 25)) := (Below.refl _ _).alloc (Nat.le_refl _) _
              have HX_b5 := Lib.hid (HX_w5.out.trans (ha5.mono HX_w5.out.size))
              obtain ⟨kX0_b5, kX1_b5, kX2_b5, kX3_b5⟩ := box2_cells HX_b5.out
              have hm_b5 := hm_w5.keep ha5 hm_w5.size
              clear ha5
              have HM := Lib.hid (Below.refl (World.heap (w5.alloc (.cells #[.slice Am xsm.length cm, .bool bm] 25))).size (w5.alloc (.cells #[.slice Am xsm.length cm, .bool bm] 25)))
              go_wp2_with fail
              with_reducible refine (HWi.out _ HX_b5.out).mono ?_
              rintro e w6 ⟨rfl, hb6⟩
              have hX_w6 := HX_b5.out.trans (hb6.mono HX_b5.out.size)
              have HX_w6 := Lib.hid hX_w6
              obtain ⟨kX0_w6, kX1_w6, kX2_w6, kX3_w6⟩ := box2_cells hX_w6
              clear hX_w6
              have hM_w6 := HM.out.trans (hb6.mono HM.out.size)
              have HM_w6 := Lib.hid hM_w6
              obtain ⟨kM0_w6, kM1_w6⟩ := box_cells hM_w6
              clear hM_w6
              have z_w6 := HX_w6.out.size
              simp only [World.alloc, Array.size_push] at z_w6
              have hm_w6 := hm_b5.keep hb6 hm_b5.size
              clear hb6 kX0_w5 kX1_w5 kX2_w5 kX3_w5 kX0_b5 kX1_b5 kX2_b5 kX3_b5
              go_wp2_with fail
              with_reducible refine (HAw.out _ hm_w6).mono ?_
              rintro e w7 ⟨rfl, hb7⟩
              have hX_w7 := HX_w6.out.trans (hb7.mono HX_w6.out.size)
              have HX_w7 := Lib.hid hX_w7
              obtain ⟨kX0_w7, kX1_w7, kX2_w7, kX3_w7⟩ := box2_cells hX_w7
              clear hX_w7
              have hM_w7 := HM_w6.out.trans (hb7.mono HM_w6.out.size)
              have HM_w7 := Lib.hid hM_w7
              obtain ⟨kM0_w7, kM1_w7⟩ := box_cells hM_w7
              clear hM_w7
              have z_w7 := HX_w7.out.size
              simp only [World.alloc, Array.size_push] at z_w7
              have hm_w7 := hm_w6.keep hb7 hm_w6.size
              clear hb7 kX0_w6 kX1_w6 kX2_w6 kX3_w6 kM0_w6 kM1_w6
              go_wp2
              go_ret
              exact ⟨rfl, HAL.out.trans (HX_w7.out.mono HAL.out.size)⟩
            | some m =>
              have hmn : Pt.matchP m s2.data.toList = none := Option.isNone_iff_eq_none.1 (by have h : (Pt.matchP m s2.data.toList).isSome = false := HMM.out.symm; simpa using h)
              subst hW0
              clear hal
              go_enter Tryd.func14, Tryd.ntmps14
              go_wp2_with fail
              with_reducible refine (HSm0.out _ HX.out).mono ?_
              rintro e w1 ⟨rfl, hb1⟩
              have hX_w1 := HX.out.trans (hb1.mono HX.out.size)
              have HX_w1 := Lib.hid hX_w1
              obtain ⟨kX0_w1, kX1_w1, kX2_w1, kX3_w1⟩ := box2_cells hX_w1
              clear hX_w1
              have z_w1 := HX_w1.out.size
              simp only [World.alloc, Array.size_push] at z_w1
              have hm_w1 := hmW.keep hb1 hmW.size
              clear hb1
              go_wp2_with fail
              with_reducible refine (HSm1.out _ HX_w1.out).mono ?_
              rintro e w2 ⟨rfl, hb2⟩
              have hX_w2 := HX_w1.out.trans (hb2.mono HX_w1.out.size)
              have HX_w2 := Lib.hid hX_w2
              obtain ⟨kX0_w2, kX1_w2, kX2_w2, kX3_w2⟩ := box2_cells hX_w2
              clear hX_w2
              have z_w2 := HX_w2.out.size
              simp only [World.alloc, Array.size_push] at z_w2
              have hm_w2 := hm_w1.keep hb2 hm_w1.size
              clear hb2 kX0_w1 kX1_w1 kX2_w1 kX3_w1
              go_wp2_with fail
              with_reducible refine (HM0.out _ HX_w2.out hm_w2).mono ?_
              rintro e w3 ⟨_, rfl, Aa, xsa, ca, rfl, _, _, _, _, hb3⟩
              have hX_w3 := HX_w2.out.trans (hb3.mono HX_w2.out.size)
              have HX_w3 := Lib.hid hX_w3
              obtain ⟨kX0_w3, kX1_w3, kX2_w3, kX3_w3⟩ := box2_cells hX_w3
              clear hX_w3
              have z_w3 := HX_w3.out.size
              simp only [World.alloc, Array.size_push] at z_w3
              have hm_w3 := hm_w2.keep hb3 hm_w2.size
              clear hb3 kX0_w2 kX1_w2 kX2_w2 kX3_w2
              generalize xsa.length = na
              go_wp2_with fail
              with_reducible refine (HM1.out _ HX_w3.out hm_w3).mono ?_
              rintro e w4 ⟨rfl, hb4⟩
              have hX_w4 := HX_w3.out.trans (hb4.mono HX_w3.out.size)
              have HX_w4 := Lib.hid hX_w4
              obtain ⟨kX0_w4, kX1_w4, kX2_w4, kX3_w4⟩ := box2_cells hX_w4
              clear hX_w4
              have z_w4 := HX_w4.out.size
              simp only [World.alloc, Array.size_push] at z_w4
              have hm_w4 := hm_w3.keep hb4 hm_w3.size
              clear hb4 kX0_w3 kX1_w3 kX2_w3 kX3_w3
              go_wp2_with fail
              with_reducible refine (HMt.out _ HX_w4.out).mono ?_
              rintro e w5 ⟨Am, xsm, cm, bm, rfl, hpm, hb5⟩
              have hX_w5 := HX_w4.out.trans (hb5.mono HX_w4.out.size)
              have HX_w5 := Lib.hid hX_w5
              obtain ⟨kX0_w5, kX1_w5, kX2_w5, kX3_w5⟩ := box2_cells hX_w5
              clear hX_w5
              have z_w5 := HX_w5.out.size
              simp only [World.alloc, Array.size_push] at z_w5
              have hm_w5 := hm_w4.keep hb5 hm_w4.size
              clear hb5 kX0_w4 kX1_w4 kX2_w4 kX3_w4
              have ha5 : Below w5.heap.size w5 (w5.alloc (.cells #[.slice Am xsm.length cm, .bool bm] 25)) := (Below.refl _ _).alloc (Nat.le_refl _) _
              have HX_b5 := Lib.hid (HX_w5.out.trans (ha5.mono HX_w5.out.size))
              obtain ⟨kX0_b5, kX1_b5, kX2_b5, kX3_b5⟩ := box2_cells HX_b5.out
              have hm_b5 := hm_w5.keep ha5 hm_w5.size
              have HBM := Lib.hid (hpm.keep ha5)
              clear hpm
              clear ha5
              have HM := Lib.hid (Below.refl (World.heap (w5.alloc (.cells #[.slice Am xsm.length cm, .bool bm] 25))).size (w5.alloc (.cells #[.slice Am xsm.length cm, .bool bm] 25)))
              have HM4 := Lib.hid (HM3.out _ _ _ _ _ _ (HBM.out.keep HM.out) hm_b5)
              simp only [Option.getD_some] at HM4
              rw [hmn] at HM4
              go_wp2_with fail
              with_reducible refine (HM4.out).mono ?_
              rintro e w6 ⟨rfl, hb6⟩
              have hX_w6 := HX_b5.out.trans (hb6.mono HX_b5.out.size)
              have HX_w6 := Lib.hid hX_w6
              obtain ⟨kX0_w6, kX1_w6, kX2_w6, kX3_w6⟩ := box2_cells hX_w6
              clear hX_w6
              have hM_w6 := HM.out.trans (hb6.mono HM.out.size)
              have HM_w6 := Lib.hid hM_w6
              obtain ⟨kM0_w6, kM1_w6⟩ := box_cells hM_w6
              clear hM_w6
              have z_w6 := HX_w6.out.size
              simp only [World.alloc, Array.size_push] at z_w6
              have hm_w6 := hm_b5.keep hb6 hm_b5.size
              clear hb6 kX0_w5 kX1_w5 kX2_w5 kX3_w5 kX0_b5 kX1_b5 kX2_b5 kX3_b5
              go_wp2_with fail
              with_reducible refine (HWi.out _ HX_w6.out).mono ?_
              rintro e w7 ⟨rfl, hb7⟩
              have hX_w7 := HX_w6.out.trans (hb7.mono HX_w6.out.size)
              have HX_w7 := Lib.hid hX_w7
              obtain ⟨kX0_w7, kX1_w7, kX2_w7, kX3_w7⟩ := box2_cells hX_w7
              clear hX_w7
              have hM_w7 := HM_w6.out.trans (hb7.mono HM_w6.out.size)
              have HM_w7 := Lib.hid hM_w7
              obtain ⟨kM0_w7, kM1_w7⟩ := box_cells hM_w7
              clear hM_w7
              have z_w7 := HX_w7.out.size
              simp only [World.alloc, Array.size_push] at z_w7
              have hm_w7 := hm_w6.keep hb7 hm_w6.size
              clear hb7 kX0_w6 kX1_w6 kX2_w6 kX3_w6 kM0_w6 kM1_w6
              go_wp2_with fail
              with_reducible refine (HAw.out _ hm_w7).mono ?_
              rintro e w8 ⟨rfl, hb8⟩
              have hX_w8 := HX_w7.out.trans (hb8.mono HX_w7.out.size)
              have HX_w8 := Lib.hid hX_w8
              obtain ⟨kX0_w8, kX1_w8, kX2_w8, kX3_w8⟩ := box2_cells hX_w8
              clear hX_w8
              have hM_w8 := HM_w7.out.trans (hb8.mono HM_w7.out.size)
              have HM_w8 := Lib.hid hM_w8
              obtain ⟨kM0_w8, kM1_w8⟩ := box_cells hM_w8
              clear hM_w8
              have z_w8 := HX_w8.out.size
              simp only [World.alloc, Array.size_push] at z_w8
              have hm_w8 := hm_w7.keep hb8 hm_w7.size
              clear hb8 kX0_w7 kX1_w7 kX2_w7 kX3_w7 kM0_w7 kM1_w7
              go_wp2
              go_ret
              exact ⟨rfl, HAL.out.trans (HX_w8.out.mono HAL.out.size)⟩
        | some lb =>
          cases v
          all_goals
            cases om with
            | none =>
              exact absurd HMM.out (by simp)
            | some m =>
              obtain ⟨lm, hms⟩ : ∃ lm, Pt.matchP m s2.data.toList = some lm := Option.isSome_iff_exists.1 (show (Pt.matchP m s2.data.toList).isSome = true from HMM.out.symm)
              subst hW0
              clear hal
              go_enter Tryd.func14, Tryd.ntmps14
              go_wp2_with fail
              with_reducible refine (HSm0.out _ HX.out).mono ?_
              rintro e w1 ⟨rfl, hb1⟩
              have hX_w1 := HX.out.trans (hb1.mono HX.out.size)
              have HX_w1 := Lib.hid hX_w1
              obtain ⟨kX0_w1, kX1_w1, kX2_w1, kX3_w1⟩ := box2_cells hX_w1
              clear hX_w1
              have z_w1 := HX_w1.out.size
              simp only [World.alloc, Array.size_push] at z_w1
              have hm_w1 := hmW.keep hb1 hmW.size
              clear hb1
              go_wp2_with fail
              with_reducible refine (HSm1.out _ HX_w1.out).mono ?_
              rintro e w2 ⟨rfl, hb2⟩
              have hX_w2 := HX_w1.out.trans (hb2.mono HX_w1.out.size)
              have HX_w2 := Lib.hid hX_w2
              obtain ⟨kX0_w2, kX1_w2, kX2_w2, kX3_w2⟩ := box2_cells hX_w2
              clear hX_w2
              have z_w2 := HX_w2.out.size
              simp only [World.alloc, Array.size_push] at z_w2
              have hm_w2 := hm_w1.keep hb2 hm_w1.size
              clear hb2 kX0_w1 kX1_w1 kX2_w1 kX3_w1
              go_wp2_with fail
              with_reducible refine (HM0.out _ HX_w2.out hm_w2).mono ?_
              rintro e w3 ⟨_, rfl, Aa, xsa, ca, rfl, _, _, _, _, hb3⟩
              have hX_w3 := HX_w2.out.trans (hb3.mono HX_w2.out.size)
              have HX_w3 := Lib.hid hX_w3
              obtain ⟨kX0_w3, kX1_w3, kX2_w3, kX3_w3⟩ := box2_cells hX_w3
              clear hX_w3
              have z_w3 := HX_w3.out.size
              simp only [World.alloc, Array.size_push] at z_w3
              have hm_w3 := hm_w2.keep hb3 hm_w2.size
              clear hb3 kX0_w2 kX1_w2 kX2_w2 kX3_w2
              generalize xsa.length = na
              go_wp2_with fail
              with_reducible refine (HM1.out _ HX_w3.out hm_w3).mono ?_
              rintro e w4 ⟨_, rfl, Ab, xsb, cb, rfl, _, _, _, _, hb4⟩
              have hX_w4 := HX_w3.out.trans (hb4.mono HX_w3.out.size)
              have HX_w4 := Lib.hid hX_w4
              obtain ⟨kX0_w4, kX1_w4, kX2_w4, kX3_w4⟩ := box2_cells hX_w4
              clear hX_w4
              have z_w4 := HX_w4.out.size
              simp only [World.alloc, Array.size_push] at z_w4
              have hm_w4 := hm_w3.keep hb4 hm_w3.size
              clear hb4 kX0_w3 kX1_w3 kX2_w3 kX3_w3
              generalize xsb.length = nb
              go_wp2_with fail
              with_reducible refine (HMt.out _ HX_w4.out).mono ?_
              rintro e w5 ⟨Am, xsm, cm, bm, rfl, hpm, hb5⟩
              have hX_w5 := HX_w4.out.trans (hb5.mono HX_w4.out.size)
              have HX_w5 := Lib.hid hX_w5
              obtain ⟨kX0_w5, kX1_w5, kX2_w5, kX3_w5⟩ := box2_cells hX_w5
              clear hX_w5
              have z_w5 := HX_w5.out.size
              simp only [World.alloc, Array.size_push] at z_w5
              have hm_w5 := hm_w4.keep hb5 hm_w4.size
              clear hb5 kX0_w4 kX1_w4 kX2_w4 kX3_w4
              have ha5 : Below w5.heap.size w5 (w5.alloc (.cells #[.slice Am xsm.length cm, .bool bm] 25)) := (Below.refl _ _).alloc (Nat.le_refl _) _
              have HX_b5 := Lib.hid (HX_w5.out.trans (ha5.mono HX_w5.out.size))
              obtain ⟨kX0_b5, kX1_b5, kX2_b5, kX3_b5⟩ := box2_cells HX_b5.out
              have hm_b5 := hm_w5.keep ha5 hm_w5.size
              have HBM := Lib.hid (hpm.keep ha5)
              clear hpm
              clear ha5
              have HM := Lib.hid (Below.refl (World.heap (w5.alloc (.cells #[.slice Am xsm.length cm, .bool bm] 25))).size (w5.alloc (.cells #[.slice Am xsm.length cm, .bool bm] 25)))
              have HM4 := Lib.hid (HM3.out _ _ _ _ _ _ (HBM.out.keep HM.out) hm_b5)
              simp only [Option.getD_some] at HM4
              rw [hms] at HM4
              go_wp2_with fail
              with_reducible refine (HM4.out).mono ?_
              rintro e w6 ⟨_, rfl, Ac, xsc, cc, rfl, _, _, _, _, hb6⟩
              have hX_w6 := HX_b5.out.trans (hb6.mono HX_b5.out.size)
              have HX_w6 := Lib.hid hX_w6
              obtain ⟨kX0_w6, kX1_w6, kX2_w6, kX3_w6⟩ := box2_cells hX_w6
              clear hX_w6
              have hM_w6 := HM.out.trans (hb6.mono HM.out.size)
              have HM_w6 := Lib.hid hM_w6
              obtain ⟨kM0_w6, kM1_w6⟩ := box_cells hM_w6
              clear hM_w6
              have z_w6 := HX_w6.out.size
              simp only [World.alloc, Array.size_push] at z_w6
              have hm_w6 := hm_b5.keep hb6 hm_b5.size
              clear hb6 kX0_w5 kX1_w5 kX2_w5 kX3_w5 kX0_b5 kX1_b5 kX2_b5 kX3_b5
              generalize xsc.length = nc
              go_wp2_with fail
              with_reducible refine (HWi.out _ HX_w6.out).mono ?_
              rintro e w7 ⟨rfl, hb7⟩
              have hX_w7 := HX_w6.out.trans (hb7.mono HX_w6.out.size)
              have HX_w7 := Lib.hid hX_w7
              obtain ⟨kX0_w7, kX1_w7, kX2_w7, kX3_w7⟩ := box2_cells hX_w7
              clear hX_w7
              have hM_w7 := HM_w6.out.trans (hb7.mono HM_w6.out.size)
              have HM_w7 := Lib.hid hM_w7
              obtain ⟨kM0_w7, kM1_w7⟩ := box_cells hM_w7
              clear hM_w7
              have z_w7 := HX_w7.out.size
              simp only [World.alloc, Array.size_push] at z_w7
              have hm_w7 := hm_w6.keep hb7 hm_w6.size
              clear hb7 kX0_w6 kX1_w6 kX2_w6 kX3_w6 kM0_w6 kM1_w6
              go_wp2_with fail
              with_reducible refine (HAw.out _ hm_w7).mono ?_
              rintro e w8 ⟨rfl, hb8⟩
              have hX_w8 := HX_w7.out.trans (hb8.mono HX_w7.out.size)
              have HX_w8 := Lib.hid hX_w8
              obtain ⟨kX0_w8, kX1_w8, kX2_w8, kX3_w8⟩ := box2_cells hX_w8
              clear hX_w8
              have hM_w8 := HM_w7.out.trans (hb8.mono HM_w7.out.size)
              have HM_w8 := Lib.hid hM_w8
              obtain ⟨kM0_w8, kM1_w8⟩ := box_cells hM_w8
              clear hM_w8
              have z_w8 := HX_w8.out.size
              simp only [World.alloc, Array.size_push] at z_w8
              have hm_w8 := hm_w7.keep hb8 hm_w7.size
              clear hb8 kX0_w7 kX1_w7 kX2_w7 kX3_w7 kM0_w7 kM1_w7
              go_wp2
              go_ret
              exact ⟨rfl, HAL.out.trans (HX_w8.out.mono HAL.out.size)⟩

end Go.Proofs.YtffjmhdnfkpdpaaDoor.patternMeans
