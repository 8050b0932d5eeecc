/- PatternMeets returns true at every two patterns (the card: the variables that it lists hold what the program text lays). Conditions: none of its own. -/
import Derived.Test.YtffjmhdnfkpdpaaDoorCards
import Derived.Test.YtffjmhdnfkpdpaaDoorTie
import Derived.WalkKit
import Derived.ProofKit
import Derived.OpenShut
import Derived.ShutString
import Derived.Test.YtffjmhdnfkpdpaaDoorPatHeld
import Derived.Test.YtffjmhdnfkpdpaaDoorPatOpen
import Derived.Test.YtffjmhdnfkpdpaaDoorPatCopies
namespace Go.Proofs.YtffjmhdnfkpdpaaDoor.patternMeets
open Go.ChangeShapes Go.WideShapes Go.ChangeAt Go.RowKit
open Go.ChangeMaps (open_string shut_string)
set_option linter.unusedVariables false

set_option maxHeartbeats 8000000 in
theorem walk (w : World) (A0 : Option Addr) (xs0 : List ByteArray) (c0 : Nat) (b0 : Bool) (hp0 : PatR w A0 xs0 c0 b0 ⟨bs xs0, b0⟩) (hz0 : ∀ x ∈ xs0, x.size ≤ 140737488355000) (A1 : Option Addr) (xs1 : List ByteArray) (c1 : Nat) (b1 : Bool) (hp1 : PatR w A1 xs1 c1 b1 ⟨bs xs1, b1⟩) (hz1 : ∀ x ∈ xs1, x.size ≤ 140737488355000) (hm : MaxL w) :
    Calls Tryd.prog 8 #[patV A0 xs0.length c0 b0, patV A1 xs1.length c1 b1] w fun e w' => e = .returned (.bool true) ∧ Below w.heap.size w w' := by
  obtain ⟨W0, hW0⟩ : ∃ W0, W0 = ((w.alloc (.cells #[.slice A0 xs0.length c0, .bool b0] 25)).alloc (.cells #[.slice A1 xs1.length c1, .bool b1] 25)) := ⟨_, rfl⟩
  have hal : Below w.heap.size w W0 := by rw [hW0]; exact ((Below.refl _ _).alloc (Nat.le_refl _) _).alloc (by simp) _
  have hmW := hm.keep hal hm.size
  have HK0 := Lib.hid (fun (w' : World) (hb : Below W0.heap.size W0 w') => hp0.keep (hal.trans (hb.mono hal.size)))
  have HK1 := Lib.hid (fun (w' : World) (hb : Below W0.heap.size W0 w') => hp1.keep (hal.trans (hb.mono hal.size)))
  have HAL := Lib.hid hal
  have HX := Lib.hid (Below.refl W0.heap.size W0)
  have HAw := Lib.hid (fun (w : World) (hm : MaxL w) => awake3_any w hm)
  have HSm0 := Lib.hid (fun (w' : World) (hb : Below W0.heap.size W0 w') => small_any A0 xs0 c0 b0 _ w' (HK0.out w' hb) (fun x hx => Nat.le_trans (hz0 x hx) (by decide)))
  cases hsm0 : smallB (bs xs0) with
  | false =>
    rw [hsm0] at HSm0
    subst hW0
    clear hal
    go_enter Tryd.func8, Tryd.ntmps8
    go_wp2_with fail
    with_reducible refine (HSm0.out _ HX.out).mono ?_
    rintro e w1 ⟨rfl, hb1⟩
    have hX_w1 := HX.out.trans (hb1.mono HX.out.size)
    have HX_w1 := Lib.hid hX_w1
    obtain ⟨kX0_w1, kX1_w1, kX2_w1, kX3_w1⟩ := box2_cells hX_w1
    clear hX_w1
    have z_w1 := HX_w1.out.size
    simp only [World.alloc, Array.size_push] at z_w1
    have hm_w1 := hmW.keep hb1 hmW.size
    clear hb1
    go_wp2_with fail
    with_reducible refine (HAw.out _ hm_w1).mono ?_
    rintro e w2 ⟨rfl, hb2⟩
    have hX_w2 := HX_w1.out.trans (hb2.mono HX_w1.out.size)
    have HX_w2 := Lib.hid hX_w2
    obtain ⟨kX0_w2, kX1_w2, kX2_w2, kX3_w2⟩ := box2_cells hX_w2
    clear hX_w2
    have z_w2 := HX_w2.out.size
    simp only [World.alloc, Array.size_push] at z_w2
    have hm_w2 := hm_w1.keep hb2 hm_w1.size
    clear hb2 kX0_w1 kX1_w1 kX2_w1 kX3_w1
    go_wp2
    go_ret
    exact ⟨rfl, HAL.out.trans (HX_w2.out.mono HAL.out.size)⟩
  | true =>
    rw [hsm0] at HSm0
    obtain ⟨hn0, he0, hj0, hy0⟩ := small_facts hsm0
    have HE0 := Lib.hid (And.intro he0 hy0)
    clear he0 hy0 hsm0
    have HSm1 := Lib.hid (fun (w' : World) (hb : Below W0.heap.size W0 w') => small_any A1 xs1 c1 b1 _ w' (HK1.out w' hb) (fun x hx => Nat.le_trans (hz1 x hx) (by decide)))
    cases hsm1 : smallB (bs xs1) with
    | false =>
      rw [hsm1] at HSm1
      subst hW0
      clear hal
      go_enter Tryd.func8, Tryd.ntmps8
      go_wp2_with fail
      with_reducible refine (HSm0.out _ HX.out).mono ?_
      rintro e w1 ⟨rfl, hb1⟩
      have hX_w1 := HX.out.trans (hb1.mono HX.out.size)
      have HX_w1 := Lib.hid hX_w1
      obtain ⟨kX0_w1, kX1_w1, kX2_w1, kX3_w1⟩ := box2_cells hX_w1
      clear hX_w1
      have z_w1 := HX_w1.out.size
      simp only [World.alloc, Array.size_push] at z_w1
      have hm_w1 := hmW.keep hb1 hmW.size
      clear hb1
      go_wp2_with fail
      with_reducible refine (HSm1.out _ HX_w1.out).mono ?_
      rintro e w2 ⟨rfl, hb2⟩
      have hX_w2 := HX_w1.out.trans (hb2.mono HX_w1.out.size)
      have HX_w2 := Lib.hid hX_w2
      obtain ⟨kX0_w2, kX1_w2, kX2_w2, kX3_w2⟩ := box2_cells hX_w2
      clear hX_w2
      have z_w2 := HX_w2.out.size
      simp only [World.alloc, Array.size_push] at z_w2
      have hm_w2 := hm_w1.keep hb2 hm_w1.size
      clear hb2 kX0_w1 kX1_w1 kX2_w1 kX3_w1
      go_wp2_with fail
      with_reducible refine (HAw.out _ hm_w2).mono ?_
      rintro e w3 ⟨rfl, hb3⟩
      have hX_w3 := HX_w2.out.trans (hb3.mono HX_w2.out.size)
      have HX_w3 := Lib.hid hX_w3
      obtain ⟨kX0_w3, kX1_w3, kX2_w3, kX3_w3⟩ := box2_cells hX_w3
      clear hX_w3
      have z_w3 := HX_w3.out.size
      simp only [World.alloc, Array.size_push] at z_w3
      have hm_w3 := hm_w2.keep hb3 hm_w2.size
      clear hb3 kX0_w2 kX1_w2 kX2_w2 kX3_w2
      go_wp2
      go_ret
      exact ⟨rfl, HAL.out.trans (HX_w3.out.mono HAL.out.size)⟩
    | true =>
      rw [hsm1] at HSm1
      obtain ⟨hn1, he1, hj1, hy1⟩ := small_facts hsm1
      have HE1 := Lib.hid (And.intro he1 hy1)
      clear he1 hy1 hsm1
      have HC0 := Lib.hid (fun (w' : World) (hb : Below W0.heap.size W0 w') => copied_any A0 xs0 c0 b0 _ w' (HK0.out w' hb) (by omega))
      have HC1 := Lib.hid (fun (w' : World) (hb : Below W0.heap.size W0 w') => copied_any A1 xs1 c1 b1 _ w' (HK1.out w' hb) (by omega))
      have HMt := Lib.hid (fun (w' : World) (hb : Below W0.heap.size W0 w') => meet_any A0 A1 xs0 xs1 c0 c1 b0 b1 _ _ w' (HK0.out w' hb) (HK1.out w' hb))
      have HMr := Lib.hid (fun (w' : World) (hb : Below W0.heap.size W0 w') => rmeet_any A0 A1 xs0 xs1 c0 c1 b0 b1 _ _ w' (HK0.out w' hb) (HK1.out w' hb))
      generalize Pt.meet ⟨bs xs0, b0⟩ ⟨bs xs1, b1⟩ = om at *
      subst hW0
      clear hal
      go_enter Tryd.func8, Tryd.ntmps8
      go_wp2_with fail
      with_reducible refine (HSm0.out _ HX.out).mono ?_
      rintro e w1 ⟨rfl, hb1⟩
      have hX_w1 := HX.out.trans (hb1.mono HX.out.size)
      have HX_w1 := Lib.hid hX_w1
      obtain ⟨kX0_w1, kX1_w1, kX2_w1, kX3_w1⟩ := box2_cells hX_w1
      clear hX_w1
      have z_w1 := HX_w1.out.size
      simp only [World.alloc, Array.size_push] at z_w1
      have hm_w1 := hmW.keep hb1 hmW.size
      clear hb1
      go_wp2_with fail
      with_reducible refine (HSm1.out _ HX_w1.out).mono ?_
      rintro e w2 ⟨rfl, hb2⟩
      have hX_w2 := HX_w1.out.trans (hb2.mono HX_w1.out.size)
      have HX_w2 := Lib.hid hX_w2
      obtain ⟨kX0_w2, kX1_w2, kX2_w2, kX3_w2⟩ := box2_cells hX_w2
      clear hX_w2
      have z_w2 := HX_w2.out.size
      simp only [World.alloc, Array.size_push] at z_w2
      have hm_w2 := hm_w1.keep hb2 hm_w1.size
      clear hb2 kX0_w1 kX1_w1 kX2_w1 kX3_w1
      have HC0I := Lib.hid (fun (w' : World) (h : S2 w (.slice A0 xs0.length c0) (.bool b0) (.slice A1 xs1.length c1) (.bool b1) 25 w') => HC0.out w' h.2.2.2.2.below)
      have HC1I := Lib.hid (fun (w' : World) (h : S2 w (.slice A0 xs0.length c0) (.bool b0) (.slice A1 xs1.length c1) (.bool b1) 25 w') => HC1.out w' h.2.2.2.2.below)
      have hin : S2 w (.slice A0 xs0.length c0) (.bool b0) (.slice A1 xs1.length c1) (.bool b1) 25 w2 := In2.held ⟨HX_w2.out⟩
      have HIN := Lib.hid hin
      clear hin
      go_upto_region 3 with fail
      go_cut [5, 6] (fun p5 p6 wx => ∃ g h A B c d, Copies w wx p5 p6 g h A0 A1 A B xs0 xs1 c0 c1 c d b0 b1)
      case first =>
        clear HC0 HC1 HX HX_w1 HX_w2 HK0 HK1 HSm0 HSm1 hz0 hz1 hp0 hp1 hm hm_w1 hm_w2 hmW HAw kX0_w2 kX1_w2 kX2_w2 kX3_w2 z_w1 z_w2 HE0 HE1
        have hsz := HIN.out.2.2.2.2.size
        set_option maxRecDepth 100000 in
        go_region_held3? (fun w' => w'.cell? ⟨w.heap.size, 0, none⟩ = some (.slice A0 xs0.length c0) ∧ w'.cell? ⟨w.heap.size, 1, none⟩ = some (.bool b0) ∧ w'.cell? ⟨w.heap.size + 1, 0, none⟩ = some (.slice A1 xs1.length c1) ∧ w'.cell? ⟨w.heap.size + 1, 1, none⟩ = some (.bool b1) ∧ In2 w (.slice A0 xs0.length c0) (.bool b0) (.slice A1 xs1.length c1) (.bool b1) 25 w')
          ((refine In2.held ?_; repeat (first | with_reducible exact hSB.2.2.2.2 | with_reducible exact hSA.2.2.2.2 | with_reducible exact In2.drew HIN.out.2.2.2.2 | with_reducible exact HIN.out.2.2.2.2 | with_reducible refine In2.allocd ?_ _ | with_reducible refine In2.drew ?_ | with_reducible refine In2.st ?_ _ _ (by omega) _)))
          (first
            | (go_at_call 23; have hzz := hbA; refine (HC1I.out _ (by assumption)).mono ?_; rintro e w' ⟨B, d, rfl, hpb, hb⟩
               have hSB : S2 w (.slice A0 xs0.length c0) (.bool b0) (.slice A1 xs1.length c1) (.bool b1) 25 w' := S2.nxt hb (by assumption)
               have szB := hSB.2.2.2.2.size
               first | (have hpaB := PatR.keep hpa hb) | (have hpaB := PatR.keep (hpa.allocd _) hb) | (have hpaB := PatR.keep ((hpa.allocd _).allocd _) hb)
               first | (have yy := ZBox.two hb; obtain ⟨⟨m0, m1, m2, m3, m4⟩, ⟨n0, n1, n2, n3, n4⟩⟩ := yy) | (have yy := ZBox.one hb; obtain ⟨m0, m1, m2, m3, m4⟩ := yy) | skip
               first | (have yy := ZBox.nextA pA hb; obtain ⟨i0, i1, i2, i3, i4⟩ := yy) | (have yy := ZBox.next pA hb; obtain ⟨i0, i1, i2, i3, i4⟩ := yy) | skip
               first | (have yy := ZBox.next pB hb; obtain ⟨j0, j1, j2, j3, j4⟩ := yy) | skip
               first | (have z1 := Nat.ne_of_lt i4; have z2 := z1.symm) | skip
               first | (have z3 := Nat.ne_of_lt m4; have z4 := z3.symm) | skip
               first | (have z5 := Nat.ne_of_lt n4; have z6 := z5.symm) | skip
               first | (have z7 := Nat.ne_of_lt j4; have z8 := z7.symm) | skip)
            | (go_at_call 23; refine (HC0I.out _ (by assumption)).mono ?_; rintro e w' ⟨A, c, rfl, hpa, hb⟩; have hbA := hb
               have hSA : S2 w (.slice A0 xs0.length c0) (.bool b0) (.slice A1 xs1.length c1) (.bool b1) 25 w' := S2.nxt hb (by assumption)
               have szA := hSA.2.2.2.2.size
               first | (have yy := ZBox.twoD hb; obtain ⟨pA, pB⟩ := yy) | (have pA := ZBox.oneD hb) | skip
               first | (have pn1 := Nat.ne_of_lt pA.lt; have pn2 := pn1.symm) | skip))
        all_goals set_option maxRecDepth 100000 in go_wp2_with fail
        all_goals go_meet
        all_goals
          refine ⟨_, _, A, B, c, d, Copies.mk rfl rfl ?e0 ?e1 ?e2 ?e3 ?hg ?hh ?pa ?pb ?bx⟩
          case e0 => simp [go_sem, *]
          case e1 => simp [go_sem, *]
          case e2 => simp [go_sem, *]
          case e3 => simp [go_sem, *]
          case hg => first | (simp [World.setCell]; done) | (simp [World.setCell]; omega) | omega
          case hh => first | (simp [World.setCell]; done) | (simp [World.setCell]; omega) | omega
          case pa => repeat (first | with_reducible exact hpaB | with_reducible refine PatR.allocd ?_ _ | with_reducible refine PatR.stS ?_ _ _ (by simp [go_sem, *]) | with_reducible refine PatR.stB ?_ _ _ (by simp [go_sem, *]))
          case pb => repeat (first | with_reducible exact hpb | with_reducible refine PatR.allocd ?_ _ | with_reducible refine PatR.stS ?_ _ _ (by simp [go_sem, *]) | with_reducible refine PatR.stB ?_ _ _ (by simp [go_sem, *]))
          case bx => repeat (first | with_reducible exact hSB.2.2.2.2 | with_reducible exact hSA.2.2.2.2 | with_reducible exact In2.drew HIN.out.2.2.2.2 | with_reducible exact HIN.out.2.2.2.2 | with_reducible refine In2.allocd ?_ _ | with_reducible refine In2.drew ?_ | with_reducible refine In2.st ?_ _ _ (by omega) _)
      case rest =>
        obtain ⟨g, h, A, B, c, d, HCP⟩ := hcut
        obtain rfl := HCP.pv
        obtain rfl := HCP.qv
        have HXc := Lib.hid HCP.bx.below
        have hmc := hmW.keep HXc.out hmW.size
        obtain ⟨kX0_c, kX1_c, kX2_c, kX3_c⟩ := box2_cells HXc.out
        have kG0_c := HCP.e0
        have kG1_c := HCP.e1
        have kG2_c := HCP.e2
        have kG3_c := HCP.e3
        have z_c := HCP.bx.size
        have hgc := HCP.hg
        have hhc := HCP.hh
        have HCO := Lib.hid HCP
        clear HCP kX0_w2 kX1_w2 kX2_w2 kX3_w2 z_w1 z_w2 HC0 HC1 HC0I HC1I HIN
        have HG := Lib.hid (Below.refl (World.heap wc).size wc)
        cases om
        all_goals
          go_wp2_with fail
          with_reducible refine (HMt.out _ HXc.out).mono ?_
          rintro e w5 ⟨Am, xsm, cm, bm, rfl, hpm, hb5⟩
          have hX_w5 := HXc.out.trans (hb5.mono HXc.out.size)
          have HX_w5 := Lib.hid hX_w5
          obtain ⟨kX0_w5, kX1_w5, kX2_w5, kX3_w5⟩ := box2_cells hX_w5
          clear hX_w5
          have hG_w5 := HG.out.trans (hb5.mono HG.out.size)
          have HG_w5 := Lib.hid hG_w5
          have kG0_w5 := (hG_w5.cell (p := ⟨g, 0, none⟩) hgc).trans HCO.out.e0
          have kG1_w5 := (hG_w5.cell (p := ⟨g, 1, none⟩) hgc).trans HCO.out.e1
          have kG2_w5 := (hG_w5.cell (p := ⟨h, 0, none⟩) hhc).trans HCO.out.e2
          have kG3_w5 := (hG_w5.cell (p := ⟨h, 1, none⟩) hhc).trans HCO.out.e3
          clear hG_w5
          have z_w5 := HX_w5.out.size
          simp only [World.alloc, Array.size_push] at z_w5
          have hm_w5 := hmc.keep hb5 hmc.size
          clear hb5 kX0_c kX1_c kX2_c kX3_c kG0_c kG1_c kG2_c kG3_c
          have ha5 : Below w5.heap.size w5 (w5.alloc (.cells #[.slice Am xsm.length cm, .bool bm] 25)) := (Below.refl _ _).alloc (Nat.le_refl _) _
          have HX_b5 := Lib.hid (HX_w5.out.trans (ha5.mono HX_w5.out.size))
          obtain ⟨kX0_b5, kX1_b5, kX2_b5, kX3_b5⟩ := box2_cells HX_b5.out
          have HG_b5 := Lib.hid (HG_w5.out.trans (ha5.mono HG_w5.out.size))
          have kG0_b5 := (HG_b5.out.cell (p := ⟨g, 0, none⟩) hgc).trans HCO.out.e0
          have kG1_b5 := (HG_b5.out.cell (p := ⟨g, 1, none⟩) hgc).trans HCO.out.e1
          have kG2_b5 := (HG_b5.out.cell (p := ⟨h, 0, none⟩) hhc).trans HCO.out.e2
          have kG3_b5 := (HG_b5.out.cell (p := ⟨h, 1, none⟩) hhc).trans HCO.out.e3
          have hm_b5 := hm_w5.keep ha5 hm_w5.size
          have HBM := Lib.hid (hpm.keep ha5)
          clear hpm
          clear ha5
          have HM := Lib.hid (Below.refl (World.heap (w5.alloc (.cells #[.slice Am xsm.length cm, .bool bm] 25))).size (w5.alloc (.cells #[.slice Am xsm.length cm, .bool bm] 25)))
          go_wp2_with fail
          with_reducible refine (HMr.out _ HX_b5.out).mono ?_
          rintro e w6 ⟨An, xsn, cn, bn, rfl, hpn, hb6⟩
          have hX_w6 := HX_b5.out.trans (hb6.mono HX_b5.out.size)
          have HX_w6 := Lib.hid hX_w6
          obtain ⟨kX0_w6, kX1_w6, kX2_w6, kX3_w6⟩ := box2_cells hX_w6
          clear hX_w6
          have hG_w6 := HG_b5.out.trans (hb6.mono HG_b5.out.size)
          have HG_w6 := Lib.hid hG_w6
          have kG0_w6 := (hG_w6.cell (p := ⟨g, 0, none⟩) hgc).trans HCO.out.e0
          have kG1_w6 := (hG_w6.cell (p := ⟨g, 1, none⟩) hgc).trans HCO.out.e1
          have kG2_w6 := (hG_w6.cell (p := ⟨h, 0, none⟩) hhc).trans HCO.out.e2
          have kG3_w6 := (hG_w6.cell (p := ⟨h, 1, none⟩) hhc).trans HCO.out.e3
          clear hG_w6
          have hM_w6 := HM.out.trans (hb6.mono HM.out.size)
          have HM_w6 := Lib.hid hM_w6
          obtain ⟨kM0_w6, kM1_w6⟩ := box_cells hM_w6
          clear hM_w6
          have z_w6 := HX_w6.out.size
          simp only [World.alloc, Array.size_push] at z_w6
          have hm_w6 := hm_b5.keep hb6 hm_b5.size
          clear hb6 kX0_w5 kX1_w5 kX2_w5 kX3_w5 kG0_w5 kG1_w5 kG2_w5 kG3_w5 kX0_b5 kX1_b5 kX2_b5 kX3_b5 kG0_b5 kG1_b5 kG2_b5 kG3_b5
          have hmn := (HBM.out.keep HM_w6.out)
          obtain rfl : xsm = xsn := bs_inj (HBM.out.parts.trans hpn.parts.symm)
          obtain rfl : bm = bn := HBM.out.rest.trans hpn.rest.symm
          clear hmn
          have ha6 : Below w6.heap.size w6 (w6.alloc (.cells #[.slice An xsm.length cn, .bool bm] 25)) := (Below.refl _ _).alloc (Nat.le_refl _) _
          have HX_b6 := Lib.hid (HX_w6.out.trans (ha6.mono HX_w6.out.size))
          obtain ⟨kX0_b6, kX1_b6, kX2_b6, kX3_b6⟩ := box2_cells HX_b6.out
          have HG_b6 := Lib.hid (HG_w6.out.trans (ha6.mono HG_w6.out.size))
          have kG0_b6 := (HG_b6.out.cell (p := ⟨g, 0, none⟩) hgc).trans HCO.out.e0
          have kG1_b6 := (HG_b6.out.cell (p := ⟨g, 1, none⟩) hgc).trans HCO.out.e1
          have kG2_b6 := (HG_b6.out.cell (p := ⟨h, 0, none⟩) hhc).trans HCO.out.e2
          have kG3_b6 := (HG_b6.out.cell (p := ⟨h, 1, none⟩) hhc).trans HCO.out.e3
          have HM_b6 := Lib.hid (HM_w6.out.trans (ha6.mono HM_w6.out.size))
          obtain ⟨kM0_b6, kM1_b6⟩ := box_cells HM_b6.out
          have hm_b6 := hm_w6.keep ha6 hm_w6.size
          have HBN := Lib.hid (hpn.keep ha6)
          clear hpn
          clear ha6
          have HN := Lib.hid (Below.refl (World.heap (w6.alloc (.cells #[.slice An xsm.length cn, .bool bm] 25))).size (w6.alloc (.cells #[.slice An xsm.length cn, .bool bm] 25)))
          have q1 := HBM.out.keep HM_b6.out
          have q2 := HBN.out.keep HN.out
          have hs1 : samePat bm bm xsm xsm = true := by simp [samePat]
          have HS1 := Lib.hid (rsame_any Am An xsm xsm cm cn _ _ bm bm _ q1.rd q2.rd (Nat.le_refl _) (Nat.le_refl _) (Nat.le_trans q1.le q1.cm) q1.le q2.le (Nat.le_trans q2.le q2.cm))
          rw [hs1] at HS1
          clear q1 q2 hs1
          go_wp2_with fail
          with_reducible refine (HS1.out).mono ?_
          rintro e w7 ⟨rfl, hb7⟩
          have hX_w7 := HX_b6.out.trans (hb7.mono HX_b6.out.size)
          have HX_w7 := Lib.hid hX_w7
          obtain ⟨kX0_w7, kX1_w7, kX2_w7, kX3_w7⟩ := box2_cells hX_w7
          clear hX_w7
          have hG_w7 := HG_b6.out.trans (hb7.mono HG_b6.out.size)
          have HG_w7 := Lib.hid hG_w7
          have kG0_w7 := (hG_w7.cell (p := ⟨g, 0, none⟩) hgc).trans HCO.out.e0
          have kG1_w7 := (hG_w7.cell (p := ⟨g, 1, none⟩) hgc).trans HCO.out.e1
          have kG2_w7 := (hG_w7.cell (p := ⟨h, 0, none⟩) hhc).trans HCO.out.e2
          have kG3_w7 := (hG_w7.cell (p := ⟨h, 1, none⟩) hhc).trans HCO.out.e3
          clear hG_w7
          have hM_w7 := HM_b6.out.trans (hb7.mono HM_b6.out.size)
          have HM_w7 := Lib.hid hM_w7
          obtain ⟨kM0_w7, kM1_w7⟩ := box_cells hM_w7
          clear hM_w7
          have hN_w7 := HN.out.trans (hb7.mono HN.out.size)
          have HN_w7 := Lib.hid hN_w7
          obtain ⟨kN0_w7, kN1_w7⟩ := box_cells hN_w7
          clear hN_w7
          have z_w7 := HX_w7.out.size
          simp only [World.alloc, Array.size_push] at z_w7
          have hm_w7 := hm_b6.keep hb7 hm_b6.size
          clear hb7 kX0_w6 kX1_w6 kX2_w6 kX3_w6 kG0_w6 kG1_w6 kG2_w6 kG3_w6 kM0_w6 kM1_w6 kX0_b6 kX1_b6 kX2_b6 kX3_b6 kG0_b6 kG1_b6 kG2_b6 kG3_b6 kM0_b6 kM1_b6
          have q1 := HK0.out _ HX_w7.out
          have q2 := HCO.out.pa.keep HG_w7.out
          have hs1 : samePat b0 b0 xs0 xs0 = true := by simp [samePat]
          have HS8 := Lib.hid (rsame_any A0 A xs0 xs0 c0 c _ _ b0 b0 _ q1.rd q2.rd (Nat.le_refl _) (Nat.le_refl _) (Nat.le_trans q1.le q1.cm) q1.le q2.le (Nat.le_trans q2.le q2.cm))
          rw [hs1] at HS8
          clear q1 q2 hs1
          go_wp2_with fail
          with_reducible refine (HS8.out).mono ?_
          rintro e w8 ⟨rfl, hb8⟩
          have hX_w8 := HX_w7.out.trans (hb8.mono HX_w7.out.size)
          have HX_w8 := Lib.hid hX_w8
          obtain ⟨kX0_w8, kX1_w8, kX2_w8, kX3_w8⟩ := box2_cells hX_w8
          clear hX_w8
          have hG_w8 := HG_w7.out.trans (hb8.mono HG_w7.out.size)
          have HG_w8 := Lib.hid hG_w8
          have kG0_w8 := (hG_w8.cell (p := ⟨g, 0, none⟩) hgc).trans HCO.out.e0
          have kG1_w8 := (hG_w8.cell (p := ⟨g, 1, none⟩) hgc).trans HCO.out.e1
          have kG2_w8 := (hG_w8.cell (p := ⟨h, 0, none⟩) hhc).trans HCO.out.e2
          have kG3_w8 := (hG_w8.cell (p := ⟨h, 1, none⟩) hhc).trans HCO.out.e3
          clear hG_w8
          have hM_w8 := HM_w7.out.trans (hb8.mono HM_w7.out.size)
          have HM_w8 := Lib.hid hM_w8
          obtain ⟨kM0_w8, kM1_w8⟩ := box_cells hM_w8
          clear hM_w8
          have hN_w8 := HN_w7.out.trans (hb8.mono HN_w7.out.size)
          have HN_w8 := Lib.hid hN_w8
          obtain ⟨kN0_w8, kN1_w8⟩ := box_cells hN_w8
          clear hN_w8
          have z_w8 := HX_w8.out.size
          simp only [World.alloc, Array.size_push] at z_w8
          have hm_w8 := hm_w7.keep hb8 hm_w7.size
          clear hb8 kX0_w7 kX1_w7 kX2_w7 kX3_w7 kG0_w7 kG1_w7 kG2_w7 kG3_w7 kM0_w7 kM1_w7 kN0_w7 kN1_w7
          have q1 := HK1.out _ HX_w8.out
          have q2 := HCO.out.pb.keep HG_w8.out
          have hs1 : samePat b1 b1 xs1 xs1 = true := by simp [samePat]
          have HS9 := Lib.hid (rsame_any A1 B xs1 xs1 c1 d _ _ b1 b1 _ q1.rd q2.rd (Nat.le_refl _) (Nat.le_refl _) (Nat.le_trans q1.le q1.cm) q1.le q2.le (Nat.le_trans q2.le q2.cm))
          rw [hs1] at HS9
          clear q1 q2 hs1
          go_wp2_with fail
          with_reducible refine (HS9.out).mono ?_
          rintro e w9 ⟨rfl, hb9⟩
          have hX_w9 := HX_w8.out.trans (hb9.mono HX_w8.out.size)
          have HX_w9 := Lib.hid hX_w9
          obtain ⟨kX0_w9, kX1_w9, kX2_w9, kX3_w9⟩ := box2_cells hX_w9
          clear hX_w9
          have hG_w9 := HG_w8.out.trans (hb9.mono HG_w8.out.size)
          have HG_w9 := Lib.hid hG_w9
          have kG0_w9 := (hG_w9.cell (p := ⟨g, 0, none⟩) hgc).trans HCO.out.e0
          have kG1_w9 := (hG_w9.cell (p := ⟨g, 1, none⟩) hgc).trans HCO.out.e1
          have kG2_w9 := (hG_w9.cell (p := ⟨h, 0, none⟩) hhc).trans HCO.out.e2
          have kG3_w9 := (hG_w9.cell (p := ⟨h, 1, none⟩) hhc).trans HCO.out.e3
          clear hG_w9
          have hM_w9 := HM_w8.out.trans (hb9.mono HM_w8.out.size)
          have HM_w9 := Lib.hid hM_w9
          obtain ⟨kM0_w9, kM1_w9⟩ := box_cells hM_w9
          clear hM_w9
          have hN_w9 := HN_w8.out.trans (hb9.mono HN_w8.out.size)
          have HN_w9 := Lib.hid hN_w9
          obtain ⟨kN0_w9, kN1_w9⟩ := box_cells hN_w9
          clear hN_w9
          have z_w9 := HX_w9.out.size
          simp only [World.alloc, Array.size_push] at z_w9
          have hm_w9 := hm_w8.keep hb9 hm_w8.size
          clear hb9 kX0_w8 kX1_w8 kX2_w8 kX3_w8 kG0_w8 kG1_w8 kG2_w8 kG3_w8 kM0_w8 kM1_w8 kN0_w8 kN1_w8
          go_wp2_with fail
          with_reducible refine (HAw.out _ hm_w9).mono ?_
          rintro e w10 ⟨rfl, hb10⟩
          have hX_w10 := HX_w9.out.trans (hb10.mono HX_w9.out.size)
          have HX_w10 := Lib.hid hX_w10
          obtain ⟨kX0_w10, kX1_w10, kX2_w10, kX3_w10⟩ := box2_cells hX_w10
          clear hX_w10
          have hG_w10 := HG_w9.out.trans (hb10.mono HG_w9.out.size)
          have HG_w10 := Lib.hid hG_w10
          have kG0_w10 := (hG_w10.cell (p := ⟨g, 0, none⟩) hgc).trans HCO.out.e0
          have kG1_w10 := (hG_w10.cell (p := ⟨g, 1, none⟩) hgc).trans HCO.out.e1
          have kG2_w10 := (hG_w10.cell (p := ⟨h, 0, none⟩) hhc).trans HCO.out.e2
          have kG3_w10 := (hG_w10.cell (p := ⟨h, 1, none⟩) hhc).trans HCO.out.e3
          clear hG_w10
          have hM_w10 := HM_w9.out.trans (hb10.mono HM_w9.out.size)
          have HM_w10 := Lib.hid hM_w10
          obtain ⟨kM0_w10, kM1_w10⟩ := box_cells hM_w10
          clear hM_w10
          have hN_w10 := HN_w9.out.trans (hb10.mono HN_w9.out.size)
          have HN_w10 := Lib.hid hN_w10
          obtain ⟨kN0_w10, kN1_w10⟩ := box_cells hN_w10
          clear hN_w10
          have z_w10 := HX_w10.out.size
          simp only [World.alloc, Array.size_push] at z_w10
          have hm_w10 := hm_w9.keep hb10 hm_w9.size
          clear hb10 kX0_w9 kX1_w9 kX2_w9 kX3_w9 kG0_w9 kG1_w9 kG2_w9 kG3_w9 kM0_w9 kM1_w9 kN0_w9 kN1_w9
          go_wp2
          go_ret
          exact ⟨rfl, HAL.out.trans (HX_w10.out.mono HAL.out.size)⟩

end Go.Proofs.YtffjmhdnfkpdpaaDoor.patternMeets
