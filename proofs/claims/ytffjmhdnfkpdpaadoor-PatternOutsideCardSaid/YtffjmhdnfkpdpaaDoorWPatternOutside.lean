/- PatternOutside returns true at every two patterns (the card: the variables that it lists hold what the program text lays). Conditions: none of its own. -/
import Derived.Test.YtffjmhdnfkpdpaaDoorCards
import Derived.Test.YtffjmhdnfkpdpaaDoorTie
import Derived.WalkKit
import Derived.ProofKit
import Derived.OpenShut
import Derived.ShutString
import Derived.Test.YtffjmhdnfkpdpaaDoorPatHeld
import Derived.Test.YtffjmhdnfkpdpaaDoorPatOpen
import Derived.Test.YtffjmhdnfkpdpaaDoorPatOut
namespace Go.Proofs.YtffjmhdnfkpdpaaDoor.patternOutside
open Go.ChangeShapes Go.WideShapes Go.ChangeAt Go.RowKit
open Go.ChangeMaps (open_string shut_string)
set_option linter.unusedVariables false

set_option maxHeartbeats 8000000 in
theorem walk (w : World) (A0 : Option Addr) (xs0 : List ByteArray) (c0 : Nat) (b0 : Bool) (hp0 : PatR w A0 xs0 c0 b0 ⟨bs xs0, b0⟩) (hz0 : ∀ x ∈ xs0, x.size ≤ 140737488355000) (A1 : Option Addr) (xs1 : List ByteArray) (c1 : Nat) (b1 : Bool) (hp1 : PatR w A1 xs1 c1 b1 ⟨bs xs1, b1⟩) (hz1 : ∀ x ∈ xs1, x.size ≤ 140737488355000) (hm : MaxL w) :
    Calls Tryd.prog 15 #[patV A0 xs0.length c0 b0, patV A1 xs1.length c1 b1] w fun e w' => e = .returned (.bool true) ∧ Below w.heap.size w w' := by
  obtain ⟨W0, hW0⟩ : ∃ W0, W0 = ((w.alloc (.cells #[.slice A0 xs0.length c0, .bool b0] 25)).alloc (.cells #[.slice A1 xs1.length c1, .bool b1] 25)) := ⟨_, rfl⟩
  have hal : Below w.heap.size w W0 := by rw [hW0]; exact ((Below.refl _ _).alloc (Nat.le_refl _) _).alloc (by simp) _
  have hmW := hm.keep hal hm.size
  have HK0 := Lib.hid (fun (w' : World) (hb : Below W0.heap.size W0 w') => hp0.keep (hal.trans (hb.mono hal.size)))
  have HK1 := Lib.hid (fun (w' : World) (hb : Below W0.heap.size W0 w') => hp1.keep (hal.trans (hb.mono hal.size)))
  have HAL := Lib.hid hal
  have HX := Lib.hid (Below.refl W0.heap.size W0)
  have HAw := Lib.hid (fun (w : World) (hm : MaxL w) => awake3_any w hm)
  have HSm0 := Lib.hid (fun (w' : World) (hb : Below W0.heap.size W0 w') => small_any A0 xs0 c0 b0 _ w' (HK0.out w' hb) (fun x hx => Nat.le_trans (hz0 x hx) (by decide)))
  cases hsm0 : smallB (bs xs0) with
  | false =>
    rw [hsm0] at HSm0
    subst hW0
    clear hal
    go_enter Tryd.func15, Tryd.ntmps15
    go_wp2_with fail
    with_reducible refine (HSm0.out _ HX.out).mono ?_
    rintro e w1 ⟨rfl, hb1⟩
    have hX_w1 := HX.out.trans (hb1.mono HX.out.size)
    have HX_w1 := Lib.hid hX_w1
    obtain ⟨kX0_w1, kX1_w1, kX2_w1, kX3_w1⟩ := box2_cells hX_w1
    clear hX_w1
    have z_w1 := HX_w1.out.size
    simp only [World.alloc, Array.size_push] at z_w1
    have hm_w1 := hmW.keep hb1 hmW.size
    clear hb1
    go_wp2_with fail
    with_reducible refine (HAw.out _ hm_w1).mono ?_
    rintro e w2 ⟨rfl, hb2⟩
    have hX_w2 := HX_w1.out.trans (hb2.mono HX_w1.out.size)
    have HX_w2 := Lib.hid hX_w2
    obtain ⟨kX0_w2, kX1_w2, kX2_w2, kX3_w2⟩ := box2_cells hX_w2
    clear hX_w2
    have z_w2 := HX_w2.out.size
    simp only [World.alloc, Array.size_push] at z_w2
    have hm_w2 := hm_w1.keep hb2 hm_w1.size
    clear hb2 kX0_w1 kX1_w1 kX2_w1 kX3_w1
    go_wp2
    go_ret
    exact ⟨rfl, HAL.out.trans (HX_w2.out.mono HAL.out.size)⟩
  | true =>
    rw [hsm0] at HSm0
    obtain ⟨hn0, he0, hj0, hy0⟩ := small_facts hsm0
    have HE0 := Lib.hid (And.intro he0 hy0)
    clear he0 hy0 hsm0
    have HSm1 := Lib.hid (fun (w' : World) (hb : Below W0.heap.size W0 w') => small_any A1 xs1 c1 b1 _ w' (HK1.out w' hb) (fun x hx => Nat.le_trans (hz1 x hx) (by decide)))
    cases hsm1 : smallB (bs xs1) with
    | false =>
      rw [hsm1] at HSm1
      subst hW0
      clear hal
      go_enter Tryd.func15, Tryd.ntmps15
      go_wp2_with fail
      with_reducible refine (HSm0.out _ HX.out).mono ?_
      rintro e w1 ⟨rfl, hb1⟩
      have hX_w1 := HX.out.trans (hb1.mono HX.out.size)
      have HX_w1 := Lib.hid hX_w1
      obtain ⟨kX0_w1, kX1_w1, kX2_w1, kX3_w1⟩ := box2_cells hX_w1
      clear hX_w1
      have z_w1 := HX_w1.out.size
      simp only [World.alloc, Array.size_push] at z_w1
      have hm_w1 := hmW.keep hb1 hmW.size
      clear hb1
      go_wp2_with fail
      with_reducible refine (HSm1.out _ HX_w1.out).mono ?_
      rintro e w2 ⟨rfl, hb2⟩
      have hX_w2 := HX_w1.out.trans (hb2.mono HX_w1.out.size)
      have HX_w2 := Lib.hid hX_w2
      obtain ⟨kX0_w2, kX1_w2, kX2_w2, kX3_w2⟩ := box2_cells hX_w2
      clear hX_w2
      have z_w2 := HX_w2.out.size
      simp only [World.alloc, Array.size_push] at z_w2
      have hm_w2 := hm_w1.keep hb2 hm_w1.size
      clear hb2 kX0_w1 kX1_w1 kX2_w1 kX3_w1
      go_wp2_with fail
      with_reducible refine (HAw.out _ hm_w2).mono ?_
      rintro e w3 ⟨rfl, hb3⟩
      have hX_w3 := HX_w2.out.trans (hb3.mono HX_w2.out.size)
      have HX_w3 := Lib.hid hX_w3
      obtain ⟨kX0_w3, kX1_w3, kX2_w3, kX3_w3⟩ := box2_cells hX_w3
      clear hX_w3
      have z_w3 := HX_w3.out.size
      simp only [World.alloc, Array.size_push] at z_w3
      have hm_w3 := hm_w2.keep hb3 hm_w2.size
      clear hb3 kX0_w2 kX1_w2 kX2_w2 kX3_w2
      go_wp2
      go_ret
      exact ⟨rfl, HAL.out.trans (HX_w3.out.mono HAL.out.size)⟩
    | true =>
      rw [hsm1] at HSm1
      obtain ⟨hn1, he1, hj1, hy1⟩ := small_facts hsm1
      have HE1 := Lib.hid (And.intro he1 hy1)
      clear he1 hy1 hsm1
      have HCk0 := Lib.hid (fun (w' : World) (hb : Below W0.heap.size W0 w') => check_any A0 xs0 c0 b0 _ w' (HK0.out w' hb))
      have HM0 := Lib.hid (fun (t : List UInt8) (ht : t.length ≤ 20000) (w' : World) (hb : Below W0.heap.size W0 w') (hm : MaxL w') => match_any A0 xs0 c0 b0 _ ⟨t.toArray⟩ w' (HK0.out w' hb) (by rw [size_mk]; omega) hm)
      have HCk1 := Lib.hid (fun (w' : World) (hb : Below W0.heap.size W0 w') => check_any A1 xs1 c1 b1 _ w' (HK1.out w' hb))
      have HM1 := Lib.hid (fun (t : List UInt8) (ht : t.length ≤ 20000) (w' : World) (hb : Below W0.heap.size W0 w') (hm : MaxL w') => match_any A1 xs1 c1 b1 _ ⟨t.toArray⟩ w' (HK1.out w' hb) (by rw [size_mk]; omega) hm)
      have HWi := Lib.hid (fun (w' : World) (hb : Below W0.heap.size W0 w') => within_any A0 A1 xs0 xs1 c0 c1 b0 b1 _ _ w' (HK0.out w' hb) (HK1.out w' hb))
      have HWt := Lib.hid (fun (r : Nat) (hr : r ≤ 13) (w' : World) (hb : Below W0.heap.size W0 w') => witness_any A0 A1 xs0 xs1 c0 c1 b0 b1 _ _ r w' (HK0.out w' hb) (HK1.out w' hb) (by omega) (by omega) (fun x hx => Nat.le_trans (HE0.out.2 x hx) (by decide)))
      have HBd := Lib.hid (fun (r : Nat) (hr : r ≤ 13) => wit_bound ⟨bs xs0, b0⟩ ⟨bs xs1, b1⟩ r HE0.out.1 (by show (bs xs0).length ≤ 20; rw [bs_length]; exact hn0) hr)
      have HOwn := Lib.hid (fun (h : Pt.check ⟨bs xs0, b0⟩ = 0) (r : Nat) (hr : if b0 then 1 ≤ r else r = 0) => Pt.wit_matches ⟨bs xs1, b1⟩ h hr)
      have HAll := Lib.hid (fun (h : Pt.check ⟨bs xs0, b0⟩ = 0) (h2 : Pt.check ⟨bs xs1, b1⟩ = 0) => all_say h h2)
      obtain ⟨T, hT⟩ : ∃ T : Nat → List UInt8, T = fun r => Pm.join (Pt.witComps ⟨bs xs0, b0⟩ ⟨bs xs1, b1⟩ r) := ⟨_, rfl⟩
      have hTr : ∀ r, Pm.join (Pt.witComps ⟨bs xs0, b0⟩ ⟨bs xs1, b1⟩ r) = T r := fun r => by rw [hT]
      have hTw : ∀ r, Pm.join (Pt.witOf (bs xs0 ++ List.replicate r [42]) (bs xs1)) = T r := fun r => by rw [hT]; rfl
      simp only [hTr] at HBd HOwn HAll
      simp only [hTw] at HWt
      clear hT hTr hTw
      generalize Pt.within ⟨bs xs0, b0⟩ ⟨bs xs1, b1⟩ = v at *
      generalize Pt.check ⟨bs xs0, b0⟩ = k0 at *
      generalize Pt.check ⟨bs xs1, b1⟩ = k1 at *
      generalize Pt.matchP ⟨bs xs0, b0⟩ = mp at *
      generalize Pt.matchP ⟨bs xs1, b1⟩ = mq at *
      by_cases hk0 : k0 = 0
      · subst hk0
        by_cases hk1 : k1 = 0
        · subst hk1
          have HOw2 := Lib.hid (HOwn.out rfl)
          have HAl2 := Lib.hid (HAll.out rfl rfl)
          clear HOwn HAll
          cases b0 with
          | false =>
            simp only [Bool.false_eq_true, if_false] at HOw2 HAl2
            subst hW0
            clear hal
            go_enter Tryd.func15, Tryd.ntmps15
            go_wp2_with fail
            with_reducible refine (HSm0.out _ HX.out).mono ?_
            rintro e w1 ⟨rfl, hb1⟩
            have hX_w1 := HX.out.trans (hb1.mono HX.out.size)
            have HX_w1 := Lib.hid hX_w1
            obtain ⟨kX0_w1, kX1_w1, kX2_w1, kX3_w1⟩ := box2_cells hX_w1
            clear hX_w1
            have z_w1 := HX_w1.out.size
            simp only [World.alloc, Array.size_push] at z_w1
            have hm_w1 := hmW.keep hb1 hmW.size
            clear hb1
            go_wp2_with fail
            with_reducible refine (HSm1.out _ HX_w1.out).mono ?_
            rintro e w2 ⟨rfl, hb2⟩
            have hX_w2 := HX_w1.out.trans (hb2.mono HX_w1.out.size)
            have HX_w2 := Lib.hid hX_w2
            obtain ⟨kX0_w2, kX1_w2, kX2_w2, kX3_w2⟩ := box2_cells hX_w2
            clear hX_w2
            have z_w2 := HX_w2.out.size
            simp only [World.alloc, Array.size_push] at z_w2
            have hm_w2 := hm_w1.keep hb2 hm_w1.size
            clear hb2 kX0_w1 kX1_w1 kX2_w1 kX3_w1
            go_wp2_with fail
            with_reducible refine (HCk0.out _ HX_w2.out).mono ?_
            rintro e w3 ⟨rfl, hb3⟩
            have hX_w3 := HX_w2.out.trans (hb3.mono HX_w2.out.size)
            have HX_w3 := Lib.hid hX_w3
            obtain ⟨kX0_w3, kX1_w3, kX2_w3, kX3_w3⟩ := box2_cells hX_w3
            clear hX_w3
            have z_w3 := HX_w3.out.size
            simp only [World.alloc, Array.size_push] at z_w3
            have hm_w3 := hm_w2.keep hb3 hm_w2.size
            clear hb3 kX0_w2 kX1_w2 kX2_w2 kX3_w2
            go_wp2_with fail
            with_reducible refine (HCk1.out _ HX_w3.out).mono ?_
            rintro e w4 ⟨rfl, hb4⟩
            have hX_w4 := HX_w3.out.trans (hb4.mono HX_w3.out.size)
            have HX_w4 := Lib.hid hX_w4
            obtain ⟨kX0_w4, kX1_w4, kX2_w4, kX3_w4⟩ := box2_cells hX_w4
            clear hX_w4
            have z_w4 := HX_w4.out.size
            simp only [World.alloc, Array.size_push] at z_w4
            have hm_w4 := hm_w3.keep hb4 hm_w3.size
            clear hb4 kX0_w3 kX1_w3 kX2_w3 kX3_w3
            set_option maxRecDepth 100000 in go_wp2
            go_loopw [7, 8] (fun inv nv wr => ∃ (r : Nat) (acc : Bool), 0 ≤ r ∧ r ≤ 1 ∧ nv = .int .i64 r ∧ inv = .bool acc ∧ (acc = true ↔ ∀ n, 0 ≤ n → n < r → (mq (T n)).isSome = true) ∧ Below (World.heap w4).size w4 wr) (fun _ nv _ => 1 - (intOf nv).toNat)
            case atStart => exact ⟨0, true, by omega, by omega, rfl, rfl, ⟨fun _ n h1 h2 => by omega, fun _ => rfl⟩, Below.refl _ _⟩
            case round =>
              obtain ⟨r, acc, hr1, hr2, rfl, rfl, hacc, hbr⟩ := hrel
              have hXr := HX_w4.out.trans (hbr.mono HX_w4.out.size)
              have HXr := Lib.hid hXr
              obtain ⟨kr0, kr1, kr2, kr3⟩ := box2_cells hXr
              have hmr := hm_w4.keep hbr hm_w4.size
              have HAC := Lib.hid hacc
              have HBR := Lib.hid hbr
              have z_wr := hXr.size
              simp only [World.alloc, Array.size_push] at z_wr
              clear hXr hbr hacc kX0_w4 kX1_w4 kX2_w4 kX3_w4
              have HRr := Lib.hid (Below.refl (World.heap wr).size wr)
              by_cases hlt : r ≤ 0
              · have hli : (r : Int) ≤ 0 := by omega
                have hr13 : r ≤ 13 := by omega
                obtain rfl : r = 0 := by omega
                have hown := HOw2.out 0 (by omega)
                obtain ⟨lo, hlo⟩ := Option.isSome_iff_exists.1 hown
                clear hown
                have HMp := Lib.hid (HM0.out (T 0) (HBd.out 0 hr13))
                rw [hlo] at HMp
                have HMq := Lib.hid (HM1.out (T 0) (HBd.out 0 hr13))
                have hwr := HWt.out 0 hr13
                rw [show ((0 : Nat) : Int) = 0 from rfl] at hwr
                have HWr := Lib.hid hwr
                clear hwr
                generalize hmq : mq (T 0) = om at *
                have HMO := Lib.hid hmq
                clear hlo hmq
                cases om with
                | none =>
                  cases acc
                  all_goals
                    go_wp2_with fail
                    with_reducible refine (HWr.out _ HXr.out).mono ?_
                    rintro e w11 ⟨rfl, hb11⟩
                    have hX_w11 := HXr.out.trans (hb11.mono HXr.out.size)
                    have HX_w11 := Lib.hid hX_w11
                    obtain ⟨kX0_w11, kX1_w11, kX2_w11, kX3_w11⟩ := box2_cells hX_w11
                    clear hX_w11
                    have hR_w11 := HRr.out.trans (hb11.mono HRr.out.size)
                    have HR_w11 := Lib.hid hR_w11
                    clear hR_w11
                    have z_w11 := HX_w11.out.size
                    simp only [World.alloc, Array.size_push] at z_w11
                    have hm_w11 := hmr.keep hb11 hmr.size
                    clear hb11 kr0 kr1 kr2 kr3
                    go_wp2_with fail
                    with_reducible refine (HMp.out _ HX_w11.out hm_w11).mono ?_
                    rintro e w12 ⟨_, rfl, Aa, xsa, ca, rfl, _, _, _, _, hb12⟩
                    have hX_w12 := HX_w11.out.trans (hb12.mono HX_w11.out.size)
                    have HX_w12 := Lib.hid hX_w12
                    obtain ⟨kX0_w12, kX1_w12, kX2_w12, kX3_w12⟩ := box2_cells hX_w12
                    clear hX_w12
                    have hR_w12 := HR_w11.out.trans (hb12.mono HR_w11.out.size)
                    have HR_w12 := Lib.hid hR_w12
                    clear hR_w12
                    have z_w12 := HX_w12.out.size
                    simp only [World.alloc, Array.size_push] at z_w12
                    have hm_w12 := hm_w11.keep hb12 hm_w11.size
                    clear hb12 kX0_w11 kX1_w11 kX2_w11 kX3_w11
                    generalize xsa.length = na
                    go_wp2_with fail
                    with_reducible refine (HMq.out _ HX_w12.out hm_w12).mono ?_
                    rintro e w13 ⟨rfl, hb13⟩
                    have hX_w13 := HX_w12.out.trans (hb13.mono HX_w12.out.size)
                    have HX_w13 := Lib.hid hX_w13
                    obtain ⟨kX0_w13, kX1_w13, kX2_w13, kX3_w13⟩ := box2_cells hX_w13
                    clear hX_w13
                    have hR_w13 := HR_w12.out.trans (hb13.mono HR_w12.out.size)
                    have HR_w13 := Lib.hid hR_w13
                    clear hR_w13
                    have z_w13 := HX_w13.out.size
                    simp only [World.alloc, Array.size_push] at z_w13
                    have hm_w13 := hm_w12.keep hb13 hm_w12.size
                    clear hb13 kX0_w12 kX1_w12 kX2_w12 kX3_w12
                    go_wp2
                    go_roundw
                    case rel =>
                      refine ⟨0 + 1, _, by omega, by omega, by go_num, rfl, ?_, HBR.out.trans (HR_w13.out.mono HBR.out.size)⟩
                      constructor
                      · intro h; first | exact absurd h (by simp) | (simp at h)
                      · intro h; have := h 0 (by omega) (by omega); rw [HMO.out] at this; exact absurd this (by simp)
                    case measure => first | (simp [intOf]; done) | (simp [intOf]; omega)
                | some lm =>
                  cases acc
                  all_goals
                    go_wp2_with fail
                    with_reducible refine (HWr.out _ HXr.out).mono ?_
                    rintro e w11 ⟨rfl, hb11⟩
                    have hX_w11 := HXr.out.trans (hb11.mono HXr.out.size)
                    have HX_w11 := Lib.hid hX_w11
                    obtain ⟨kX0_w11, kX1_w11, kX2_w11, kX3_w11⟩ := box2_cells hX_w11
                    clear hX_w11
                    have hR_w11 := HRr.out.trans (hb11.mono HRr.out.size)
                    have HR_w11 := Lib.hid hR_w11
                    clear hR_w11
                    have z_w11 := HX_w11.out.size
                    simp only [World.alloc, Array.size_push] at z_w11
                    have hm_w11 := hmr.keep hb11 hmr.size
                    clear hb11 kr0 kr1 kr2 kr3
                    go_wp2_with fail
                    with_reducible refine (HMp.out _ HX_w11.out hm_w11).mono ?_
                    rintro e w12 ⟨_, rfl, Aa, xsa, ca, rfl, _, _, _, _, hb12⟩
                    have hX_w12 := HX_w11.out.trans (hb12.mono HX_w11.out.size)
                    have HX_w12 := Lib.hid hX_w12
                    obtain ⟨kX0_w12, kX1_w12, kX2_w12, kX3_w12⟩ := box2_cells hX_w12
                    clear hX_w12
                    have hR_w12 := HR_w11.out.trans (hb12.mono HR_w11.out.size)
                    have HR_w12 := Lib.hid hR_w12
                    clear hR_w12
                    have z_w12 := HX_w12.out.size
                    simp only [World.alloc, Array.size_push] at z_w12
                    have hm_w12 := hm_w11.keep hb12 hm_w11.size
                    clear hb12 kX0_w11 kX1_w11 kX2_w11 kX3_w11
                    generalize xsa.length = na
                    go_wp2_with fail
                    with_reducible refine (HMq.out _ HX_w12.out hm_w12).mono ?_
                    rintro e w13 ⟨_, rfl, Ab, xsb, cb, rfl, _, _, _, _, hb13⟩
                    have hX_w13 := HX_w12.out.trans (hb13.mono HX_w12.out.size)
                    have HX_w13 := Lib.hid hX_w13
                    obtain ⟨kX0_w13, kX1_w13, kX2_w13, kX3_w13⟩ := box2_cells hX_w13
                    clear hX_w13
                    have hR_w13 := HR_w12.out.trans (hb13.mono HR_w12.out.size)
                    have HR_w13 := Lib.hid hR_w13
                    clear hR_w13
                    have z_w13 := HX_w13.out.size
                    simp only [World.alloc, Array.size_push] at z_w13
                    have hm_w13 := hm_w12.keep hb13 hm_w12.size
                    clear hb13 kX0_w12 kX1_w12 kX2_w12 kX3_w12
                    generalize xsb.length = nb
                    go_wp2
                    go_roundw
                    case rel =>
                      refine ⟨0 + 1, _, by omega, by omega, by go_num, rfl, ?_, HBR.out.trans (HR_w13.out.mono HBR.out.size)⟩
                      constructor
                      · intro h n h1 h2
                        rcases Nat.lt_or_ge n 0 with h3 | h3
                        · exact HAC.out.1 (by first | exact h | rfl | trivial) n h1 h3
                        · obtain rfl : n = 0 := by omega
                          rw [HMO.out]
                          rfl
                      · intro h
                        have := HAC.out.2 fun n h1 h2 => h n h1 (by omega)
                        first | exact this | rfl | trivial
                    case measure => first | (simp [intOf]; done) | (simp [intOf]; omega)
              · have hli : ¬ (r : Int) ≤ 0 := by omega
                obtain rfl : r = 1 := by omega
                obtain rfl : acc = v := Bool.eq_iff_iff.2 (HAC.out.trans HAl2.out.symm)
                go_wp2_with fail
                with_reducible refine (HWi.out _ HXr.out).mono ?_
                rintro e w15 ⟨rfl, hb15⟩
                have hX_w15 := HXr.out.trans (hb15.mono HXr.out.size)
                have HX_w15 := Lib.hid hX_w15
                obtain ⟨kX0_w15, kX1_w15, kX2_w15, kX3_w15⟩ := box2_cells hX_w15
                clear hX_w15
                have hR_w15 := HRr.out.trans (hb15.mono HRr.out.size)
                have HR_w15 := Lib.hid hR_w15
                clear hR_w15
                have z_w15 := HX_w15.out.size
                simp only [World.alloc, Array.size_push] at z_w15
                have hm_w15 := hmr.keep hb15 hmr.size
                clear hb15 kr0 kr1 kr2 kr3
                go_wp2_with fail
                with_reducible refine (HAw.out _ hm_w15).mono ?_
                rintro e w16 ⟨rfl, hb16⟩
                have hX_w16 := HX_w15.out.trans (hb16.mono HX_w15.out.size)
                have HX_w16 := Lib.hid hX_w16
                obtain ⟨kX0_w16, kX1_w16, kX2_w16, kX3_w16⟩ := box2_cells hX_w16
                clear hX_w16
                have hR_w16 := HR_w15.out.trans (hb16.mono HR_w15.out.size)
                have HR_w16 := Lib.hid hR_w16
                clear hR_w16
                have z_w16 := HX_w16.out.size
                simp only [World.alloc, Array.size_push] at z_w16
                have hm_w16 := hm_w15.keep hb16 hm_w15.size
                clear hb16 kX0_w15 kX1_w15 kX2_w15 kX3_w15
                go_wp2
                go_ret
                exact ⟨rfl, HAL.out.trans (HX_w16.out.mono HAL.out.size)⟩
          | true =>
            simp only [if_true] at HOw2 HAl2
            subst hW0
            clear hal
            go_enter Tryd.func15, Tryd.ntmps15
            go_wp2_with fail
            with_reducible refine (HSm0.out _ HX.out).mono ?_
            rintro e w1 ⟨rfl, hb1⟩
            have hX_w1 := HX.out.trans (hb1.mono HX.out.size)
            have HX_w1 := Lib.hid hX_w1
            obtain ⟨kX0_w1, kX1_w1, kX2_w1, kX3_w1⟩ := box2_cells hX_w1
            clear hX_w1
            have z_w1 := HX_w1.out.size
            simp only [World.alloc, Array.size_push] at z_w1
            have hm_w1 := hmW.keep hb1 hmW.size
            clear hb1
            go_wp2_with fail
            with_reducible refine (HSm1.out _ HX_w1.out).mono ?_
            rintro e w2 ⟨rfl, hb2⟩
            have hX_w2 := HX_w1.out.trans (hb2.mono HX_w1.out.size)
            have HX_w2 := Lib.hid hX_w2
            obtain ⟨kX0_w2, kX1_w2, kX2_w2, kX3_w2⟩ := box2_cells hX_w2
            clear hX_w2
            have z_w2 := HX_w2.out.size
            simp only [World.alloc, Array.size_push] at z_w2
            have hm_w2 := hm_w1.keep hb2 hm_w1.size
            clear hb2 kX0_w1 kX1_w1 kX2_w1 kX3_w1
            go_wp2_with fail
            with_reducible refine (HCk0.out _ HX_w2.out).mono ?_
            rintro e w3 ⟨rfl, hb3⟩
            have hX_w3 := HX_w2.out.trans (hb3.mono HX_w2.out.size)
            have HX_w3 := Lib.hid hX_w3
            obtain ⟨kX0_w3, kX1_w3, kX2_w3, kX3_w3⟩ := box2_cells hX_w3
            clear hX_w3
            have z_w3 := HX_w3.out.size
            simp only [World.alloc, Array.size_push] at z_w3
            have hm_w3 := hm_w2.keep hb3 hm_w2.size
            clear hb3 kX0_w2 kX1_w2 kX2_w2 kX3_w2
            go_wp2_with fail
            with_reducible refine (HCk1.out _ HX_w3.out).mono ?_
            rintro e w4 ⟨rfl, hb4⟩
            have hX_w4 := HX_w3.out.trans (hb4.mono HX_w3.out.size)
            have HX_w4 := Lib.hid hX_w4
            obtain ⟨kX0_w4, kX1_w4, kX2_w4, kX3_w4⟩ := box2_cells hX_w4
            clear hX_w4
            have z_w4 := HX_w4.out.size
            simp only [World.alloc, Array.size_push] at z_w4
            have hm_w4 := hm_w3.keep hb4 hm_w3.size
            clear hb4 kX0_w3 kX1_w3 kX2_w3 kX3_w3
            set_option maxRecDepth 100000 in go_wp2
            go_loopw [7, 8] (fun inv nv wr => ∃ (r : Nat) (acc : Bool), 1 ≤ r ∧ r ≤ 14 ∧ nv = .int .i64 r ∧ inv = .bool acc ∧ (acc = true ↔ ∀ n, 1 ≤ n → n < r → (mq (T n)).isSome = true) ∧ Below (World.heap w4).size w4 wr) (fun _ nv _ => 14 - (intOf nv).toNat)
            case atStart => exact ⟨1, true, by omega, by omega, rfl, rfl, ⟨fun _ n h1 h2 => by omega, fun _ => rfl⟩, Below.refl _ _⟩
            case round =>
              obtain ⟨r, acc, hr1, hr2, rfl, rfl, hacc, hbr⟩ := hrel
              have hXr := HX_w4.out.trans (hbr.mono HX_w4.out.size)
              have HXr := Lib.hid hXr
              obtain ⟨kr0, kr1, kr2, kr3⟩ := box2_cells hXr
              have hmr := hm_w4.keep hbr hm_w4.size
              have HAC := Lib.hid hacc
              have HBR := Lib.hid hbr
              have z_wr := hXr.size
              simp only [World.alloc, Array.size_push] at z_wr
              clear hXr hbr hacc kX0_w4 kX1_w4 kX2_w4 kX3_w4
              have HRr := Lib.hid (Below.refl (World.heap wr).size wr)
              by_cases hlt : r ≤ 13
              · have hli : (r : Int) ≤ 13 := by omega
                have hr13 : r ≤ 13 := by omega
                have hown := HOw2.out r (by omega)
                obtain ⟨lo, hlo⟩ := Option.isSome_iff_exists.1 hown
                clear hown
                have HMp := Lib.hid (HM0.out (T r) (HBd.out r hr13))
                rw [hlo] at HMp
                have HMq := Lib.hid (HM1.out (T r) (HBd.out r hr13))
                have HWr := Lib.hid (HWt.out r hr13)
                generalize hmq : mq (T r) = om at *
                have HMO := Lib.hid hmq
                clear hlo hmq
                cases om with
                | none =>
                  cases acc
                  all_goals
                    go_wp2_with fail
                    with_reducible refine (HWr.out _ HXr.out).mono ?_
                    rintro e w11 ⟨rfl, hb11⟩
                    have hX_w11 := HXr.out.trans (hb11.mono HXr.out.size)
                    have HX_w11 := Lib.hid hX_w11
                    obtain ⟨kX0_w11, kX1_w11, kX2_w11, kX3_w11⟩ := box2_cells hX_w11
                    clear hX_w11
                    have hR_w11 := HRr.out.trans (hb11.mono HRr.out.size)
                    have HR_w11 := Lib.hid hR_w11
                    clear hR_w11
                    have z_w11 := HX_w11.out.size
                    simp only [World.alloc, Array.size_push] at z_w11
                    have hm_w11 := hmr.keep hb11 hmr.size
                    clear hb11 kr0 kr1 kr2 kr3
                    go_wp2_with fail
                    with_reducible refine (HMp.out _ HX_w11.out hm_w11).mono ?_
                    rintro e w12 ⟨_, rfl, Aa, xsa, ca, rfl, _, _, _, _, hb12⟩
                    have hX_w12 := HX_w11.out.trans (hb12.mono HX_w11.out.size)
                    have HX_w12 := Lib.hid hX_w12
                    obtain ⟨kX0_w12, kX1_w12, kX2_w12, kX3_w12⟩ := box2_cells hX_w12
                    clear hX_w12
                    have hR_w12 := HR_w11.out.trans (hb12.mono HR_w11.out.size)
                    have HR_w12 := Lib.hid hR_w12
                    clear hR_w12
                    have z_w12 := HX_w12.out.size
                    simp only [World.alloc, Array.size_push] at z_w12
                    have hm_w12 := hm_w11.keep hb12 hm_w11.size
                    clear hb12 kX0_w11 kX1_w11 kX2_w11 kX3_w11
                    generalize xsa.length = na
                    go_wp2_with fail
                    with_reducible refine (HMq.out _ HX_w12.out hm_w12).mono ?_
                    rintro e w13 ⟨rfl, hb13⟩
                    have hX_w13 := HX_w12.out.trans (hb13.mono HX_w12.out.size)
                    have HX_w13 := Lib.hid hX_w13
                    obtain ⟨kX0_w13, kX1_w13, kX2_w13, kX3_w13⟩ := box2_cells hX_w13
                    clear hX_w13
                    have hR_w13 := HR_w12.out.trans (hb13.mono HR_w12.out.size)
                    have HR_w13 := Lib.hid hR_w13
                    clear hR_w13
                    have z_w13 := HX_w13.out.size
                    simp only [World.alloc, Array.size_push] at z_w13
                    have hm_w13 := hm_w12.keep hb13 hm_w12.size
                    clear hb13 kX0_w12 kX1_w12 kX2_w12 kX3_w12
                    go_wp2
                    go_roundw
                    case rel =>
                      refine ⟨r + 1, _, by omega, by omega, by go_num, rfl, ?_, HBR.out.trans (HR_w13.out.mono HBR.out.size)⟩
                      constructor
                      · intro h; first | exact absurd h (by simp) | (simp at h)
                      · intro h; have := h r (by omega) (by omega); rw [HMO.out] at this; exact absurd this (by simp)
                    case measure => first | (simp [intOf]; done) | (simp [intOf]; omega)
                | some lm =>
                  cases acc
                  all_goals
                    go_wp2_with fail
                    with_reducible refine (HWr.out _ HXr.out).mono ?_
                    rintro e w11 ⟨rfl, hb11⟩
                    have hX_w11 := HXr.out.trans (hb11.mono HXr.out.size)
                    have HX_w11 := Lib.hid hX_w11
                    obtain ⟨kX0_w11, kX1_w11, kX2_w11, kX3_w11⟩ := box2_cells hX_w11
                    clear hX_w11
                    have hR_w11 := HRr.out.trans (hb11.mono HRr.out.size)
                    have HR_w11 := Lib.hid hR_w11
                    clear hR_w11
                    have z_w11 := HX_w11.out.size
                    simp only [World.alloc, Array.size_push] at z_w11
                    have hm_w11 := hmr.keep hb11 hmr.size
                    clear hb11 kr0 kr1 kr2 kr3
                    go_wp2_with fail
                    with_reducible refine (HMp.out _ HX_w11.out hm_w11).mono ?_
                    rintro e w12 ⟨_, rfl, Aa, xsa, ca, rfl, _, _, _, _, hb12⟩
                    have hX_w12 := HX_w11.out.trans (hb12.mono HX_w11.out.size)
                    have HX_w12 := Lib.hid hX_w12
                    obtain ⟨kX0_w12, kX1_w12, kX2_w12, kX3_w12⟩ := box2_cells hX_w12
                    clear hX_w12
                    have hR_w12 := HR_w11.out.trans (hb12.mono HR_w11.out.size)
                    have HR_w12 := Lib.hid hR_w12
                    clear hR_w12
                    have z_w12 := HX_w12.out.size
                    simp only [World.alloc, Array.size_push] at z_w12
                    have hm_w12 := hm_w11.keep hb12 hm_w11.size
                    clear hb12 kX0_w11 kX1_w11 kX2_w11 kX3_w11
                    generalize xsa.length = na
                    go_wp2_with fail
                    with_reducible refine (HMq.out _ HX_w12.out hm_w12).mono ?_
                    rintro e w13 ⟨_, rfl, Ab, xsb, cb, rfl, _, _, _, _, hb13⟩
                    have hX_w13 := HX_w12.out.trans (hb13.mono HX_w12.out.size)
                    have HX_w13 := Lib.hid hX_w13
                    obtain ⟨kX0_w13, kX1_w13, kX2_w13, kX3_w13⟩ := box2_cells hX_w13
                    clear hX_w13
                    have hR_w13 := HR_w12.out.trans (hb13.mono HR_w12.out.size)
                    have HR_w13 := Lib.hid hR_w13
                    clear hR_w13
                    have z_w13 := HX_w13.out.size
                    simp only [World.alloc, Array.size_push] at z_w13
                    have hm_w13 := hm_w12.keep hb13 hm_w12.size
                    clear hb13 kX0_w12 kX1_w12 kX2_w12 kX3_w12
                    generalize xsb.length = nb
                    go_wp2
                    go_roundw
                    case rel =>
                      refine ⟨r + 1, _, by omega, by omega, by go_num, rfl, ?_, HBR.out.trans (HR_w13.out.mono HBR.out.size)⟩
                      constructor
                      · intro h n h1 h2
                        rcases Nat.lt_or_ge n r with h3 | h3
                        · exact HAC.out.1 (by first | exact h | rfl | trivial) n h1 h3
                        · obtain rfl : n = r := by omega
                          rw [HMO.out]
                          rfl
                      · intro h
                        have := HAC.out.2 fun n h1 h2 => h n h1 (by omega)
                        first | exact this | rfl | trivial
                    case measure => first | (simp [intOf]; done) | (simp [intOf]; omega)
              · have hli : ¬ (r : Int) ≤ 13 := by omega
                obtain rfl : r = 14 := by omega
                obtain rfl : acc = v := Bool.eq_iff_iff.2 (HAC.out.trans HAl2.out.symm)
                go_wp2_with fail
                with_reducible refine (HWi.out _ HXr.out).mono ?_
                rintro e w15 ⟨rfl, hb15⟩
                have hX_w15 := HXr.out.trans (hb15.mono HXr.out.size)
                have HX_w15 := Lib.hid hX_w15
                obtain ⟨kX0_w15, kX1_w15, kX2_w15, kX3_w15⟩ := box2_cells hX_w15
                clear hX_w15
                have hR_w15 := HRr.out.trans (hb15.mono HRr.out.size)
                have HR_w15 := Lib.hid hR_w15
                clear hR_w15
                have z_w15 := HX_w15.out.size
                simp only [World.alloc, Array.size_push] at z_w15
                have hm_w15 := hmr.keep hb15 hmr.size
                clear hb15 kr0 kr1 kr2 kr3
                go_wp2_with fail
                with_reducible refine (HAw.out _ hm_w15).mono ?_
                rintro e w16 ⟨rfl, hb16⟩
                have hX_w16 := HX_w15.out.trans (hb16.mono HX_w15.out.size)
                have HX_w16 := Lib.hid hX_w16
                obtain ⟨kX0_w16, kX1_w16, kX2_w16, kX3_w16⟩ := box2_cells hX_w16
                clear hX_w16
                have hR_w16 := HR_w15.out.trans (hb16.mono HR_w15.out.size)
                have HR_w16 := Lib.hid hR_w16
                clear hR_w16
                have z_w16 := HX_w16.out.size
                simp only [World.alloc, Array.size_push] at z_w16
                have hm_w16 := hm_w15.keep hb16 hm_w15.size
                clear hb16 kX0_w15 kX1_w15 kX2_w15 kX3_w15
                go_wp2
                go_ret
                exact ⟨rfl, HAL.out.trans (HX_w16.out.mono HAL.out.size)⟩
        · have u1 : ((k1 : Int) == 0) = false := by rw [beq_eq_false_iff_ne]; omega
          have u2 : ((k1 : Int) != 0) = true := by rw [bne, u1]; rfl
          subst hW0
          clear hal
          go_enter Tryd.func15, Tryd.ntmps15
          go_wp2_with fail
          with_reducible refine (HSm0.out _ HX.out).mono ?_
          rintro e w1 ⟨rfl, hb1⟩
          have hX_w1 := HX.out.trans (hb1.mono HX.out.size)
          have HX_w1 := Lib.hid hX_w1
          obtain ⟨kX0_w1, kX1_w1, kX2_w1, kX3_w1⟩ := box2_cells hX_w1
          clear hX_w1
          have z_w1 := HX_w1.out.size
          simp only [World.alloc, Array.size_push] at z_w1
          have hm_w1 := hmW.keep hb1 hmW.size
          clear hb1
          go_wp2_with fail
          with_reducible refine (HSm1.out _ HX_w1.out).mono ?_
          rintro e w2 ⟨rfl, hb2⟩
          have hX_w2 := HX_w1.out.trans (hb2.mono HX_w1.out.size)
          have HX_w2 := Lib.hid hX_w2
          obtain ⟨kX0_w2, kX1_w2, kX2_w2, kX3_w2⟩ := box2_cells hX_w2
          clear hX_w2
          have z_w2 := HX_w2.out.size
          simp only [World.alloc, Array.size_push] at z_w2
          have hm_w2 := hm_w1.keep hb2 hm_w1.size
          clear hb2 kX0_w1 kX1_w1 kX2_w1 kX3_w1
          go_wp2_with fail
          with_reducible refine (HCk0.out _ HX_w2.out).mono ?_
          rintro e w3 ⟨rfl, hb3⟩
          have hX_w3 := HX_w2.out.trans (hb3.mono HX_w2.out.size)
          have HX_w3 := Lib.hid hX_w3
          obtain ⟨kX0_w3, kX1_w3, kX2_w3, kX3_w3⟩ := box2_cells hX_w3
          clear hX_w3
          have z_w3 := HX_w3.out.size
          simp only [World.alloc, Array.size_push] at z_w3
          have hm_w3 := hm_w2.keep hb3 hm_w2.size
          clear hb3 kX0_w2 kX1_w2 kX2_w2 kX3_w2
          go_wp2_with fail
          with_reducible refine (HCk1.out _ HX_w3.out).mono ?_
          rintro e w4 ⟨rfl, hb4⟩
          have hX_w4 := HX_w3.out.trans (hb4.mono HX_w3.out.size)
          have HX_w4 := Lib.hid hX_w4
          obtain ⟨kX0_w4, kX1_w4, kX2_w4, kX3_w4⟩ := box2_cells hX_w4
          clear hX_w4
          have z_w4 := HX_w4.out.size
          simp only [World.alloc, Array.size_push] at z_w4
          have hm_w4 := hm_w3.keep hb4 hm_w3.size
          clear hb4 kX0_w3 kX1_w3 kX2_w3 kX3_w3
          go_wp2_with fail
          with_reducible refine (HAw.out _ hm_w4).mono ?_
          rintro e w5 ⟨rfl, hb5⟩
          have hX_w5 := HX_w4.out.trans (hb5.mono HX_w4.out.size)
          have HX_w5 := Lib.hid hX_w5
          obtain ⟨kX0_w5, kX1_w5, kX2_w5, kX3_w5⟩ := box2_cells hX_w5
          clear hX_w5
          have z_w5 := HX_w5.out.size
          simp only [World.alloc, Array.size_push] at z_w5
          have hm_w5 := hm_w4.keep hb5 hm_w4.size
          clear hb5 kX0_w4 kX1_w4 kX2_w4 kX3_w4
          go_wp2
          go_ret
          exact ⟨rfl, HAL.out.trans (HX_w5.out.mono HAL.out.size)⟩
      · have u1 : ((k0 : Int) == 0) = false := by rw [beq_eq_false_iff_ne]; omega
        have u2 : ((k0 : Int) != 0) = true := by rw [bne, u1]; rfl
        subst hW0
        clear hal
        go_enter Tryd.func15, Tryd.ntmps15
        go_wp2_with fail
        with_reducible refine (HSm0.out _ HX.out).mono ?_
        rintro e w1 ⟨rfl, hb1⟩
        have hX_w1 := HX.out.trans (hb1.mono HX.out.size)
        have HX_w1 := Lib.hid hX_w1
        obtain ⟨kX0_w1, kX1_w1, kX2_w1, kX3_w1⟩ := box2_cells hX_w1
        clear hX_w1
        have z_w1 := HX_w1.out.size
        simp only [World.alloc, Array.size_push] at z_w1
        have hm_w1 := hmW.keep hb1 hmW.size
        clear hb1
        go_wp2_with fail
        with_reducible refine (HSm1.out _ HX_w1.out).mono ?_
        rintro e w2 ⟨rfl, hb2⟩
        have hX_w2 := HX_w1.out.trans (hb2.mono HX_w1.out.size)
        have HX_w2 := Lib.hid hX_w2
        obtain ⟨kX0_w2, kX1_w2, kX2_w2, kX3_w2⟩ := box2_cells hX_w2
        clear hX_w2
        have z_w2 := HX_w2.out.size
        simp only [World.alloc, Array.size_push] at z_w2
        have hm_w2 := hm_w1.keep hb2 hm_w1.size
        clear hb2 kX0_w1 kX1_w1 kX2_w1 kX3_w1
        go_wp2_with fail
        with_reducible refine (HCk0.out _ HX_w2.out).mono ?_
        rintro e w3 ⟨rfl, hb3⟩
        have hX_w3 := HX_w2.out.trans (hb3.mono HX_w2.out.size)
        have HX_w3 := Lib.hid hX_w3
        obtain ⟨kX0_w3, kX1_w3, kX2_w3, kX3_w3⟩ := box2_cells hX_w3
        clear hX_w3
        have z_w3 := HX_w3.out.size
        simp only [World.alloc, Array.size_push] at z_w3
        have hm_w3 := hm_w2.keep hb3 hm_w2.size
        clear hb3 kX0_w2 kX1_w2 kX2_w2 kX3_w2
        go_wp2_with fail
        with_reducible refine (HAw.out _ hm_w3).mono ?_
        rintro e w4 ⟨rfl, hb4⟩
        have hX_w4 := HX_w3.out.trans (hb4.mono HX_w3.out.size)
        have HX_w4 := Lib.hid hX_w4
        obtain ⟨kX0_w4, kX1_w4, kX2_w4, kX3_w4⟩ := box2_cells hX_w4
        clear hX_w4
        have z_w4 := HX_w4.out.size
        simp only [World.alloc, Array.size_push] at z_w4
        have hm_w4 := hm_w3.keep hb4 hm_w3.size
        clear hb4 kX0_w3 kX1_w3 kX2_w3 kX3_w3
        go_wp2
        go_ret
        exact ⟨rfl, HAL.out.trans (HX_w4.out.mono HAL.out.size)⟩

end Go.Proofs.YtffjmhdnfkpdpaaDoor.patternOutside
