/- PatternBack returns true at every string and every pattern (the card: the variables that it lists hold what the program text lays). Conditions: none of its own. -/
import Derived.Test.YtffjmhdnfkpdpaaDoorCards
import Derived.Test.YtffjmhdnfkpdpaaDoorTie
import Derived.WalkKit
import Derived.ProofKit
import Derived.OpenShut
import Derived.ShutString
import Derived.Test.YtffjmhdnfkpdpaaDoorPatHeld
import Derived.Test.YtffjmhdnfkpdpaaDoorPatOpen
import Derived.Test.YtffjmhdnfkpdpaaDoorPatFn4
namespace Go.Proofs.YtffjmhdnfkpdpaaDoor.patternBack
open Go.ChangeShapes Go.WideShapes Go.ChangeAt Go.RowKit
open Go.ChangeMaps (open_string shut_string)
set_option linter.unusedVariables false

theorem own : ownKnob Tryd.prog.godebug = none := by kernel_rfl

set_option maxHeartbeats 8000000 in
theorem walk (w : World) (A0 : Option Addr) (xs0 : List ByteArray) (c0 : Nat) (b0 : Bool) (hp0 : PatR w A0 xs0 c0 b0 ⟨bs xs0, b0⟩) (hz0 : ∀ x ∈ xs0, x.size ≤ 140737488355000) (s1 : ByteArray) (w1 : s1.size ≤ maxLen) (hm : MaxL w) :
    Calls Tryd.prog 12 #[patV A0 xs0.length c0 b0, .string s1] w fun e w' => e = .returned (.bool true) ∧ Below w.heap.size w w' := by
  obtain ⟨W0, hW0⟩ : ∃ W0, W0 = (w.alloc (.cells #[.slice A0 xs0.length c0, .bool b0] 25)) := ⟨_, rfl⟩
  have hal : Below w.heap.size w W0 := by rw [hW0]; exact (Below.refl _ _).alloc (Nat.le_refl _) _
  have hmW := hm.keep hal hm.size
  have HK0 := Lib.hid (fun (w' : World) (hb : Below W0.heap.size W0 w') => hp0.keep (hal.trans (hb.mono hal.size)))
  have HAL := Lib.hid hal
  have HX := Lib.hid (Below.refl W0.heap.size W0)
  have HAw := Lib.hid (fun (w : World) (hm : MaxL w) => awake3_any w hm)
  have HSm0 := Lib.hid (fun (w' : World) (hb : Below W0.heap.size W0 w') => small_any A0 xs0 c0 b0 _ w' (HK0.out w' hb) (fun x hx => Nat.le_trans (hz0 x hx) (by decide)))
  cases hsm0 : smallB (bs xs0) with
  | false =>
    rw [hsm0] at HSm0
    subst hW0
    clear hal
    go_enter Tryd.func12, Tryd.ntmps12
    go_wp2_with fail
    with_reducible refine (HSm0.out _ HX.out).mono ?_
    rintro e w1 ⟨rfl, hb1⟩
    have hX_w1 := HX.out.trans (hb1.mono HX.out.size)
    have HX_w1 := Lib.hid hX_w1
    obtain ⟨kX0_w1, kX1_w1⟩ := box_cells hX_w1
    clear hX_w1
    have z_w1 := HX_w1.out.size
    simp only [World.alloc, Array.size_push] at z_w1
    have hm_w1 := hmW.keep hb1 hmW.size
    clear hb1
    go_wp2_with fail
    with_reducible refine (HAw.out _ hm_w1).mono ?_
    rintro e w2 ⟨rfl, hb2⟩
    have hX_w2 := HX_w1.out.trans (hb2.mono HX_w1.out.size)
    have HX_w2 := Lib.hid hX_w2
    obtain ⟨kX0_w2, kX1_w2⟩ := box_cells hX_w2
    clear hX_w2
    have z_w2 := HX_w2.out.size
    simp only [World.alloc, Array.size_push] at z_w2
    have hm_w2 := hm_w1.keep hb2 hm_w1.size
    clear hb2 kX0_w1 kX1_w1
    go_wp2
    go_ret
    exact ⟨rfl, HAL.out.trans (HX_w2.out.mono HAL.out.size)⟩
  | true =>
    rw [hsm0] at HSm0
    obtain ⟨hn0, he0, hj0, hy0⟩ := small_facts hsm0
    have HE0 := Lib.hid (And.intro he0 hy0)
    clear he0 hy0 hsm0
    by_cases h4 : 400 < s1.size
    · have g0 : (400 : Int) < (s1.size : Int) := by omega
      subst hW0
      clear hal
      go_enter Tryd.func12, Tryd.ntmps12
      go_wp2_with fail
      with_reducible refine (HSm0.out _ HX.out).mono ?_
      rintro e w1 ⟨rfl, hb1⟩
      have hX_w1 := HX.out.trans (hb1.mono HX.out.size)
      have HX_w1 := Lib.hid hX_w1
      obtain ⟨kX0_w1, kX1_w1⟩ := box_cells hX_w1
      clear hX_w1
      have z_w1 := HX_w1.out.size
      simp only [World.alloc, Array.size_push] at z_w1
      have hm_w1 := hmW.keep hb1 hmW.size
      clear hb1
      go_wp2_with fail
      with_reducible refine (HAw.out _ hm_w1).mono ?_
      rintro e w2 ⟨rfl, hb2⟩
      have hX_w2 := HX_w1.out.trans (hb2.mono HX_w1.out.size)
      have HX_w2 := Lib.hid hX_w2
      obtain ⟨kX0_w2, kX1_w2⟩ := box_cells hX_w2
      clear hX_w2
      have z_w2 := HX_w2.out.size
      simp only [World.alloc, Array.size_push] at z_w2
      have hm_w2 := hm_w1.keep hb2 hm_w1.size
      clear hb2 kX0_w1 kX1_w1
      go_wp2
      go_ret
      exact ⟨rfl, HAL.out.trans (HX_w2.out.mono HAL.out.size)⟩
    have g0 : ¬ (400 : Int) < (s1.size : Int) := by omega
    have HFo := Lib.hid (fun (w' : World) (hb : Below W0.heap.size W0 w') => format_any A0 xs0 c0 b0 _ w' (HK0.out w' hb) (by show (Lib.join (bs xs0) [47]).length ≤ _; omega) (by omega))
    have htl : (Pt.text ⟨bs xs0, b0⟩).length ≤ 9000 := by
      unfold Pt.text Pm.join
      simp only [List.length_append, List.length_cons]
      split <;> simp <;> omega
    have HFd := Lib.hid (show formatted ⟨bs xs0, b0⟩ = if Pt.check ⟨bs xs0, b0⟩ = 0 then Pt.text ⟨bs xs0, b0⟩ else [] from rfl)
    have HP2 := Lib.hid (fun (w' : World) (hm : MaxL w') => parse_any s1 w' (by omega) hm)
    have HTP := Lib.hid (fun (h : Pt.parseErr s1.data.toList = 0) => Pt.text_parsed h)
    have HL9 := Lib.hid (show s1.data.toList.length ≤ 400 by rw [← Lib.size_eq]; omega)
    have HPT := Lib.hid (fun (h : Pt.check ⟨bs xs0, b0⟩ = 0) => Pt.parse_text h)
    have HP1 := Lib.hid (fun (w' : World) (hm : MaxL w') => parse_any ⟨(Pt.text ⟨bs xs0, b0⟩).toArray⟩ w' (by rw [size_mk]; omega) hm)
    have e0 : (ByteArray.mk (Pt.text ⟨bs xs0, b0⟩).toArray).data.toList = Pt.text ⟨bs xs0, b0⟩ := rfl
    rw [e0] at HP1
    clear e0
    generalize Pt.text ⟨bs xs0, b0⟩ = tx at *
    generalize formatted ⟨bs xs0, b0⟩ = fo at *
    generalize Pt.check ⟨bs xs0, b0⟩ = k at *
    generalize hpe : Pt.parseErr s1.data.toList = k2 at *
    generalize hpd : Pt.parsed s1.data.toList = q2 at *
    by_cases hk : k = 0
    · subst hk
      have hfo : fo = tx := by rw [HFd.out, if_pos rfl]
      subst hfo
      have hpt := HPT.out rfl
      rw [hpt.1, hpt.2] at HP1
      clear hpt
      subst hW0
      clear hal
      go_enter Tryd.func12, Tryd.ntmps12
      go_wp2_with fail
      with_reducible refine (HSm0.out _ HX.out).mono ?_
      rintro e w1 ⟨rfl, hb1⟩
      have hX_w1 := HX.out.trans (hb1.mono HX.out.size)
      have HX_w1 := Lib.hid hX_w1
      obtain ⟨kX0_w1, kX1_w1⟩ := box_cells hX_w1
      clear hX_w1
      have z_w1 := HX_w1.out.size
      simp only [World.alloc, Array.size_push] at z_w1
      have hm_w1 := hmW.keep hb1 hmW.size
      clear hb1
      go_wp2_with fail
      with_reducible refine (HFo.out _ HX_w1.out).mono ?_
      rintro e w2 ⟨rfl, hb2⟩
      have hX_w2 := HX_w1.out.trans (hb2.mono HX_w1.out.size)
      have HX_w2 := Lib.hid hX_w2
      obtain ⟨kX0_w2, kX1_w2⟩ := box_cells hX_w2
      clear hX_w2
      have z_w2 := HX_w2.out.size
      simp only [World.alloc, Array.size_push] at z_w2
      have hm_w2 := hm_w1.keep hb2 hm_w1.size
      clear hb2 kX0_w1 kX1_w1
      go_wp2_with fail
      with_reducible refine (HP1.out _ hm_w2).mono ?_
      rintro e w3 ⟨A1, xs1, c1, b1, rfl, hp1, hb3⟩
      have hX_w3 := HX_w2.out.trans (hb3.mono HX_w2.out.size)
      have HX_w3 := Lib.hid hX_w3
      obtain ⟨kX0_w3, kX1_w3⟩ := box_cells hX_w3
      clear hX_w3
      have z_w3 := HX_w3.out.size
      simp only [World.alloc, Array.size_push] at z_w3
      have hm_w3 := hm_w2.keep hb3 hm_w2.size
      clear hb3 kX0_w2 kX1_w2
      have hxy : xs0 = xs1 := bs_inj hp1.parts.symm
      subst hxy
      obtain rfl : b1 = b0 := hp1.rest
      have ha3 : Below w3.heap.size w3 (w3.alloc (.cells #[.slice A1 xs0.length c1, .bool b1] 25)) := (Below.refl _ _).alloc (Nat.le_refl _) _
      have HX_b3 := Lib.hid (HX_w3.out.trans (ha3.mono HX_w3.out.size))
      obtain ⟨kX0_b3, kX1_b3⟩ := box_cells HX_b3.out
      have hm_b3 := hm_w3.keep ha3 hm_w3.size
      have HBP := Lib.hid (hp1.keep ha3)
      clear hp1
      clear ha3
      have HP := Lib.hid (Below.refl (World.heap (w3.alloc (.cells #[.slice A1 xs0.length c1, .bool b1] 25))).size (w3.alloc (.cells #[.slice A1 xs0.length c1, .bool b1] 25)))
      have q1 := HK0.out _ HX_b3.out
      have q2 := HBP.out.keep HP.out
      have HEq := Lib.hid (requal_any A1 A0 xs0 xs0 c1 c0 _ _ _ q2.rd q1.rd (Nat.le_trans q1.le q1.cm) q2.le q1.le (Nat.le_trans q1.le q1.cm))
      rw [decide_eq_true (rfl : xs0 = xs0)] at HEq
      clear q1 q2
      go_wp2_with fail
      with_reducible refine (HEq.out).mono ?_
      rintro e w4 ⟨rfl, hd4⟩
      have hb4 := hd4.below (World.heap (w3.alloc (.cells #[.slice A1 xs0.length c1, .bool b1] 25))).size
      have hX_w4 := HX_b3.out.trans (hb4.mono HX_b3.out.size)
      have HX_w4 := Lib.hid hX_w4
      obtain ⟨kX0_w4, kX1_w4⟩ := box_cells hX_w4
      clear hX_w4
      have hP_w4 := HP.out.trans (hb4.mono HP.out.size)
      have HP_w4 := Lib.hid hP_w4
      obtain ⟨kP0_w4, kP1_w4⟩ := box_cells hP_w4
      clear hP_w4
      have z_w4 := HX_w4.out.size
      simp only [World.alloc, Array.size_push] at z_w4
      have hm_w4 := hm_b3.keep hb4 hm_b3.size
      clear hb4 kX0_w3 kX1_w3 kX0_b3 kX1_b3
      by_cases hk2 : k2 = 0
      · subst hk2
        have htq := HTP.out rfl
        go_wp2_with fail
        with_reducible refine (HP2.out _ hm_w4).mono ?_
        rintro e w5 ⟨A2, xs2, c2, b2, rfl, hp2, hb5⟩
        have hX_w5 := HX_w4.out.trans (hb5.mono HX_w4.out.size)
        have HX_w5 := Lib.hid hX_w5
        obtain ⟨kX0_w5, kX1_w5⟩ := box_cells hX_w5
        clear hX_w5
        have hP_w5 := HP_w4.out.trans (hb5.mono HP_w4.out.size)
        have HP_w5 := Lib.hid hP_w5
        obtain ⟨kP0_w5, kP1_w5⟩ := box_cells hP_w5
        clear hP_w5
        have z_w5 := HX_w5.out.size
        simp only [World.alloc, Array.size_push] at z_w5
        have hm_w5 := hm_w4.keep hb5 hm_w4.size
        clear hb5 kX0_w4 kX1_w4 kP0_w4 kP1_w4
        have ha5 : Below w5.heap.size w5 (w5.alloc (.cells #[.slice A2 xs2.length c2, .bool b2] 25)) := (Below.refl _ _).alloc (Nat.le_refl _) _
        have HX_b5 := Lib.hid (HX_w5.out.trans (ha5.mono HX_w5.out.size))
        obtain ⟨kX0_b5, kX1_b5⟩ := box_cells HX_b5.out
        have HP_b5 := Lib.hid (HP_w5.out.trans (ha5.mono HP_w5.out.size))
        obtain ⟨kP0_b5, kP1_b5⟩ := box_cells HP_b5.out
        have hm_b5 := hm_w5.keep ha5 hm_w5.size
        have HBQ := Lib.hid (hp2.keep ha5)
        clear hp2
        clear ha5
        have HQ := Lib.hid (Below.refl (World.heap (w5.alloc (.cells #[.slice A2 xs2.length c2, .bool b2] 25))).size (w5.alloc (.cells #[.slice A2 xs2.length c2, .bool b2] 25)))
        have hj2 : (Lib.join q2.parts [47]).length ≤ 400 := by
          have h1 := HL9.out
          rw [← htq.1] at h1
          unfold Pt.text Pm.join at h1
          simp only [List.length_append, List.length_cons] at h1
          omega
        have hx2 : xs2.length ≤ 12 := by rw [← HBQ.out.len]; exact (Pt.check_ok.1 htq.2).2
        have HF2 := Lib.hid (fun (w' : World) (hb : Below (World.heap (w5.alloc (.cells #[.slice A2 xs2.length c2, .bool b2] 25))).size (w5.alloc (.cells #[.slice A2 xs2.length c2, .bool b2] 25)) w') => format_any A2 xs2 c2 b2 _ w' (HBQ.out.keep hb) (by omega) (by omega))
        have hfq : formatted q2 = s1.data.toList := by unfold formatted; rw [if_pos htq.2, htq.1]
        rw [hfq, htq.2] at HF2
        clear hfq htq hj2
        go_wp2_with fail
        with_reducible refine (HF2.out _ HQ.out).mono ?_
        rintro e w6 ⟨he6, hb6⟩
        rw [show (ByteArray.mk s1.data.toList.toArray) = s1 from ba_ext rfl] at he6
        subst he6
        have hX_w6 := HX_b5.out.trans (hb6.mono HX_b5.out.size)
        have HX_w6 := Lib.hid hX_w6
        obtain ⟨kX0_w6, kX1_w6⟩ := box_cells hX_w6
        clear hX_w6
        have hP_w6 := HP_b5.out.trans (hb6.mono HP_b5.out.size)
        have HP_w6 := Lib.hid hP_w6
        obtain ⟨kP0_w6, kP1_w6⟩ := box_cells hP_w6
        clear hP_w6
        have hQ_w6 := HQ.out.trans (hb6.mono HQ.out.size)
        have HQ_w6 := Lib.hid hQ_w6
        obtain ⟨kQ0_w6, kQ1_w6⟩ := box_cells hQ_w6
        clear hQ_w6
        have z_w6 := HX_w6.out.size
        simp only [World.alloc, Array.size_push] at z_w6
        have hm_w6 := hm_b5.keep hb6 hm_b5.size
        clear hb6 kX0_w5 kX1_w5 kP0_w5 kP1_w5 kX0_b5 kX1_b5 kP0_b5 kP1_b5
        go_wp2_with fail
        with_reducible refine (HAw.out _ hm_w6).mono ?_
        rintro e w7 ⟨rfl, hb7⟩
        have hX_w7 := HX_w6.out.trans (hb7.mono HX_w6.out.size)
        have HX_w7 := Lib.hid hX_w7
        obtain ⟨kX0_w7, kX1_w7⟩ := box_cells hX_w7
        clear hX_w7
        have hP_w7 := HP_w6.out.trans (hb7.mono HP_w6.out.size)
        have HP_w7 := Lib.hid hP_w7
        obtain ⟨kP0_w7, kP1_w7⟩ := box_cells hP_w7
        clear hP_w7
        have hQ_w7 := HQ_w6.out.trans (hb7.mono HQ_w6.out.size)
        have HQ_w7 := Lib.hid hQ_w7
        obtain ⟨kQ0_w7, kQ1_w7⟩ := box_cells hQ_w7
        clear hQ_w7
        have z_w7 := HX_w7.out.size
        simp only [World.alloc, Array.size_push] at z_w7
        have hm_w7 := hm_w6.keep hb7 hm_w6.size
        clear hb7 kX0_w6 kX1_w6 kP0_w6 kP1_w6 kQ0_w6 kQ1_w6
        go_wp2
        go_ret
        exact ⟨rfl, HAL.out.trans (HX_w7.out.mono HAL.out.size)⟩
      · have v1 : ((k2 : Int) == 0) = false := by rw [beq_eq_false_iff_ne]; omega
        have v2 : ((k2 : Int) != 0) = true := by rw [bne, v1]; rfl
        go_wp2_with fail
        with_reducible refine (HP2.out _ hm_w4).mono ?_
        rintro e w5 ⟨A2, xs2, c2, b2, rfl, hp2, hb5⟩
        have hX_w5 := HX_w4.out.trans (hb5.mono HX_w4.out.size)
        have HX_w5 := Lib.hid hX_w5
        obtain ⟨kX0_w5, kX1_w5⟩ := box_cells hX_w5
        clear hX_w5
        have hP_w5 := HP_w4.out.trans (hb5.mono HP_w4.out.size)
        have HP_w5 := Lib.hid hP_w5
        obtain ⟨kP0_w5, kP1_w5⟩ := box_cells hP_w5
        clear hP_w5
        have z_w5 := HX_w5.out.size
        simp only [World.alloc, Array.size_push] at z_w5
        have hm_w5 := hm_w4.keep hb5 hm_w4.size
        clear hb5 kX0_w4 kX1_w4 kP0_w4 kP1_w4
        have ha5 : Below w5.heap.size w5 (w5.alloc (.cells #[.slice A2 xs2.length c2, .bool b2] 25)) := (Below.refl _ _).alloc (Nat.le_refl _) _
        have HX_b5 := Lib.hid (HX_w5.out.trans (ha5.mono HX_w5.out.size))
        obtain ⟨kX0_b5, kX1_b5⟩ := box_cells HX_b5.out
        have HP_b5 := Lib.hid (HP_w5.out.trans (ha5.mono HP_w5.out.size))
        obtain ⟨kP0_b5, kP1_b5⟩ := box_cells HP_b5.out
        have hm_b5 := hm_w5.keep ha5 hm_w5.size
        have HBQ := Lib.hid (hp2.keep ha5)
        clear hp2
        clear ha5
        have HQ := Lib.hid (Below.refl (World.heap (w5.alloc (.cells #[.slice A2 xs2.length c2, .bool b2] 25))).size (w5.alloc (.cells #[.slice A2 xs2.length c2, .bool b2] 25)))
        go_wp2_with fail
        with_reducible refine (HAw.out _ hm_b5).mono ?_
        rintro e w6 ⟨rfl, hb6⟩
        have hX_w6 := HX_b5.out.trans (hb6.mono HX_b5.out.size)
        have HX_w6 := Lib.hid hX_w6
        obtain ⟨kX0_w6, kX1_w6⟩ := box_cells hX_w6
        clear hX_w6
        have hP_w6 := HP_b5.out.trans (hb6.mono HP_b5.out.size)
        have HP_w6 := Lib.hid hP_w6
        obtain ⟨kP0_w6, kP1_w6⟩ := box_cells hP_w6
        clear hP_w6
        have hQ_w6 := HQ.out.trans (hb6.mono HQ.out.size)
        have HQ_w6 := Lib.hid hQ_w6
        obtain ⟨kQ0_w6, kQ1_w6⟩ := box_cells hQ_w6
        clear hQ_w6
        have z_w6 := HX_w6.out.size
        simp only [World.alloc, Array.size_push] at z_w6
        have hm_w6 := hm_b5.keep hb6 hm_b5.size
        clear hb6 kX0_w5 kX1_w5 kP0_w5 kP1_w5 kX0_b5 kX1_b5 kP0_b5 kP1_b5
        go_wp2
        go_ret
        exact ⟨rfl, HAL.out.trans (HX_w6.out.mono HAL.out.size)⟩
    · have u1 : ((k : Int) == 0) = false := by rw [beq_eq_false_iff_ne]; omega
      have u2 : ((k : Int) != 0) = true := by rw [bne, u1]; rfl
      subst hW0
      clear hal
      go_enter Tryd.func12, Tryd.ntmps12
      go_wp2_with fail
      with_reducible refine (HSm0.out _ HX.out).mono ?_
      rintro e w1 ⟨rfl, hb1⟩
      have hX_w1 := HX.out.trans (hb1.mono HX.out.size)
      have HX_w1 := Lib.hid hX_w1
      obtain ⟨kX0_w1, kX1_w1⟩ := box_cells hX_w1
      clear hX_w1
      have z_w1 := HX_w1.out.size
      simp only [World.alloc, Array.size_push] at z_w1
      have hm_w1 := hmW.keep hb1 hmW.size
      clear hb1
      go_wp2_with fail
      with_reducible refine (HFo.out _ HX_w1.out).mono ?_
      rintro e w2 ⟨rfl, hb2⟩
      have hX_w2 := HX_w1.out.trans (hb2.mono HX_w1.out.size)
      have HX_w2 := Lib.hid hX_w2
      obtain ⟨kX0_w2, kX1_w2⟩ := box_cells hX_w2
      clear hX_w2
      have z_w2 := HX_w2.out.size
      simp only [World.alloc, Array.size_push] at z_w2
      have hm_w2 := hm_w1.keep hb2 hm_w1.size
      clear hb2 kX0_w1 kX1_w1
      by_cases hk2 : k2 = 0
      · subst hk2
        have htq := HTP.out rfl
        go_wp2_with fail
        with_reducible refine (HP2.out _ hm_w2).mono ?_
        rintro e w3 ⟨A2, xs2, c2, b2, rfl, hp2, hb3⟩
        have hX_w3 := HX_w2.out.trans (hb3.mono HX_w2.out.size)
        have HX_w3 := Lib.hid hX_w3
        obtain ⟨kX0_w3, kX1_w3⟩ := box_cells hX_w3
        clear hX_w3
        have z_w3 := HX_w3.out.size
        simp only [World.alloc, Array.size_push] at z_w3
        have hm_w3 := hm_w2.keep hb3 hm_w2.size
        clear hb3 kX0_w2 kX1_w2
        have ha3 : Below w3.heap.size w3 (w3.alloc (.cells #[.slice A2 xs2.length c2, .bool b2] 25)) := (Below.refl _ _).alloc (Nat.le_refl _) _
        have HX_b3 := Lib.hid (HX_w3.out.trans (ha3.mono HX_w3.out.size))
        obtain ⟨kX0_b3, kX1_b3⟩ := box_cells HX_b3.out
        have hm_b3 := hm_w3.keep ha3 hm_w3.size
        have HBQ := Lib.hid (hp2.keep ha3)
        clear hp2
        clear ha3
        have HQ := Lib.hid (Below.refl (World.heap (w3.alloc (.cells #[.slice A2 xs2.length c2, .bool b2] 25))).size (w3.alloc (.cells #[.slice A2 xs2.length c2, .bool b2] 25)))
        have hj2 : (Lib.join q2.parts [47]).length ≤ 400 := by
          have h1 := HL9.out
          rw [← htq.1] at h1
          unfold Pt.text Pm.join at h1
          simp only [List.length_append, List.length_cons] at h1
          omega
        have hx2 : xs2.length ≤ 12 := by rw [← HBQ.out.len]; exact (Pt.check_ok.1 htq.2).2
        have HF2 := Lib.hid (fun (w' : World) (hb : Below (World.heap (w3.alloc (.cells #[.slice A2 xs2.length c2, .bool b2] 25))).size (w3.alloc (.cells #[.slice A2 xs2.length c2, .bool b2] 25)) w') => format_any A2 xs2 c2 b2 _ w' (HBQ.out.keep hb) (by omega) (by omega))
        have hfq : formatted q2 = s1.data.toList := by unfold formatted; rw [if_pos htq.2, htq.1]
        rw [hfq, htq.2] at HF2
        clear hfq htq hj2
        go_wp2_with fail
        with_reducible refine (HF2.out _ HQ.out).mono ?_
        rintro e w4 ⟨he4, hb4⟩
        rw [show (ByteArray.mk s1.data.toList.toArray) = s1 from ba_ext rfl] at he4
        subst he4
        have hX_w4 := HX_b3.out.trans (hb4.mono HX_b3.out.size)
        have HX_w4 := Lib.hid hX_w4
        obtain ⟨kX0_w4, kX1_w4⟩ := box_cells hX_w4
        clear hX_w4
        have hQ_w4 := HQ.out.trans (hb4.mono HQ.out.size)
        have HQ_w4 := Lib.hid hQ_w4
        obtain ⟨kQ0_w4, kQ1_w4⟩ := box_cells hQ_w4
        clear hQ_w4
        have z_w4 := HX_w4.out.size
        simp only [World.alloc, Array.size_push] at z_w4
        have hm_w4 := hm_b3.keep hb4 hm_b3.size
        clear hb4 kX0_w3 kX1_w3 kX0_b3 kX1_b3
        go_wp2_with fail
        with_reducible refine (HAw.out _ hm_w4).mono ?_
        rintro e w5 ⟨rfl, hb5⟩
        have hX_w5 := HX_w4.out.trans (hb5.mono HX_w4.out.size)
        have HX_w5 := Lib.hid hX_w5
        obtain ⟨kX0_w5, kX1_w5⟩ := box_cells hX_w5
        clear hX_w5
        have hQ_w5 := HQ_w4.out.trans (hb5.mono HQ_w4.out.size)
        have HQ_w5 := Lib.hid hQ_w5
        obtain ⟨kQ0_w5, kQ1_w5⟩ := box_cells hQ_w5
        clear hQ_w5
        have z_w5 := HX_w5.out.size
        simp only [World.alloc, Array.size_push] at z_w5
        have hm_w5 := hm_w4.keep hb5 hm_w4.size
        clear hb5 kX0_w4 kX1_w4 kQ0_w4 kQ1_w4
        go_wp2
        go_ret
        exact ⟨rfl, HAL.out.trans (HX_w5.out.mono HAL.out.size)⟩
      · have v1 : ((k2 : Int) == 0) = false := by rw [beq_eq_false_iff_ne]; omega
        have v2 : ((k2 : Int) != 0) = true := by rw [bne, v1]; rfl
        go_wp2_with fail
        with_reducible refine (HP2.out _ hm_w2).mono ?_
        rintro e w3 ⟨A2, xs2, c2, b2, rfl, hp2, hb3⟩
        have hX_w3 := HX_w2.out.trans (hb3.mono HX_w2.out.size)
        have HX_w3 := Lib.hid hX_w3
        obtain ⟨kX0_w3, kX1_w3⟩ := box_cells hX_w3
        clear hX_w3
        have z_w3 := HX_w3.out.size
        simp only [World.alloc, Array.size_push] at z_w3
        have hm_w3 := hm_w2.keep hb3 hm_w2.size
        clear hb3 kX0_w2 kX1_w2
        have ha3 : Below w3.heap.size w3 (w3.alloc (.cells #[.slice A2 xs2.length c2, .bool b2] 25)) := (Below.refl _ _).alloc (Nat.le_refl _) _
        have HX_b3 := Lib.hid (HX_w3.out.trans (ha3.mono HX_w3.out.size))
        obtain ⟨kX0_b3, kX1_b3⟩ := box_cells HX_b3.out
        have hm_b3 := hm_w3.keep ha3 hm_w3.size
        have HBQ := Lib.hid (hp2.keep ha3)
        clear hp2
        clear ha3
        have HQ := Lib.hid (Below.refl (World.heap (w3.alloc (.cells #[.slice A2 xs2.length c2, .bool b2] 25))).size (w3.alloc (.cells #[.slice A2 xs2.length c2, .bool b2] 25)))
        go_wp2_with fail
        with_reducible refine (HAw.out _ hm_b3).mono ?_
        rintro e w4 ⟨rfl, hb4⟩
        have hX_w4 := HX_b3.out.trans (hb4.mono HX_b3.out.size)
        have HX_w4 := Lib.hid hX_w4
        obtain ⟨kX0_w4, kX1_w4⟩ := box_cells hX_w4
        clear hX_w4
        have hQ_w4 := HQ.out.trans (hb4.mono HQ.out.size)
        have HQ_w4 := Lib.hid hQ_w4
        obtain ⟨kQ0_w4, kQ1_w4⟩ := box_cells hQ_w4
        clear hQ_w4
        have z_w4 := HX_w4.out.size
        simp only [World.alloc, Array.size_push] at z_w4
        have hm_w4 := hm_b3.keep hb4 hm_b3.size
        clear hb4 kX0_w3 kX1_w3 kX0_b3 kX1_b3
        go_wp2
        go_ret
        exact ⟨rfl, HAL.out.trans (HX_w4.out.mono HAL.out.size)⟩

set_option maxRecDepth 1000000 in
theorem lifted (os : Os) (started : os.Started) (H : Type) (enc : TypeId × Value → H) :
    ReturnsInHanded {} Tryd.checked os 12 .any (fun w args => (Rows.patternBackSpec.pre enc Tryd.prog Tryd.f12 Rows.patternBackRow.domain false w args ∧ laidMetH Tryd.prog Rows.patternBackRow.laid w) ∧ sizedMet enc Tryd.prog Tryd.f12 (OpenSpec.ofChange Rows.patternBackSpec) false w args)
      (Rows.patternBackSpec.post enc Tryd.prog Tryd.f12 false true false false) := by
  refine sizedWrap own started (by kernel_rfl) Tryd.func12
    (ChangeSpec.witness_shaped (enc := enc) (C := Tryd.checked) (os := os) (X := fun w _ => laidMetH Tryd.prog Rows.patternBackRow.laid w) false (World.laidAll Tryd.prog os Rows.patternBackRow.laid) #[.agg #[.slice none 0 0, .bool false], .string ByteArray.empty] 8 (World.laidAll_os _ _ _)
      (World.shaped_of_ZipB (by kernel_rfl) (by kernel_rfl)) (by kernel_rfl) (by kernel_rfl) (by kernel_rfl)
      (by rw [MakeChecks.laidMetH_plain _ _ _ (by kernel_rfl)]; exact laidMet_laidAll _ (by kernel_rfl) (by kernel_rfl))) ?_
  intro W base args ds gs before hval0 hW hsh hsz
  have hval : ∀ (j : Nat) t v, Tryd.f12.params[j]? = some t → args[j]? = some v → Value.okWide Tryd.prog W .any base t v := hval0
  have hW' := hW
  obtain ⟨p, q, hA0, hV, rfl, hfz, hnd⟩ := hW
  have hA : DataW.TrodAll enc Tryd.prog W 0 (fun _ => true) true Tryd.f12.params.toList args.toList ds p := hA0
  rw [Tryd.params12] at hA hval
  obtain ⟨v0, vs0, d0, ds0, p0, q0, hargs, rfl, rfl, h0, r0⟩ := trodAll_cons hA
  obtain ⟨v1, vs1, d1, ds1, p1, q1, rfl, rfl, rfl, h1, r1⟩ := trodAll_cons r0
  obtain ⟨rfl, rfl, rfl⟩ := trodAll_nil r1
  obtain rfl : args = #[v0, v1] := by cases args; simp_all
  obtain ⟨rfl, rfl⟩ := trodVars_none hV
  have k0 := h0
  have lt0 : ∀ x ∈ p0, x.block < W.heap.size := by obtain ⟨m, hm⟩ := k0; exact DataW.trod_lt m _ _ _ hm
  obtain ⟨A0, xs0, c0, b0, rfl, hp0, hz0⟩ := open_pat (hval 0 25 v0 rfl rfl) h0 (weighed hsz (j := 0) rfl rfl)
  obtain ⟨s1, rfl, rfl, rfl, w1⟩ := open_string Tryd.underlying9 (hval 1 9 v1 rfl rfl) h1
  clear hA0 hval0
  refine (walk W A0 xs0 c0 b0 hp0 hz0 s1 w1 (maxl_of W hsh)).mono fun e W' ⟨he, bel⟩ => ?_
  subst he
  exact ⟨_, rfl, _, _, _, [], _, [], hW', trodAll_mk1 (shut_bool Tryd.underlying4 _), (trodAll_cons_mk (Below.trod laidOutW (by kernel_rfl) (of_decide_eq_true (by kernel_rfl)) k0 bel lt0) (trodAll_cons_mk (shut_string Tryd.underlying9 w1) trodAll_mk0)), rfl, bel.frame _, fun h => by cases h⟩

theorem over : Rows.patternBackRow.holds Tryd.pinned (OpenSpec.ofChange Rows.patternBackSpec) :=
  OpenClaim.holds_of_wide 12 Tryd.f12 rfl rfl rfl rfl rfl rfl rfl ⟨rfl, rfl, rfl, rfl, rfl⟩ rfl rfl rfl rfl rfl (by kernel_rfl) Tryd.func12 (by kernel_rfl)
    (of_decide_eq_true (by kernel_rfl)) (by unfold Func.isWrapper; first | (rw [if_pos (by decide +kernel)]; kernel_rfl) | (rw [if_neg (by decide +kernel)]; exact ⟨rfl, rfl⟩))
    (fun os started H enc _ => lifted os started H enc)

theorem proved : Rows.PatternBackCardSaid :=
  Claim7.holds_tied_plain_at .later [] [.data, .pinned] true (true, "0930791aa66c17d9d77aa9bf9557ef32a5df6c816373c8e2ac5b4cc8f9cdf204") false over (fun _ h => by cases h) (by kernel_rfl) (fun _ h => by cases h) patternBack_row_tie rfl ⟨rfl, rfl⟩ (by kernel_rfl) rfl
    (fun f fn hf hfn => by
      obtain rfl : f = 12 := Option.some.inj ((show Tryd.prog.funcNamed Rows.patternBackRow.func = some 12 by kernel_rfl).symm.trans hf) |>.symm
      obtain rfl : fn = Tryd.f12 := (Option.some.inj (Tryd.func12.symm.trans hfn)).symm
      exact ⟨by kernel_rfl, fun j t ht => by
        rw [Tryd.params12] at ht
        have hm : t ∈ [25, 9] := by simpa using Array.mem_of_getElem? ht
        have hall : ([25, 9].all fun u => !Tryd.prog.wantsStandIn u) = true := by kernel_rfl
        exact (show Tryd.prog.wantsStandIn t = false by simpa using List.all_eq_true.1 hall t hm)⟩)
    (by kernel_rfl)
#print axioms proved
end Go.Proofs.YtffjmhdnfkpdpaaDoor.patternBack
