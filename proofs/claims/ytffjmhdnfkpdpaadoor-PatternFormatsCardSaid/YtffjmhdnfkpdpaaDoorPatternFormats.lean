/- PatternFormats returns true at every pattern (the card: the variables that it lists hold what the program text lays). Conditions: none of its own. -/
import Derived.Test.YtffjmhdnfkpdpaaDoorCards
import Derived.Test.YtffjmhdnfkpdpaaDoorTie
import Derived.WalkKit
import Derived.ProofKit
import Derived.OpenShut
import Derived.ShutString
import Derived.Test.YtffjmhdnfkpdpaaDoorPatHeld
import Derived.Test.YtffjmhdnfkpdpaaDoorPatOpen
import Derived.Test.YtffjmhdnfkpdpaaDoorPatFn10
namespace Go.Proofs.YtffjmhdnfkpdpaaDoor.patternFormats
open Go.ChangeShapes Go.WideShapes Go.ChangeAt Go.RowKit
open Go.ChangeMaps (open_string shut_string)
set_option linter.unusedVariables false

theorem own : ownKnob Tryd.prog.godebug = none := by kernel_rfl

set_option maxHeartbeats 8000000 in
theorem walk (w : World) (A0 : Option Addr) (xs0 : List ByteArray) (c0 : Nat) (b0 : Bool) (hp0 : PatR w A0 xs0 c0 b0 ⟨bs xs0, b0⟩) (hz0 : ∀ x ∈ xs0, x.size ≤ 140737488355000) (hm : MaxL w) :
    Calls Tryd.prog 4 #[patV A0 xs0.length c0 b0] w fun e w' => e = .returned (.bool true) ∧ Below w.heap.size w w' := by
  obtain ⟨W0, hW0⟩ : ∃ W0, W0 = (w.alloc (.cells #[.slice A0 xs0.length c0, .bool b0] 25)) := ⟨_, rfl⟩
  have hal : Below w.heap.size w W0 := by rw [hW0]; exact (Below.refl _ _).alloc (Nat.le_refl _) _
  have hmW := hm.keep hal hm.size
  have HK0 := Lib.hid (fun (w' : World) (hb : Below W0.heap.size W0 w') => hp0.keep (hal.trans (hb.mono hal.size)))
  have HAL := Lib.hid hal
  have HX := Lib.hid (Below.refl W0.heap.size W0)
  have HAw := Lib.hid (fun (w : World) (hm : MaxL w) => awake3_any w hm)
  have HSm0 := Lib.hid (fun (w' : World) (hb : Below W0.heap.size W0 w') => small_any A0 xs0 c0 b0 _ w' (HK0.out w' hb) (fun x hx => Nat.le_trans (hz0 x hx) (by decide)))
  cases hsm0 : smallB (bs xs0) with
  | false =>
    rw [hsm0] at HSm0
    subst hW0
    clear hal
    go_enter Tryd.func4, Tryd.ntmps4
    go_wp2_with fail
    with_reducible refine (HSm0.out _ HX.out).mono ?_
    rintro e w1 ⟨rfl, hb1⟩
    have hX_w1 := HX.out.trans (hb1.mono HX.out.size)
    have HX_w1 := Lib.hid hX_w1
    obtain ⟨kX0_w1, kX1_w1⟩ := box_cells hX_w1
    clear hX_w1
    have z_w1 := HX_w1.out.size
    simp only [World.alloc, Array.size_push] at z_w1
    have hm_w1 := hmW.keep hb1 hmW.size
    clear hb1
    go_wp2_with fail
    with_reducible refine (HAw.out _ hm_w1).mono ?_
    rintro e w2 ⟨rfl, hb2⟩
    have hX_w2 := HX_w1.out.trans (hb2.mono HX_w1.out.size)
    have HX_w2 := Lib.hid hX_w2
    obtain ⟨kX0_w2, kX1_w2⟩ := box_cells hX_w2
    clear hX_w2
    have z_w2 := HX_w2.out.size
    simp only [World.alloc, Array.size_push] at z_w2
    have hm_w2 := hm_w1.keep hb2 hm_w1.size
    clear hb2 kX0_w1 kX1_w1
    go_wp2
    go_ret
    exact ⟨rfl, HAL.out.trans (HX_w2.out.mono HAL.out.size)⟩
  | true =>
    rw [hsm0] at HSm0
    obtain ⟨hn0, he0, hj0, hy0⟩ := small_facts hsm0
    have HE0 := Lib.hid (And.intro he0 hy0)
    clear he0 hy0 hsm0
    have HCp := Lib.hid (fun (w' : World) (hb : Below W0.heap.size W0 w') => copied_any A0 xs0 c0 b0 _ w' (HK0.out w' hb) (by omega))
    have HFo := Lib.hid (fun (w' : World) (hb : Below W0.heap.size W0 w') => format_any A0 xs0 c0 b0 _ w' (HK0.out w' hb) (by show (Lib.join (bs xs0) [47]).length ≤ _; omega) (by omega))
    have HRc := Lib.hid (fun (w' : World) (hb : Below W0.heap.size W0 w') => rcheck_any A0 xs0 c0 b0 _ w' (HK0.out w' hb))
    have HCk := Lib.hid (fun (w' : World) (hb : Below W0.heap.size W0 w') => check_any A0 xs0 c0 b0 _ w' (HK0.out w' hb))
    have HTx := Lib.hid (fun (w' : World) (hb : Below W0.heap.size W0 w') => rtext_any A0 xs0 c0 b0 _ w' (HK0.out w' hb) (by show (Lib.join (bs xs0) [47]).length ≤ _; omega) (by omega))
    have htl : (Pt.text ⟨bs xs0, b0⟩).length ≤ 9000 := by
      unfold Pt.text Pm.join
      simp only [List.length_append, List.length_cons]
      split <;> simp <;> omega
    have HFd := Lib.hid (show formatted ⟨bs xs0, b0⟩ = if Pt.check ⟨bs xs0, b0⟩ = 0 then Pt.text ⟨bs xs0, b0⟩ else [] from rfl)
    generalize Pt.text ⟨bs xs0, b0⟩ = tx at *
    generalize formatted ⟨bs xs0, b0⟩ = fo at *
    generalize Pt.check ⟨bs xs0, b0⟩ = k at *
    have hsame : samePat b0 b0 xs0 xs0 = true := by simp [samePat]
    have HSame := Lib.hid hsame
    clear hsame
    by_cases hk : k = 0
    · subst hk
      have hfo : fo = tx := by rw [HFd.out, if_pos rfl]
      subst hfo
      subst hW0
      clear hal
      go_enter Tryd.func4, Tryd.ntmps4
      go_wp2_with fail
      with_reducible refine (HSm0.out _ HX.out).mono ?_
      rintro e w1 ⟨rfl, hb1⟩
      have hX_w1 := HX.out.trans (hb1.mono HX.out.size)
      have HX_w1 := Lib.hid hX_w1
      obtain ⟨kX0_w1, kX1_w1⟩ := box_cells hX_w1
      clear hX_w1
      have z_w1 := HX_w1.out.size
      simp only [World.alloc, Array.size_push] at z_w1
      have hm_w1 := hmW.keep hb1 hmW.size
      clear hb1
      go_wp2_with fail
      with_reducible refine (HCp.out _ HX_w1.out).mono ?_
      rintro e w2 ⟨B, d, rfl, hpc, hb2⟩
      have hX_w2 := HX_w1.out.trans (hb2.mono HX_w1.out.size)
      have HX_w2 := Lib.hid hX_w2
      obtain ⟨kX0_w2, kX1_w2⟩ := box_cells hX_w2
      clear hX_w2
      have z_w2 := HX_w2.out.size
      simp only [World.alloc, Array.size_push] at z_w2
      have hm_w2 := hm_w1.keep hb2 hm_w1.size
      clear hb2 kX0_w1 kX1_w1
      have ha2 : Below w2.heap.size w2 (w2.alloc (.cells #[.slice B xs0.length d, .bool b0] 25)) := (Below.refl _ _).alloc (Nat.le_refl _) _
      have HX_b2 := Lib.hid (HX_w2.out.trans (ha2.mono HX_w2.out.size))
      obtain ⟨kX0_b2, kX1_b2⟩ := box_cells HX_b2.out
      have hm_b2 := hm_w2.keep ha2 hm_w2.size
      have HBC := Lib.hid (hpc.keep ha2)
      clear hpc
      clear ha2
      have HC := Lib.hid (Below.refl (World.heap (w2.alloc (.cells #[.slice B xs0.length d, .bool b0] 25))).size (w2.alloc (.cells #[.slice B xs0.length d, .bool b0] 25)))
      go_wp2_with fail
      with_reducible refine (HFo.out _ HX_b2.out).mono ?_
      rintro e w3 ⟨rfl, hb3⟩
      have hX_w3 := HX_b2.out.trans (hb3.mono HX_b2.out.size)
      have HX_w3 := Lib.hid hX_w3
      obtain ⟨kX0_w3, kX1_w3⟩ := box_cells hX_w3
      clear hX_w3
      have hC_w3 := HC.out.trans (hb3.mono HC.out.size)
      have HC_w3 := Lib.hid hC_w3
      obtain ⟨kC0_w3, kC1_w3⟩ := box_cells hC_w3
      clear hC_w3
      have z_w3 := HX_w3.out.size
      simp only [World.alloc, Array.size_push] at z_w3
      have hm_w3 := hm_b2.keep hb3 hm_b2.size
      clear hb3 kX0_w2 kX1_w2 kX0_b2 kX1_b2
      go_wp2_with fail
      with_reducible refine (HRc.out _ HX_w3.out).mono ?_
      rintro e w4 ⟨rfl, hb4⟩
      have hX_w4 := HX_w3.out.trans (hb4.mono HX_w3.out.size)
      have HX_w4 := Lib.hid hX_w4
      obtain ⟨kX0_w4, kX1_w4⟩ := box_cells hX_w4
      clear hX_w4
      have hC_w4 := HC_w3.out.trans (hb4.mono HC_w3.out.size)
      have HC_w4 := Lib.hid hC_w4
      obtain ⟨kC0_w4, kC1_w4⟩ := box_cells hC_w4
      clear hC_w4
      have z_w4 := HX_w4.out.size
      simp only [World.alloc, Array.size_push] at z_w4
      have hm_w4 := hm_w3.keep hb4 hm_w3.size
      clear hb4 kX0_w3 kX1_w3 kC0_w3 kC1_w3
      have q1 := HK0.out _ HX_w4.out
      have q2 := HBC.out.keep HC_w4.out
      have HSa := Lib.hid (rsame_any A0 B xs0 xs0 c0 d _ _ b0 b0 _ q1.rd q2.rd (Nat.le_refl _) (Nat.le_refl _) (Nat.le_trans q1.le q1.cm) q1.le q2.le (Nat.le_trans q2.le q2.cm))
      rw [HSame.out] at HSa
      clear q1 q2
      go_wp2_with fail
      with_reducible refine (HSa.out).mono ?_
      rintro e w5 ⟨rfl, hb5⟩
      have hX_w5 := HX_w4.out.trans (hb5.mono HX_w4.out.size)
      have HX_w5 := Lib.hid hX_w5
      obtain ⟨kX0_w5, kX1_w5⟩ := box_cells hX_w5
      clear hX_w5
      have hC_w5 := HC_w4.out.trans (hb5.mono HC_w4.out.size)
      have HC_w5 := Lib.hid hC_w5
      obtain ⟨kC0_w5, kC1_w5⟩ := box_cells hC_w5
      clear hC_w5
      have z_w5 := HX_w5.out.size
      simp only [World.alloc, Array.size_push] at z_w5
      have hm_w5 := hm_w4.keep hb5 hm_w4.size
      clear hb5 kX0_w4 kX1_w4 kC0_w4 kC1_w4
      go_wp2_with fail
      with_reducible refine (HCk.out _ HX_w5.out).mono ?_
      rintro e w6 ⟨rfl, hb6⟩
      have hX_w6 := HX_w5.out.trans (hb6.mono HX_w5.out.size)
      have HX_w6 := Lib.hid hX_w6
      obtain ⟨kX0_w6, kX1_w6⟩ := box_cells hX_w6
      clear hX_w6
      have hC_w6 := HC_w5.out.trans (hb6.mono HC_w5.out.size)
      have HC_w6 := Lib.hid hC_w6
      obtain ⟨kC0_w6, kC1_w6⟩ := box_cells hC_w6
      clear hC_w6
      have z_w6 := HX_w6.out.size
      simp only [World.alloc, Array.size_push] at z_w6
      have hm_w6 := hm_w5.keep hb6 hm_w5.size
      clear hb6 kX0_w5 kX1_w5 kC0_w5 kC1_w5
      go_wp2_with fail
      with_reducible refine (HTx.out _ HX_w6.out).mono ?_
      rintro e w7 ⟨rfl, hb7⟩
      have hX_w7 := HX_w6.out.trans (hb7.mono HX_w6.out.size)
      have HX_w7 := Lib.hid hX_w7
      obtain ⟨kX0_w7, kX1_w7⟩ := box_cells hX_w7
      clear hX_w7
      have hC_w7 := HC_w6.out.trans (hb7.mono HC_w6.out.size)
      have HC_w7 := Lib.hid hC_w7
      obtain ⟨kC0_w7, kC1_w7⟩ := box_cells hC_w7
      clear hC_w7
      have z_w7 := HX_w7.out.size
      simp only [World.alloc, Array.size_push] at z_w7
      have hm_w7 := hm_w6.keep hb7 hm_w6.size
      clear hb7 kX0_w6 kX1_w6 kC0_w6 kC1_w6
      go_wp2_with fail
      with_reducible refine (HAw.out _ hm_w7).mono ?_
      rintro e w8 ⟨rfl, hb8⟩
      have hX_w8 := HX_w7.out.trans (hb8.mono HX_w7.out.size)
      have HX_w8 := Lib.hid hX_w8
      obtain ⟨kX0_w8, kX1_w8⟩ := box_cells hX_w8
      clear hX_w8
      have hC_w8 := HC_w7.out.trans (hb8.mono HC_w7.out.size)
      have HC_w8 := Lib.hid hC_w8
      obtain ⟨kC0_w8, kC1_w8⟩ := box_cells hC_w8
      clear hC_w8
      have z_w8 := HX_w8.out.size
      simp only [World.alloc, Array.size_push] at z_w8
      have hm_w8 := hm_w7.keep hb8 hm_w7.size
      clear hb8 kX0_w7 kX1_w7 kC0_w7 kC1_w7
      go_wp2
      go_ret
      exact ⟨rfl, HAL.out.trans (HX_w8.out.mono HAL.out.size)⟩
    · have hfo : fo = [] := by rw [HFd.out, if_neg hk]
      subst hfo
      have u1 : ((k : Int) == 0) = false := by rw [beq_eq_false_iff_ne]; omega
      have u2 : ((k : Int) != 0) = true := by rw [bne, u1]; rfl
      subst hW0
      clear hal
      go_enter Tryd.func4, Tryd.ntmps4
      go_wp2_with fail
      with_reducible refine (HSm0.out _ HX.out).mono ?_
      rintro e w1 ⟨rfl, hb1⟩
      have hX_w1 := HX.out.trans (hb1.mono HX.out.size)
      have HX_w1 := Lib.hid hX_w1
      obtain ⟨kX0_w1, kX1_w1⟩ := box_cells hX_w1
      clear hX_w1
      have z_w1 := HX_w1.out.size
      simp only [World.alloc, Array.size_push] at z_w1
      have hm_w1 := hmW.keep hb1 hmW.size
      clear hb1
      go_wp2_with fail
      with_reducible refine (HCp.out _ HX_w1.out).mono ?_
      rintro e w2 ⟨B, d, rfl, hpc, hb2⟩
      have hX_w2 := HX_w1.out.trans (hb2.mono HX_w1.out.size)
      have HX_w2 := Lib.hid hX_w2
      obtain ⟨kX0_w2, kX1_w2⟩ := box_cells hX_w2
      clear hX_w2
      have z_w2 := HX_w2.out.size
      simp only [World.alloc, Array.size_push] at z_w2
      have hm_w2 := hm_w1.keep hb2 hm_w1.size
      clear hb2 kX0_w1 kX1_w1
      have ha2 : Below w2.heap.size w2 (w2.alloc (.cells #[.slice B xs0.length d, .bool b0] 25)) := (Below.refl _ _).alloc (Nat.le_refl _) _
      have HX_b2 := Lib.hid (HX_w2.out.trans (ha2.mono HX_w2.out.size))
      obtain ⟨kX0_b2, kX1_b2⟩ := box_cells HX_b2.out
      have hm_b2 := hm_w2.keep ha2 hm_w2.size
      have HBC := Lib.hid (hpc.keep ha2)
      clear hpc
      clear ha2
      have HC := Lib.hid (Below.refl (World.heap (w2.alloc (.cells #[.slice B xs0.length d, .bool b0] 25))).size (w2.alloc (.cells #[.slice B xs0.length d, .bool b0] 25)))
      go_wp2_with fail
      with_reducible refine (HFo.out _ HX_b2.out).mono ?_
      rintro e w3 ⟨rfl, hb3⟩
      have hX_w3 := HX_b2.out.trans (hb3.mono HX_b2.out.size)
      have HX_w3 := Lib.hid hX_w3
      obtain ⟨kX0_w3, kX1_w3⟩ := box_cells hX_w3
      clear hX_w3
      have hC_w3 := HC.out.trans (hb3.mono HC.out.size)
      have HC_w3 := Lib.hid hC_w3
      obtain ⟨kC0_w3, kC1_w3⟩ := box_cells hC_w3
      clear hC_w3
      have z_w3 := HX_w3.out.size
      simp only [World.alloc, Array.size_push] at z_w3
      have hm_w3 := hm_b2.keep hb3 hm_b2.size
      clear hb3 kX0_w2 kX1_w2 kX0_b2 kX1_b2
      go_wp2_with fail
      with_reducible refine (HRc.out _ HX_w3.out).mono ?_
      rintro e w4 ⟨rfl, hb4⟩
      have hX_w4 := HX_w3.out.trans (hb4.mono HX_w3.out.size)
      have HX_w4 := Lib.hid hX_w4
      obtain ⟨kX0_w4, kX1_w4⟩ := box_cells hX_w4
      clear hX_w4
      have hC_w4 := HC_w3.out.trans (hb4.mono HC_w3.out.size)
      have HC_w4 := Lib.hid hC_w4
      obtain ⟨kC0_w4, kC1_w4⟩ := box_cells hC_w4
      clear hC_w4
      have z_w4 := HX_w4.out.size
      simp only [World.alloc, Array.size_push] at z_w4
      have hm_w4 := hm_w3.keep hb4 hm_w3.size
      clear hb4 kX0_w3 kX1_w3 kC0_w3 kC1_w3
      have q1 := HK0.out _ HX_w4.out
      have q2 := HBC.out.keep HC_w4.out
      have HSa := Lib.hid (rsame_any A0 B xs0 xs0 c0 d _ _ b0 b0 _ q1.rd q2.rd (Nat.le_refl _) (Nat.le_refl _) (Nat.le_trans q1.le q1.cm) q1.le q2.le (Nat.le_trans q2.le q2.cm))
      rw [HSame.out] at HSa
      clear q1 q2
      go_wp2_with fail
      with_reducible refine (HSa.out).mono ?_
      rintro e w5 ⟨rfl, hb5⟩
      have hX_w5 := HX_w4.out.trans (hb5.mono HX_w4.out.size)
      have HX_w5 := Lib.hid hX_w5
      obtain ⟨kX0_w5, kX1_w5⟩ := box_cells hX_w5
      clear hX_w5
      have hC_w5 := HC_w4.out.trans (hb5.mono HC_w4.out.size)
      have HC_w5 := Lib.hid hC_w5
      obtain ⟨kC0_w5, kC1_w5⟩ := box_cells hC_w5
      clear hC_w5
      have z_w5 := HX_w5.out.size
      simp only [World.alloc, Array.size_push] at z_w5
      have hm_w5 := hm_w4.keep hb5 hm_w4.size
      clear hb5 kX0_w4 kX1_w4 kC0_w4 kC1_w4
      go_wp2_with fail
      with_reducible refine (HCk.out _ HX_w5.out).mono ?_
      rintro e w6 ⟨rfl, hb6⟩
      have hX_w6 := HX_w5.out.trans (hb6.mono HX_w5.out.size)
      have HX_w6 := Lib.hid hX_w6
      obtain ⟨kX0_w6, kX1_w6⟩ := box_cells hX_w6
      clear hX_w6
      have hC_w6 := HC_w5.out.trans (hb6.mono HC_w5.out.size)
      have HC_w6 := Lib.hid hC_w6
      obtain ⟨kC0_w6, kC1_w6⟩ := box_cells hC_w6
      clear hC_w6
      have z_w6 := HX_w6.out.size
      simp only [World.alloc, Array.size_push] at z_w6
      have hm_w6 := hm_w5.keep hb6 hm_w5.size
      clear hb6 kX0_w5 kX1_w5 kC0_w5 kC1_w5
      go_wp2_with fail
      with_reducible refine (HAw.out _ hm_w6).mono ?_
      rintro e w7 ⟨rfl, hb7⟩
      have hX_w7 := HX_w6.out.trans (hb7.mono HX_w6.out.size)
      have HX_w7 := Lib.hid hX_w7
      obtain ⟨kX0_w7, kX1_w7⟩ := box_cells hX_w7
      clear hX_w7
      have hC_w7 := HC_w6.out.trans (hb7.mono HC_w6.out.size)
      have HC_w7 := Lib.hid hC_w7
      obtain ⟨kC0_w7, kC1_w7⟩ := box_cells hC_w7
      clear hC_w7
      have z_w7 := HX_w7.out.size
      simp only [World.alloc, Array.size_push] at z_w7
      have hm_w7 := hm_w6.keep hb7 hm_w6.size
      clear hb7 kX0_w6 kX1_w6 kC0_w6 kC1_w6
      go_wp2
      go_ret
      exact ⟨rfl, HAL.out.trans (HX_w7.out.mono HAL.out.size)⟩

set_option maxRecDepth 1000000 in
theorem lifted (os : Os) (started : os.Started) (H : Type) (enc : TypeId × Value → H) :
    ReturnsInHanded {} Tryd.checked os 4 .any (fun w args => (Rows.patternFormatsSpec.pre enc Tryd.prog Tryd.f4 Rows.patternFormatsRow.domain false w args ∧ laidMetH Tryd.prog Rows.patternFormatsRow.laid w) ∧ sizedMet enc Tryd.prog Tryd.f4 (OpenSpec.ofChange Rows.patternFormatsSpec) false w args)
      (Rows.patternFormatsSpec.post enc Tryd.prog Tryd.f4 false true false false) := by
  refine sizedWrap own started (by kernel_rfl) Tryd.func4
    (ChangeSpec.witness_shaped (enc := enc) (C := Tryd.checked) (os := os) (X := fun w _ => laidMetH Tryd.prog Rows.patternFormatsRow.laid w) false (World.laidAll Tryd.prog os Rows.patternFormatsRow.laid) #[.agg #[.slice none 0 0, .bool false]] 8 (World.laidAll_os _ _ _)
      (World.shaped_of_ZipB (by kernel_rfl) (by kernel_rfl)) (by kernel_rfl) (by kernel_rfl) (by kernel_rfl)
      (by rw [MakeChecks.laidMetH_plain _ _ _ (by kernel_rfl)]; exact laidMet_laidAll _ (by kernel_rfl) (by kernel_rfl))) ?_
  intro W base args ds gs before hval0 hW hsh hsz
  have hval : ∀ (j : Nat) t v, Tryd.f4.params[j]? = some t → args[j]? = some v → Value.okWide Tryd.prog W .any base t v := hval0
  have hW' := hW
  obtain ⟨p, q, hA0, hV, rfl, hfz, hnd⟩ := hW
  have hA : DataW.TrodAll enc Tryd.prog W 0 (fun _ => true) true Tryd.f4.params.toList args.toList ds p := hA0
  rw [Tryd.params4] at hA hval
  obtain ⟨v0, vs0, d0, ds0, p0, q0, hargs, rfl, rfl, h0, r0⟩ := trodAll_cons hA
  obtain ⟨rfl, rfl, rfl⟩ := trodAll_nil r0
  obtain rfl : args = #[v0] := by cases args; simp_all
  obtain ⟨rfl, rfl⟩ := trodVars_none hV
  have k0 := h0
  have lt0 : ∀ x ∈ p0, x.block < W.heap.size := by obtain ⟨m, hm⟩ := k0; exact DataW.trod_lt m _ _ _ hm
  obtain ⟨A0, xs0, c0, b0, rfl, hp0, hz0⟩ := open_pat (hval 0 25 v0 rfl rfl) h0 (weighed hsz (j := 0) rfl rfl)
  clear hA0 hval0
  refine (walk W A0 xs0 c0 b0 hp0 hz0 (maxl_of W hsh)).mono fun e W' ⟨he, bel⟩ => ?_
  subst he
  exact ⟨_, rfl, _, _, _, [], _, [], hW', trodAll_mk1 (shut_bool Tryd.underlying4 _), (trodAll_cons_mk (Below.trod laidOutW (by kernel_rfl) (of_decide_eq_true (by kernel_rfl)) k0 bel lt0) trodAll_mk0), rfl, bel.frame _, fun h => by cases h⟩

theorem over : Rows.patternFormatsRow.holds Tryd.pinned (OpenSpec.ofChange Rows.patternFormatsSpec) :=
  OpenClaim.holds_of_wide 4 Tryd.f4 rfl rfl rfl rfl rfl rfl rfl ⟨rfl, rfl, rfl, rfl, rfl⟩ rfl rfl rfl rfl rfl (by kernel_rfl) Tryd.func4 (by kernel_rfl)
    (of_decide_eq_true (by kernel_rfl)) (by unfold Func.isWrapper; first | (rw [if_pos (by decide +kernel)]; kernel_rfl) | (rw [if_neg (by decide +kernel)]; exact ⟨rfl, rfl⟩))
    (fun os started H enc _ => lifted os started H enc)

theorem proved : Rows.PatternFormatsCardSaid :=
  Claim7.holds_tied_plain_at .later [] [.data, .pinned] true (true, "0930791aa66c17d9d77aa9bf9557ef32a5df6c816373c8e2ac5b4cc8f9cdf204") false over (fun _ h => by cases h) (by kernel_rfl) (fun _ h => by cases h) patternFormats_row_tie rfl ⟨rfl, rfl⟩ (by kernel_rfl) rfl
    (fun f fn hf hfn => by
      obtain rfl : f = 4 := Option.some.inj ((show Tryd.prog.funcNamed Rows.patternFormatsRow.func = some 4 by kernel_rfl).symm.trans hf) |>.symm
      obtain rfl : fn = Tryd.f4 := (Option.some.inj (Tryd.func4.symm.trans hfn)).symm
      exact ⟨by kernel_rfl, fun j t ht => by
        rw [Tryd.params4] at ht
        have hm : t ∈ [25] := by simpa using Array.mem_of_getElem? ht
        have hall : ([25].all fun u => !Tryd.prog.wantsStandIn u) = true := by kernel_rfl
        exact (show Tryd.prog.wantsStandIn t = false by simpa using List.all_eq_true.1 hall t hm)⟩)
    (by kernel_rfl)
#print axioms proved
end Go.Proofs.YtffjmhdnfkpdpaaDoor.patternFormats
