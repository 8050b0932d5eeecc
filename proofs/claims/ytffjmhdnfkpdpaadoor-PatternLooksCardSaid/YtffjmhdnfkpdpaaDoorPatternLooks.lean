/- PatternLooks returns true at every pattern (the card: the variables that it lists hold what the program text lays). Conditions: none of its own. -/
import Derived.Test.YtffjmhdnfkpdpaaDoorCards
import Derived.Test.YtffjmhdnfkpdpaaDoorTie
import Derived.WalkKit
import Derived.ProofKit
import Derived.OpenShut
import Derived.ShutString
import Derived.Test.YtffjmhdnfkpdpaaDoorPatHeld
import Derived.Test.YtffjmhdnfkpdpaaDoorPatOpen
import Derived.Test.YtffjmhdnfkpdpaaDoorPatFn4
namespace Go.Proofs.YtffjmhdnfkpdpaaDoor.patternLooks
open Go.ChangeShapes Go.WideShapes Go.ChangeAt Go.RowKit
open Go.ChangeMaps (open_string shut_string)
set_option linter.unusedVariables false

theorem own : ownKnob Tryd.prog.godebug = none := by kernel_rfl

set_option maxHeartbeats 8000000 in
theorem walk (w : World) (A0 : Option Addr) (xs0 : List ByteArray) (c0 : Nat) (b0 : Bool) (hp0 : PatR w A0 xs0 c0 b0 ⟨bs xs0, b0⟩) (hz0 : ∀ x ∈ xs0, x.size ≤ 140737488355000) (hm : MaxL w) :
    Calls Tryd.prog 7 #[patV A0 xs0.length c0 b0] w fun e w' => e = .returned (.bool true) ∧ Below w.heap.size w w' := by
  obtain ⟨W0, hW0⟩ : ∃ W0, W0 = (w.alloc (.cells #[.slice A0 xs0.length c0, .bool b0] 25)) := ⟨_, rfl⟩
  have hal : Below w.heap.size w W0 := by rw [hW0]; exact (Below.refl _ _).alloc (Nat.le_refl _) _
  have hmW := hm.keep hal hm.size
  have HK0 := Lib.hid (fun (w' : World) (hb : Below W0.heap.size W0 w') => hp0.keep (hal.trans (hb.mono hal.size)))
  have HAL := Lib.hid hal
  have HX := Lib.hid (Below.refl W0.heap.size W0)
  have HAw := Lib.hid (fun (w : World) (hm : MaxL w) => awake3_any w hm)
  have HSm0 := Lib.hid (fun (w' : World) (hb : Below W0.heap.size W0 w') => small_any A0 xs0 c0 b0 _ w' (HK0.out w' hb) (fun x hx => Nat.le_trans (hz0 x hx) (by decide)))
  cases hsm0 : smallB (bs xs0) with
  | false =>
    rw [hsm0] at HSm0
    subst hW0
    clear hal
    go_enter Tryd.func7, Tryd.ntmps7
    go_wp2_with fail
    with_reducible refine (HSm0.out _ HX.out).mono ?_
    rintro e w1 ⟨rfl, hb1⟩
    have hX_w1 := HX.out.trans (hb1.mono HX.out.size)
    have HX_w1 := Lib.hid hX_w1
    obtain ⟨kX0_w1, kX1_w1⟩ := box_cells hX_w1
    clear hX_w1
    have z_w1 := HX_w1.out.size
    simp only [World.alloc, Array.size_push] at z_w1
    have hm_w1 := hmW.keep hb1 hmW.size
    clear hb1
    go_wp2_with fail
    with_reducible refine (HAw.out _ hm_w1).mono ?_
    rintro e w2 ⟨rfl, hb2⟩
    have hX_w2 := HX_w1.out.trans (hb2.mono HX_w1.out.size)
    have HX_w2 := Lib.hid hX_w2
    obtain ⟨kX0_w2, kX1_w2⟩ := box_cells hX_w2
    clear hX_w2
    have z_w2 := HX_w2.out.size
    simp only [World.alloc, Array.size_push] at z_w2
    have hm_w2 := hm_w1.keep hb2 hm_w1.size
    clear hb2 kX0_w1 kX1_w1
    go_wp2
    go_ret
    exact ⟨rfl, HAL.out.trans (HX_w2.out.mono HAL.out.size)⟩
  | true =>
    rw [hsm0] at HSm0
    obtain ⟨hn0, he0, hj0, hy0⟩ := small_facts hsm0
    have HE0 := Lib.hid (And.intro he0 hy0)
    clear he0 hy0 hsm0
    have HKi := Lib.hid (fun (w' : World) (hb : Below W0.heap.size W0 w') => kinds_any A0 xs0 c0 b0 _ w' (HK0.out w' hb))
    have HLi := Lib.hid (fun (w' : World) (hb : Below W0.heap.size W0 w') => literal_any A0 xs0 c0 b0 _ w' (HK0.out w' hb) (by show (Lib.join (bs xs0) [47]).length ≤ _; omega) (by omega))
    have HRc := Lib.hid (fun (w' : World) (hb : Below W0.heap.size W0 w') => rcheck_any A0 xs0 c0 b0 _ w' (HK0.out w' hb))
    have HRk := Lib.hid (fun (w' : World) (hb : Below W0.heap.size W0 w') => rkinds_any A0 xs0 c0 b0 _ w' (HK0.out w' hb))
    have HTx := Lib.hid (fun (w' : World) (hb : Below W0.heap.size W0 w') => rtext_any A0 xs0 c0 b0 _ w' (HK0.out w' hb) (by show (Lib.join (bs xs0) [47]).length ≤ _; omega) (by omega))
    have htl : (Pt.text ⟨bs xs0, b0⟩).length ≤ 9000 := by
      unfold Pt.text Pm.join
      simp only [List.length_append, List.length_cons]
      split <;> simp <;> omega
    have HJT := Lib.hid (show b0 = false → Pt.text ⟨bs xs0, b0⟩ = Pm.join (bs xs0) from fun h => by subst h; simp [Pt.text])
    have hst : (Pt.stars (bs xs0) : Int) ≤ 20 := by have := stars_le (bs xs0); rw [bs_length] at this; omega
    unfold GivesLit at HLi
    have e1 : litOk ⟨bs xs0, b0⟩ = (decide (Pt.check ⟨bs xs0, b0⟩ = 0) && decide (Pt.stars (bs xs0) = 0) && !b0) := rfl
    have e2 : kindsN ⟨bs xs0, b0⟩ = if Pt.check ⟨bs xs0, b0⟩ = 0 then Pt.stars (bs xs0) else 0 := rfl
    have e3 : kindsR ⟨bs xs0, b0⟩ = if Pt.check ⟨bs xs0, b0⟩ = 0 then b0 else false := rfl
    rw [e1] at HLi
    rw [e2, e3] at HKi
    clear e1 e2 e3
    generalize Pt.text ⟨bs xs0, b0⟩ = tx at *
    generalize Pt.check ⟨bs xs0, b0⟩ = k at *
    simp only at HLi HRk
    generalize Pt.stars (bs xs0) = t at *
    generalize Pm.join (bs xs0) = jn at *
    by_cases hk : k = 0
    · subst hk
      simp only [if_true, decide_true, Bool.true_and] at HKi HLi
      by_cases ht : t = 0
      · subst ht
        simp only [decide_true, Bool.true_and] at HLi
        cases b0 with
        | false =>
          have hjt := HJT.out rfl
          subst hjt
          simp only [Bool.not_false, if_true] at HLi
          subst hW0
          clear hal
          go_enter Tryd.func7, Tryd.ntmps7
          go_wp2_with fail
          with_reducible refine (HSm0.out _ HX.out).mono ?_
          rintro e w1 ⟨rfl, hb1⟩
          have hX_w1 := HX.out.trans (hb1.mono HX.out.size)
          have HX_w1 := Lib.hid hX_w1
          obtain ⟨kX0_w1, kX1_w1⟩ := box_cells hX_w1
          clear hX_w1
          have z_w1 := HX_w1.out.size
          simp only [World.alloc, Array.size_push] at z_w1
          have hm_w1 := hmW.keep hb1 hmW.size
          clear hb1
          go_wp2_with fail
          with_reducible refine (HKi.out _ HX_w1.out).mono ?_
          rintro e w2 ⟨rfl, hb2⟩
          have hX_w2 := HX_w1.out.trans (hb2.mono HX_w1.out.size)
          have HX_w2 := Lib.hid hX_w2
          obtain ⟨kX0_w2, kX1_w2⟩ := box_cells hX_w2
          clear hX_w2
          have z_w2 := HX_w2.out.size
          simp only [World.alloc, Array.size_push] at z_w2
          have hm_w2 := hm_w1.keep hb2 hm_w1.size
          clear hb2 kX0_w1 kX1_w1
          go_wp2_with fail
          with_reducible refine (HLi.out _ HX_w2.out).mono ?_
          rintro e w3 ⟨rfl, hb3⟩
          have hX_w3 := HX_w2.out.trans (hb3.mono HX_w2.out.size)
          have HX_w3 := Lib.hid hX_w3
          obtain ⟨kX0_w3, kX1_w3⟩ := box_cells hX_w3
          clear hX_w3
          have z_w3 := HX_w3.out.size
          simp only [World.alloc, Array.size_push] at z_w3
          have hm_w3 := hm_w2.keep hb3 hm_w2.size
          clear hb3 kX0_w2 kX1_w2
          go_wp2_with fail
          with_reducible refine (HRc.out _ HX_w3.out).mono ?_
          rintro e w4 ⟨rfl, hb4⟩
          have hX_w4 := HX_w3.out.trans (hb4.mono HX_w3.out.size)
          have HX_w4 := Lib.hid hX_w4
          obtain ⟨kX0_w4, kX1_w4⟩ := box_cells hX_w4
          clear hX_w4
          have z_w4 := HX_w4.out.size
          simp only [World.alloc, Array.size_push] at z_w4
          have hm_w4 := hm_w3.keep hb4 hm_w3.size
          clear hb4 kX0_w3 kX1_w3
          go_wp2_with fail
          with_reducible refine (HRk.out _ HX_w4.out).mono ?_
          rintro e w5 ⟨rfl, hb5⟩
          have hX_w5 := HX_w4.out.trans (hb5.mono HX_w4.out.size)
          have HX_w5 := Lib.hid hX_w5
          obtain ⟨kX0_w5, kX1_w5⟩ := box_cells hX_w5
          clear hX_w5
          have z_w5 := HX_w5.out.size
          simp only [World.alloc, Array.size_push] at z_w5
          have hm_w5 := hm_w4.keep hb5 hm_w4.size
          clear hb5 kX0_w4 kX1_w4
          go_wp2_with fail
          with_reducible refine (HTx.out _ HX_w5.out).mono ?_
          rintro e w6 ⟨rfl, hb6⟩
          have hX_w6 := HX_w5.out.trans (hb6.mono HX_w5.out.size)
          have HX_w6 := Lib.hid hX_w6
          obtain ⟨kX0_w6, kX1_w6⟩ := box_cells hX_w6
          clear hX_w6
          have z_w6 := HX_w6.out.size
          simp only [World.alloc, Array.size_push] at z_w6
          have hm_w6 := hm_w5.keep hb6 hm_w5.size
          clear hb6 kX0_w5 kX1_w5
          go_wp2_with fail
          with_reducible refine (HAw.out _ hm_w6).mono ?_
          rintro e w7 ⟨rfl, hb7⟩
          have hX_w7 := HX_w6.out.trans (hb7.mono HX_w6.out.size)
          have HX_w7 := Lib.hid hX_w7
          obtain ⟨kX0_w7, kX1_w7⟩ := box_cells hX_w7
          clear hX_w7
          have z_w7 := HX_w7.out.size
          simp only [World.alloc, Array.size_push] at z_w7
          have hm_w7 := hm_w6.keep hb7 hm_w6.size
          clear hb7 kX0_w6 kX1_w6
          go_wp2
          go_ret
          exact ⟨rfl, HAL.out.trans (HX_w7.out.mono HAL.out.size)⟩
        | true =>
          simp only [Bool.not_true, Bool.false_eq_true, if_false] at HLi
          subst hW0
          clear hal
          go_enter Tryd.func7, Tryd.ntmps7
          go_wp2_with fail
          with_reducible refine (HSm0.out _ HX.out).mono ?_
          rintro e w1 ⟨rfl, hb1⟩
          have hX_w1 := HX.out.trans (hb1.mono HX.out.size)
          have HX_w1 := Lib.hid hX_w1
          obtain ⟨kX0_w1, kX1_w1⟩ := box_cells hX_w1
          clear hX_w1
          have z_w1 := HX_w1.out.size
          simp only [World.alloc, Array.size_push] at z_w1
          have hm_w1 := hmW.keep hb1 hmW.size
          clear hb1
          go_wp2_with fail
          with_reducible refine (HKi.out _ HX_w1.out).mono ?_
          rintro e w2 ⟨rfl, hb2⟩
          have hX_w2 := HX_w1.out.trans (hb2.mono HX_w1.out.size)
          have HX_w2 := Lib.hid hX_w2
          obtain ⟨kX0_w2, kX1_w2⟩ := box_cells hX_w2
          clear hX_w2
          have z_w2 := HX_w2.out.size
          simp only [World.alloc, Array.size_push] at z_w2
          have hm_w2 := hm_w1.keep hb2 hm_w1.size
          clear hb2 kX0_w1 kX1_w1
          go_wp2_with fail
          with_reducible refine (HLi.out _ HX_w2.out).mono ?_
          rintro e w3 ⟨rfl, hb3⟩
          have hX_w3 := HX_w2.out.trans (hb3.mono HX_w2.out.size)
          have HX_w3 := Lib.hid hX_w3
          obtain ⟨kX0_w3, kX1_w3⟩ := box_cells hX_w3
          clear hX_w3
          have z_w3 := HX_w3.out.size
          simp only [World.alloc, Array.size_push] at z_w3
          have hm_w3 := hm_w2.keep hb3 hm_w2.size
          clear hb3 kX0_w2 kX1_w2
          go_wp2_with fail
          with_reducible refine (HRc.out _ HX_w3.out).mono ?_
          rintro e w4 ⟨rfl, hb4⟩
          have hX_w4 := HX_w3.out.trans (hb4.mono HX_w3.out.size)
          have HX_w4 := Lib.hid hX_w4
          obtain ⟨kX0_w4, kX1_w4⟩ := box_cells hX_w4
          clear hX_w4
          have z_w4 := HX_w4.out.size
          simp only [World.alloc, Array.size_push] at z_w4
          have hm_w4 := hm_w3.keep hb4 hm_w3.size
          clear hb4 kX0_w3 kX1_w3
          go_wp2_with fail
          with_reducible refine (HRk.out _ HX_w4.out).mono ?_
          rintro e w5 ⟨rfl, hb5⟩
          have hX_w5 := HX_w4.out.trans (hb5.mono HX_w4.out.size)
          have HX_w5 := Lib.hid hX_w5
          obtain ⟨kX0_w5, kX1_w5⟩ := box_cells hX_w5
          clear hX_w5
          have z_w5 := HX_w5.out.size
          simp only [World.alloc, Array.size_push] at z_w5
          have hm_w5 := hm_w4.keep hb5 hm_w4.size
          clear hb5 kX0_w4 kX1_w4
          go_wp2_with fail
          with_reducible refine (HAw.out _ hm_w5).mono ?_
          rintro e w6 ⟨rfl, hb6⟩
          have hX_w6 := HX_w5.out.trans (hb6.mono HX_w5.out.size)
          have HX_w6 := Lib.hid hX_w6
          obtain ⟨kX0_w6, kX1_w6⟩ := box_cells hX_w6
          clear hX_w6
          have z_w6 := HX_w6.out.size
          simp only [World.alloc, Array.size_push] at z_w6
          have hm_w6 := hm_w5.keep hb6 hm_w5.size
          clear hb6 kX0_w5 kX1_w5
          go_wp2
          go_ret
          exact ⟨rfl, HAL.out.trans (HX_w6.out.mono HAL.out.size)⟩
      · simp only [decide_eq_false ht, Bool.false_and, Bool.false_eq_true, if_false] at HLi
        have u1 : ((t : Int) == 0) = false := by rw [beq_eq_false_iff_ne]; omega
        subst hW0
        clear hal
        go_enter Tryd.func7, Tryd.ntmps7
        go_wp2_with fail
        with_reducible refine (HSm0.out _ HX.out).mono ?_
        rintro e w1 ⟨rfl, hb1⟩
        have hX_w1 := HX.out.trans (hb1.mono HX.out.size)
        have HX_w1 := Lib.hid hX_w1
        obtain ⟨kX0_w1, kX1_w1⟩ := box_cells hX_w1
        clear hX_w1
        have z_w1 := HX_w1.out.size
        simp only [World.alloc, Array.size_push] at z_w1
        have hm_w1 := hmW.keep hb1 hmW.size
        clear hb1
        go_wp2_with fail
        with_reducible refine (HKi.out _ HX_w1.out).mono ?_
        rintro e w2 ⟨rfl, hb2⟩
        have hX_w2 := HX_w1.out.trans (hb2.mono HX_w1.out.size)
        have HX_w2 := Lib.hid hX_w2
        obtain ⟨kX0_w2, kX1_w2⟩ := box_cells hX_w2
        clear hX_w2
        have z_w2 := HX_w2.out.size
        simp only [World.alloc, Array.size_push] at z_w2
        have hm_w2 := hm_w1.keep hb2 hm_w1.size
        clear hb2 kX0_w1 kX1_w1
        go_wp2_with fail
        with_reducible refine (HLi.out _ HX_w2.out).mono ?_
        rintro e w3 ⟨rfl, hb3⟩
        have hX_w3 := HX_w2.out.trans (hb3.mono HX_w2.out.size)
        have HX_w3 := Lib.hid hX_w3
        obtain ⟨kX0_w3, kX1_w3⟩ := box_cells hX_w3
        clear hX_w3
        have z_w3 := HX_w3.out.size
        simp only [World.alloc, Array.size_push] at z_w3
        have hm_w3 := hm_w2.keep hb3 hm_w2.size
        clear hb3 kX0_w2 kX1_w2
        go_wp2_with fail
        with_reducible refine (HRc.out _ HX_w3.out).mono ?_
        rintro e w4 ⟨rfl, hb4⟩
        have hX_w4 := HX_w3.out.trans (hb4.mono HX_w3.out.size)
        have HX_w4 := Lib.hid hX_w4
        obtain ⟨kX0_w4, kX1_w4⟩ := box_cells hX_w4
        clear hX_w4
        have z_w4 := HX_w4.out.size
        simp only [World.alloc, Array.size_push] at z_w4
        have hm_w4 := hm_w3.keep hb4 hm_w3.size
        clear hb4 kX0_w3 kX1_w3
        go_wp2_with fail
        with_reducible refine (HRk.out _ HX_w4.out).mono ?_
        rintro e w5 ⟨rfl, hb5⟩
        have hX_w5 := HX_w4.out.trans (hb5.mono HX_w4.out.size)
        have HX_w5 := Lib.hid hX_w5
        obtain ⟨kX0_w5, kX1_w5⟩ := box_cells hX_w5
        clear hX_w5
        have z_w5 := HX_w5.out.size
        simp only [World.alloc, Array.size_push] at z_w5
        have hm_w5 := hm_w4.keep hb5 hm_w4.size
        clear hb5 kX0_w4 kX1_w4
        go_wp2_with fail
        with_reducible refine (HAw.out _ hm_w5).mono ?_
        rintro e w6 ⟨rfl, hb6⟩
        have hX_w6 := HX_w5.out.trans (hb6.mono HX_w5.out.size)
        have HX_w6 := Lib.hid hX_w6
        obtain ⟨kX0_w6, kX1_w6⟩ := box_cells hX_w6
        clear hX_w6
        have z_w6 := HX_w6.out.size
        simp only [World.alloc, Array.size_push] at z_w6
        have hm_w6 := hm_w5.keep hb6 hm_w5.size
        clear hb6 kX0_w5 kX1_w5
        go_wp2
        go_ret
        exact ⟨rfl, HAL.out.trans (HX_w6.out.mono HAL.out.size)⟩
    · simp only [if_neg hk, decide_eq_false hk, Bool.false_and, Bool.false_eq_true, if_false] at HKi HLi
      have u1 : ((k : Int) == 0) = false := by rw [beq_eq_false_iff_ne]; omega
      have u2 : ((k : Int) != 0) = true := by rw [bne, u1]; rfl
      subst hW0
      clear hal
      go_enter Tryd.func7, Tryd.ntmps7
      go_wp2_with fail
      with_reducible refine (HSm0.out _ HX.out).mono ?_
      rintro e w1 ⟨rfl, hb1⟩
      have hX_w1 := HX.out.trans (hb1.mono HX.out.size)
      have HX_w1 := Lib.hid hX_w1
      obtain ⟨kX0_w1, kX1_w1⟩ := box_cells hX_w1
      clear hX_w1
      have z_w1 := HX_w1.out.size
      simp only [World.alloc, Array.size_push] at z_w1
      have hm_w1 := hmW.keep hb1 hmW.size
      clear hb1
      go_wp2_with fail
      with_reducible refine (HKi.out _ HX_w1.out).mono ?_
      rintro e w2 ⟨rfl, hb2⟩
      have hX_w2 := HX_w1.out.trans (hb2.mono HX_w1.out.size)
      have HX_w2 := Lib.hid hX_w2
      obtain ⟨kX0_w2, kX1_w2⟩ := box_cells hX_w2
      clear hX_w2
      have z_w2 := HX_w2.out.size
      simp only [World.alloc, Array.size_push] at z_w2
      have hm_w2 := hm_w1.keep hb2 hm_w1.size
      clear hb2 kX0_w1 kX1_w1
      go_wp2_with fail
      with_reducible refine (HLi.out _ HX_w2.out).mono ?_
      rintro e w3 ⟨rfl, hb3⟩
      have hX_w3 := HX_w2.out.trans (hb3.mono HX_w2.out.size)
      have HX_w3 := Lib.hid hX_w3
      obtain ⟨kX0_w3, kX1_w3⟩ := box_cells hX_w3
      clear hX_w3
      have z_w3 := HX_w3.out.size
      simp only [World.alloc, Array.size_push] at z_w3
      have hm_w3 := hm_w2.keep hb3 hm_w2.size
      clear hb3 kX0_w2 kX1_w2
      go_wp2_with fail
      with_reducible refine (HRc.out _ HX_w3.out).mono ?_
      rintro e w4 ⟨rfl, hb4⟩
      have hX_w4 := HX_w3.out.trans (hb4.mono HX_w3.out.size)
      have HX_w4 := Lib.hid hX_w4
      obtain ⟨kX0_w4, kX1_w4⟩ := box_cells hX_w4
      clear hX_w4
      have z_w4 := HX_w4.out.size
      simp only [World.alloc, Array.size_push] at z_w4
      have hm_w4 := hm_w3.keep hb4 hm_w3.size
      clear hb4 kX0_w3 kX1_w3
      go_wp2_with fail
      with_reducible refine (HAw.out _ hm_w4).mono ?_
      rintro e w5 ⟨rfl, hb5⟩
      have hX_w5 := HX_w4.out.trans (hb5.mono HX_w4.out.size)
      have HX_w5 := Lib.hid hX_w5
      obtain ⟨kX0_w5, kX1_w5⟩ := box_cells hX_w5
      clear hX_w5
      have z_w5 := HX_w5.out.size
      simp only [World.alloc, Array.size_push] at z_w5
      have hm_w5 := hm_w4.keep hb5 hm_w4.size
      clear hb5 kX0_w4 kX1_w4
      go_wp2
      go_ret
      exact ⟨rfl, HAL.out.trans (HX_w5.out.mono HAL.out.size)⟩

set_option maxRecDepth 1000000 in
theorem lifted (os : Os) (started : os.Started) (H : Type) (enc : TypeId × Value → H) :
    ReturnsInHanded {} Tryd.checked os 7 .any (fun w args => (Rows.patternLooksSpec.pre enc Tryd.prog Tryd.f7 Rows.patternLooksRow.domain false w args ∧ laidMetH Tryd.prog Rows.patternLooksRow.laid w) ∧ sizedMet enc Tryd.prog Tryd.f7 (OpenSpec.ofChange Rows.patternLooksSpec) false w args)
      (Rows.patternLooksSpec.post enc Tryd.prog Tryd.f7 false true false false) := by
  refine sizedWrap own started (by kernel_rfl) Tryd.func7
    (ChangeSpec.witness_shaped (enc := enc) (C := Tryd.checked) (os := os) (X := fun w _ => laidMetH Tryd.prog Rows.patternLooksRow.laid w) false (World.laidAll Tryd.prog os Rows.patternLooksRow.laid) #[.agg #[.slice none 0 0, .bool false]] 8 (World.laidAll_os _ _ _)
      (World.shaped_of_ZipB (by kernel_rfl) (by kernel_rfl)) (by kernel_rfl) (by kernel_rfl) (by kernel_rfl)
      (by rw [MakeChecks.laidMetH_plain _ _ _ (by kernel_rfl)]; exact laidMet_laidAll _ (by kernel_rfl) (by kernel_rfl))) ?_
  intro W base args ds gs before hval0 hW hsh hsz
  have hval : ∀ (j : Nat) t v, Tryd.f7.params[j]? = some t → args[j]? = some v → Value.okWide Tryd.prog W .any base t v := hval0
  have hW' := hW
  obtain ⟨p, q, hA0, hV, rfl, hfz, hnd⟩ := hW
  have hA : DataW.TrodAll enc Tryd.prog W 0 (fun _ => true) true Tryd.f7.params.toList args.toList ds p := hA0
  rw [Tryd.params7] at hA hval
  obtain ⟨v0, vs0, d0, ds0, p0, q0, hargs, rfl, rfl, h0, r0⟩ := trodAll_cons hA
  obtain ⟨rfl, rfl, rfl⟩ := trodAll_nil r0
  obtain rfl : args = #[v0] := by cases args; simp_all
  obtain ⟨rfl, rfl⟩ := trodVars_none hV
  have k0 := h0
  have lt0 : ∀ x ∈ p0, x.block < W.heap.size := by obtain ⟨m, hm⟩ := k0; exact DataW.trod_lt m _ _ _ hm
  obtain ⟨A0, xs0, c0, b0, rfl, hp0, hz0⟩ := open_pat (hval 0 25 v0 rfl rfl) h0 (weighed hsz (j := 0) rfl rfl)
  clear hA0 hval0
  refine (walk W A0 xs0 c0 b0 hp0 hz0 (maxl_of W hsh)).mono fun e W' ⟨he, bel⟩ => ?_
  subst he
  exact ⟨_, rfl, _, _, _, [], _, [], hW', trodAll_mk1 (shut_bool Tryd.underlying4 _), (trodAll_cons_mk (Below.trod laidOutW (by kernel_rfl) (of_decide_eq_true (by kernel_rfl)) k0 bel lt0) trodAll_mk0), rfl, bel.frame _, fun h => by cases h⟩

theorem over : Rows.patternLooksRow.holds Tryd.pinned (OpenSpec.ofChange Rows.patternLooksSpec) :=
  OpenClaim.holds_of_wide 7 Tryd.f7 rfl rfl rfl rfl rfl rfl rfl ⟨rfl, rfl, rfl, rfl, rfl⟩ rfl rfl rfl rfl rfl (by kernel_rfl) Tryd.func7 (by kernel_rfl)
    (of_decide_eq_true (by kernel_rfl)) (by unfold Func.isWrapper; first | (rw [if_pos (by decide +kernel)]; kernel_rfl) | (rw [if_neg (by decide +kernel)]; exact ⟨rfl, rfl⟩))
    (fun os started H enc _ => lifted os started H enc)

theorem proved : Rows.PatternLooksCardSaid :=
  Claim7.holds_tied_plain_at .later [] [.data, .pinned] true (true, "0930791aa66c17d9d77aa9bf9557ef32a5df6c816373c8e2ac5b4cc8f9cdf204") false over (fun _ h => by cases h) (by kernel_rfl) (fun _ h => by cases h) patternLooks_row_tie rfl ⟨rfl, rfl⟩ (by kernel_rfl) rfl
    (fun f fn hf hfn => by
      obtain rfl : f = 7 := Option.some.inj ((show Tryd.prog.funcNamed Rows.patternLooksRow.func = some 7 by kernel_rfl).symm.trans hf) |>.symm
      obtain rfl : fn = Tryd.f7 := (Option.some.inj (Tryd.func7.symm.trans hfn)).symm
      exact ⟨by kernel_rfl, fun j t ht => by
        rw [Tryd.params7] at ht
        have hm : t ∈ [25] := by simpa using Array.mem_of_getElem? ht
        have hall : ([25].all fun u => !Tryd.prog.wantsStandIn u) = true := by kernel_rfl
        exact (show Tryd.prog.wantsStandIn t = false by simpa using List.all_eq_true.1 hall t hm)⟩)
    (by kernel_rfl)
#print axioms proved
end Go.Proofs.YtffjmhdnfkpdpaaDoor.patternLooks
