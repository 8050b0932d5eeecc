/- PatternFills returns true at every pattern and every slice of strings (the card: the variables that it lists hold what the program text lays). Conditions: none of its own. -/
import Derived.Test.YtffjmhdnfkpdpaaDoorCards
import Derived.Test.YtffjmhdnfkpdpaaDoorTie
import Derived.WalkKit
import Derived.ProofKit
import Derived.OpenShut
import Derived.ShutString
import Derived.Test.YtffjmhdnfkpdpaaDoorPatHeld
import Derived.Test.YtffjmhdnfkpdpaaDoorPatOpen
import Derived.Test.YtffjmhdnfkpdpaaDoorPatGo12
import Derived.Test.YtffjmhdnfkpdpaaDoorPatFn9
namespace Go.Proofs.YtffjmhdnfkpdpaaDoor.patternFills
open Go.ChangeShapes Go.WideShapes Go.ChangeAt Go.RowKit
open Go.ChangeMaps (open_string shut_string)
set_option linter.unusedVariables false

set_option maxHeartbeats 8000000 in
theorem walk (w : World) (A0 : Option Addr) (xs0 : List ByteArray) (c0 : Nat) (b0 : Bool) (hp0 : PatR w A0 xs0 c0 b0 ⟨bs xs0, b0⟩) (hz0 : ∀ x ∈ xs0, x.size ≤ 140737488355000) (A1 : Option Addr) (xs1 : List ByteArray) (c1 : Nat) (hl1 : xs1.length ≤ c1) (hm1 : c1 ≤ maxLen) (hn1 : A1 = none → c1 = 0) (hr1 : RdS w w.heap.size A1 xs1) (hx1 : ∀ x ∈ xs1, x.size ≤ maxLen) (hz1 : ∀ x ∈ xs1, x.size ≤ 140737488355000) (hm : MaxL w) :
    Calls Tryd.prog 6 #[patV A0 xs0.length c0 b0, .slice A1 xs1.length c1] w fun e w' => e = .returned (.bool true) ∧ Below w.heap.size w w' := by
  obtain ⟨W0, hW0⟩ : ∃ W0, W0 = (w.alloc (.cells #[.slice A0 xs0.length c0, .bool b0] 25)) := ⟨_, rfl⟩
  have hal : Below w.heap.size w W0 := by rw [hW0]; exact (Below.refl _ _).alloc (Nat.le_refl _) _
  have hmW := hm.keep hal hm.size
  have HK0 := Lib.hid (fun (w' : World) (hb : Below W0.heap.size W0 w') => hp0.keep (hal.trans (hb.mono hal.size)))
  have HAL := Lib.hid hal
  have HX := Lib.hid (Below.refl W0.heap.size W0)
  have HAw := Lib.hid (fun (w : World) (hm : MaxL w) => awake3_any w hm)
  have HSm0 := Lib.hid (fun (w' : World) (hb : Below W0.heap.size W0 w') => small_any A0 xs0 c0 b0 _ w' (HK0.out w' hb) (fun x hx => Nat.le_trans (hz0 x hx) (by decide)))
  cases hsm0 : smallB (bs xs0) with
  | false =>
    rw [hsm0] at HSm0
    subst hW0
    clear hal
    go_enter Tryd.func6, Tryd.ntmps6
    go_wp2_with fail
    with_reducible refine (HSm0.out _ HX.out).mono ?_
    rintro e w1 ⟨rfl, hb1⟩
    have hX_w1 := HX.out.trans (hb1.mono HX.out.size)
    have HX_w1 := Lib.hid hX_w1
    obtain ⟨kX0_w1, kX1_w1⟩ := box_cells hX_w1
    clear hX_w1
    have z_w1 := HX_w1.out.size
    simp only [World.alloc, Array.size_push] at z_w1
    have hm_w1 := hmW.keep hb1 hmW.size
    clear hb1
    go_wp2_with fail
    with_reducible refine (HAw.out _ hm_w1).mono ?_
    rintro e w2 ⟨rfl, hb2⟩
    have hX_w2 := HX_w1.out.trans (hb2.mono HX_w1.out.size)
    have HX_w2 := Lib.hid hX_w2
    obtain ⟨kX0_w2, kX1_w2⟩ := box_cells hX_w2
    clear hX_w2
    have z_w2 := HX_w2.out.size
    simp only [World.alloc, Array.size_push] at z_w2
    have hm_w2 := hm_w1.keep hb2 hm_w1.size
    clear hb2 kX0_w1 kX1_w1
    go_wp2
    go_ret
    exact ⟨rfl, HAL.out.trans (HX_w2.out.mono HAL.out.size)⟩
  | true =>
    rw [hsm0] at HSm0
    obtain ⟨hn0, he0, hj0, hy0⟩ := small_facts hsm0
    have HE0 := Lib.hid (And.intro he0 hy0)
    clear he0 hy0 hsm0
    obtain ⟨n, hnx⟩ : ∃ n, n = xs1.length := ⟨_, rfl⟩
    have HN := Lib.hid hnx
    by_cases h4 : 20 < n
    · have g0 : (20 : Int) < (n : Int) := by omega
      rw [← hnx]
      subst hW0
      clear hal hnx
      go_enter Tryd.func6, Tryd.ntmps6
      go_wp2_with fail
      with_reducible refine (HSm0.out _ HX.out).mono ?_
      rintro e w1 ⟨rfl, hb1⟩
      have hX_w1 := HX.out.trans (hb1.mono HX.out.size)
      have HX_w1 := Lib.hid hX_w1
      obtain ⟨kX0_w1, kX1_w1⟩ := box_cells hX_w1
      clear hX_w1
      have z_w1 := HX_w1.out.size
      simp only [World.alloc, Array.size_push] at z_w1
      have hm_w1 := hmW.keep hb1 hmW.size
      clear hb1
      go_wp2_with fail
      with_reducible refine (HAw.out _ hm_w1).mono ?_
      rintro e w2 ⟨rfl, hb2⟩
      have hX_w2 := HX_w1.out.trans (hb2.mono HX_w1.out.size)
      have HX_w2 := Lib.hid hX_w2
      obtain ⟨kX0_w2, kX1_w2⟩ := box_cells hX_w2
      clear hX_w2
      have z_w2 := HX_w2.out.size
      simp only [World.alloc, Array.size_push] at z_w2
      have hm_w2 := hm_w1.keep hb2 hm_w1.size
      clear hb2 kX0_w1 kX1_w1
      go_wp2
      go_ret
      exact ⟨rfl, HAL.out.trans (HX_w2.out.mono HAL.out.size)⟩
    have g0 : ¬ (20 : Int) < (n : Int) := by omega
    have HRL := Lib.hid (fun (w' : World) (hb : Below W0.heap.size W0 w') => ((hr1.keep (hal.trans (hb.mono hal.size))).more (hal.trans (hb.mono hal.size)).size : RdS w' w'.heap.size A1 xs1))
    have HFi := Lib.hid (fun (h : ∀ y ∈ xs1, y.size ≤ 100) (w' : World) (hb : Below W0.heap.size W0 w') (hm : MaxL w') => fill_any A0 A1 xs0 xs1 c0 c1 b0 _ w' (HK0.out w' hb) (fun x hx => Nat.le_trans (HE0.out.2 x hx) (by decide)) (HRL.out w' hb) hl1 hm1 hn1 (fun y hy => Nat.le_trans (h y hy) (by decide)) hm)
    have HFr := Lib.hid (fun (h : ∀ y ∈ xs1, y.size ≤ 100) (w' : World) (hb : Below W0.heap.size W0 w') (hm : MaxL w') => rfill_any A0 A1 xs0 xs1 c0 c1 b0 _ w' (HK0.out w' hb) (fun x hx => Nat.le_trans (HE0.out.2 x hx) (by decide)) (HRL.out w' hb) hl1 hm1 (fun y hy => Nat.le_trans (h y hy) (by decide)) hm)
    generalize Pt.filled ⟨bs xs0, b0⟩ (bs xs1) = fv at *
    generalize Pt.fillErr ⟨bs xs0, b0⟩ (bs xs1) = fe at *
    have HL1 := Lib.hid hl1
    have HM1 := Lib.hid hm1
    have HNil := Lib.hid hn1
    have hc1i : (c1 : Int) ≤ 9223372036854775807 := by unfold maxLen at hm1; omega
    have hnc1 : (n : Int) ≤ (c1 : Int) := by omega
    rw [← hnx] at HFi HFr ⊢
    clear hl1 hm1 hn1 hr1 hx1 hz1 hnx h4
    subst hW0
    clear hal
    go_enter Tryd.func6, Tryd.ntmps6
    go_wp2_with fail
    with_reducible refine (HSm0.out _ HX.out).mono ?_
    rintro e w1 ⟨rfl, hb1⟩
    have hX_w1 := HX.out.trans (hb1.mono HX.out.size)
    have HX_w1 := Lib.hid hX_w1
    obtain ⟨kX0_w1, kX1_w1⟩ := box_cells hX_w1
    clear hX_w1
    have z_w1 := HX_w1.out.size
    simp only [World.alloc, Array.size_push] at z_w1
    have hm_w1 := hmW.keep hb1 hmW.size
    clear hb1
    set_option maxRecDepth 100000 in go_wp2
    go_loop [23] (fun i => ∃ k : Nat, k ≤ n ∧ i = .int .i64 k ∧ ∀ i (h : i < xs1.length), i < k → xs1[i].size ≤ 100) (fun i => n - (intOf i).toNat)
    case atStart => exact ⟨0, by omega, rfl, fun i _ h => by omega⟩
    case round =>
      obtain ⟨k, hkn, rfl, hsm⟩ := hrel
      have HSM := Lib.hid hsm
      clear hsm
      by_cases hlt : k < n
      · have hlx : k < xs1.length := by rw [← HN.out]; exact hlt
        obtain ⟨g, o, rfl, hg, hcell⟩ := (HRL.out _ HX_w1.out).cells (by omega)
        have hce := hcell k hlx
        clear hcell
        obtain ⟨y, hy⟩ : ∃ y, y = xs1[k] := ⟨_, rfl⟩
        rw [← hy] at hce
        have HY := Lib.hid hy
        clear hy
        by_cases h1 : 100 < y.size
        · have h1i : (100 : Int) < (y.size : Int) := by omega
          go_wp2_with fail
          with_reducible refine (HAw.out _ hm_w1).mono ?_
          rintro e w2 ⟨rfl, hb2⟩
          have hX_w2 := HX_w1.out.trans (hb2.mono HX_w1.out.size)
          have HX_w2 := Lib.hid hX_w2
          obtain ⟨kX0_w2, kX1_w2⟩ := box_cells hX_w2
          clear hX_w2
          have z_w2 := HX_w2.out.size
          simp only [World.alloc, Array.size_push] at z_w2
          have hm_w2 := hm_w1.keep hb2 hm_w1.size
          clear hb2 kX0_w1 kX1_w1
          go_wp2
          go_ret
          exact ⟨rfl, HAL.out.trans (HX_w2.out.mono HAL.out.size)⟩
        · have h1i : ¬ (100 : Int) < (y.size : Int) := by omega
          go_wp2
          go_round
          case rel =>
            refine ⟨k + 1, by omega, by go_num, fun i hi hik => ?_⟩
            rcases Nat.lt_or_ge i k with h | h
            · exact HSM.out i hi h
            · obtain rfl : i = k := by omega
              rw [← HY.out]
              omega
          case measure => first | (simp [intOf]; done) | (simp [intOf]; omega)
      · obtain rfl : k = n := by omega
        have hall : ∀ y ∈ xs1, y.size ≤ 100 := fun y hy => by
          obtain ⟨i, hi, rfl⟩ := List.getElem_of_mem hy
          exact HSM.out i hi (by rw [HN.out]; exact hi)
        have HALL := Lib.hid hall
        clear hall HSM
        go_wp2_with (refine wpList_append_ss rfl _ _ rfl w1.heap.size (.slice none 0 0) [] rfl (OwnS.empty _ _) A1 xs1 c1 (by rw [← HN.out]; rfl) (HRL.out _ HX_w1.out) HNil.out (by rw [← HN.out]; simp; omega) (Nat.le_refl _) ?_; intro v' w2 hown hb2
                     rw [List.nil_append] at hown
                     obtain ⟨A2, c2, rfl, hf1, hf2, hf3, _⟩ := hown.form
                     have HF := Lib.hid (And.intro hf1 (And.intro hf2 hf3))
                     clear hown hf1 hf2 hf3
                     rw [← HN.out]
                     have hX_w2 := HX_w1.out.trans (hb2.mono HX_w1.out.size)
                     have HX_w2 := Lib.hid hX_w2
                     obtain ⟨kX0_w2, kX1_w2⟩ := box_cells hX_w2
                     clear hX_w2
                     have z_w2 := HX_w2.out.size
                     simp only [World.alloc, Array.size_push] at z_w2
                     have hm_w2 := hm_w1.keep hb2 hm_w1.size
                     clear hb2 kX0_w1 kX1_w1
                     have HP := Lib.hid (Below.refl (World.heap w2).size w2))
        go_wp2_with fail
        with_reducible refine (HFi.out HALL.out _ HX_w2.out hm_w2).mono ?_
        rintro e w3 ⟨rfl, hb3⟩
        have hX_w3 := HX_w2.out.trans (hb3.mono HX_w2.out.size)
        have HX_w3 := Lib.hid hX_w3
        obtain ⟨kX0_w3, kX1_w3⟩ := box_cells hX_w3
        clear hX_w3
        have hP_w3 := HP.out.trans (hb3.mono HP.out.size)
        have HP_w3 := Lib.hid hP_w3
        clear hP_w3
        have z_w3 := HX_w3.out.size
        simp only [World.alloc, Array.size_push] at z_w3
        have hm_w3 := hm_w2.keep hb3 hm_w2.size
        clear hb3 kX0_w2 kX1_w2
        go_wp2_with fail
        with_reducible refine (HFr.out HALL.out _ HX_w3.out hm_w3).mono ?_
        rintro e w4 ⟨rfl, hb4⟩
        have hX_w4 := HX_w3.out.trans (hb4.mono HX_w3.out.size)
        have HX_w4 := Lib.hid hX_w4
        obtain ⟨kX0_w4, kX1_w4⟩ := box_cells hX_w4
        clear hX_w4
        have hP_w4 := HP_w3.out.trans (hb4.mono HP_w3.out.size)
        have HP_w4 := Lib.hid hP_w4
        clear hP_w4
        have z_w4 := HX_w4.out.size
        simp only [World.alloc, Array.size_push] at z_w4
        have hm_w4 := hm_w3.keep hb4 hm_w3.size
        clear hb4 kX0_w3 kX1_w3
        have HEq := Lib.hid (requal_any A1 A2 xs1 xs1 c1 c2 _ _ _ (HRL.out _ HX_w4.out) (HF.out.2.2.keep HP_w4.out) (Nat.le_trans HL1.out HM1.out) HL1.out HF.out.1 (Nat.le_trans HF.out.1 HF.out.2.1))
        rw [decide_eq_true (rfl : xs1 = xs1), ← HN.out] at HEq
        go_wp2_with fail
        with_reducible refine (HEq.out).mono ?_
        rintro e w5 ⟨rfl, hd5⟩
        have hb5 := hd5.below (World.heap w4).size
        have hX_w5 := HX_w4.out.trans (hb5.mono HX_w4.out.size)
        have HX_w5 := Lib.hid hX_w5
        obtain ⟨kX0_w5, kX1_w5⟩ := box_cells hX_w5
        clear hX_w5
        have hP_w5 := HP_w4.out.trans (hb5.mono HP_w4.out.size)
        have HP_w5 := Lib.hid hP_w5
        clear hP_w5
        have z_w5 := HX_w5.out.size
        simp only [World.alloc, Array.size_push] at z_w5
        have hm_w5 := hm_w4.keep hb5 hm_w4.size
        clear hb5 kX0_w4 kX1_w4
        go_wp2_with fail
        with_reducible refine (HAw.out _ hm_w5).mono ?_
        rintro e w6 ⟨rfl, hb6⟩
        have hX_w6 := HX_w5.out.trans (hb6.mono HX_w5.out.size)
        have HX_w6 := Lib.hid hX_w6
        obtain ⟨kX0_w6, kX1_w6⟩ := box_cells hX_w6
        clear hX_w6
        have hP_w6 := HP_w5.out.trans (hb6.mono HP_w5.out.size)
        have HP_w6 := Lib.hid hP_w6
        clear hP_w6
        have z_w6 := HX_w6.out.size
        simp only [World.alloc, Array.size_push] at z_w6
        have hm_w6 := hm_w5.keep hb6 hm_w5.size
        clear hb6 kX0_w5 kX1_w5
        go_wp2
        go_ret
        exact ⟨rfl, HAL.out.trans (HX_w6.out.mono HAL.out.size)⟩

end Go.Proofs.YtffjmhdnfkpdpaaDoor.patternFills
