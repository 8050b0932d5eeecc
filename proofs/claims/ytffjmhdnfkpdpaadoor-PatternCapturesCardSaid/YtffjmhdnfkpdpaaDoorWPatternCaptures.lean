/- PatternCaptures returns true at every string and every pattern and every slice of strings (the card: the variables that it lists hold what the program text lays). Conditions: none of its own. -/
import Derived.Test.YtffjmhdnfkpdpaaDoorCards
import Derived.Test.YtffjmhdnfkpdpaaDoorTie
import Derived.WalkKit
import Derived.ProofKit
import Derived.OpenShut
import Derived.ShutString
import Derived.Test.YtffjmhdnfkpdpaaDoorPatHeld
import Derived.Test.YtffjmhdnfkpdpaaDoorPatOpen
import Derived.Test.YtffjmhdnfkpdpaaDoorPatGo12
namespace Go.Proofs.YtffjmhdnfkpdpaaDoor.patternCaptures
open Go.ChangeShapes Go.WideShapes Go.ChangeAt Go.RowKit
open Go.ChangeMaps (open_string shut_string)
set_option linter.unusedVariables false

set_option maxHeartbeats 8000000 in
theorem walk (w : World) (A0 : Option Addr) (xs0 : List ByteArray) (c0 : Nat) (b0 : Bool) (hp0 : PatR w A0 xs0 c0 b0 ⟨bs xs0, b0⟩) (hz0 : ∀ x ∈ xs0, x.size ≤ 140737488355000) (s1 : ByteArray) (w1 : s1.size ≤ maxLen) (A2 : Option Addr) (xs2 : List ByteArray) (c2 : Nat) (hl2 : xs2.length ≤ c2) (hm2 : c2 ≤ maxLen) (hn2 : A2 = none → c2 = 0) (hr2 : RdS w w.heap.size A2 xs2) (hx2 : ∀ x ∈ xs2, x.size ≤ maxLen) (hz2 : ∀ x ∈ xs2, x.size ≤ 140737488355000) (hm : MaxL w) :
    Calls Tryd.prog 13 #[patV A0 xs0.length c0 b0, .string s1, .slice A2 xs2.length c2] w fun e w' => e = .returned (.bool true) ∧ Below w.heap.size w w' := by
  obtain ⟨W0, hW0⟩ : ∃ W0, W0 = (w.alloc (.cells #[.slice A0 xs0.length c0, .bool b0] 25)) := ⟨_, rfl⟩
  have hal : Below w.heap.size w W0 := by rw [hW0]; exact (Below.refl _ _).alloc (Nat.le_refl _) _
  have hmW := hm.keep hal hm.size
  have HK0 := Lib.hid (fun (w' : World) (hb : Below W0.heap.size W0 w') => hp0.keep (hal.trans (hb.mono hal.size)))
  have HAL := Lib.hid hal
  have HX := Lib.hid (Below.refl W0.heap.size W0)
  have HAw := Lib.hid (fun (w : World) (hm : MaxL w) => awake3_any w hm)
  have HSm0 := Lib.hid (fun (w' : World) (hb : Below W0.heap.size W0 w') => small_any A0 xs0 c0 b0 _ w' (HK0.out w' hb) (fun x hx => Nat.le_trans (hz0 x hx) (by decide)))
  cases hsm0 : smallB (bs xs0) with
  | false =>
    rw [hsm0] at HSm0
    subst hW0
    clear hal
    go_enter Tryd.func13, Tryd.ntmps13
    go_wp2_with fail
    with_reducible refine (HSm0.out _ HX.out).mono ?_
    rintro e w1 ⟨rfl, hb1⟩
    have hX_w1 := HX.out.trans (hb1.mono HX.out.size)
    have HX_w1 := Lib.hid hX_w1
    obtain ⟨kX0_w1, kX1_w1⟩ := box_cells hX_w1
    clear hX_w1
    have z_w1 := HX_w1.out.size
    simp only [World.alloc, Array.size_push] at z_w1
    have hm_w1 := hmW.keep hb1 hmW.size
    clear hb1
    go_wp2_with fail
    with_reducible refine (HAw.out _ hm_w1).mono ?_
    rintro e w2 ⟨rfl, hb2⟩
    have hX_w2 := HX_w1.out.trans (hb2.mono HX_w1.out.size)
    have HX_w2 := Lib.hid hX_w2
    obtain ⟨kX0_w2, kX1_w2⟩ := box_cells hX_w2
    clear hX_w2
    have z_w2 := HX_w2.out.size
    simp only [World.alloc, Array.size_push] at z_w2
    have hm_w2 := hm_w1.keep hb2 hm_w1.size
    clear hb2 kX0_w1 kX1_w1
    go_wp2
    go_ret
    exact ⟨rfl, HAL.out.trans (HX_w2.out.mono HAL.out.size)⟩
  | true =>
    rw [hsm0] at HSm0
    obtain ⟨hn0, he0, hj0, hy0⟩ := small_facts hsm0
    have HE0 := Lib.hid (And.intro he0 hy0)
    clear he0 hy0 hsm0
    obtain ⟨n, hnx⟩ : ∃ n, n = xs2.length := ⟨_, rfl⟩
    have HN := Lib.hid hnx
    by_cases h3 : 400 < s1.size
    · have g1 : (400 : Int) < (s1.size : Int) := by omega
      rw [← hnx]
      subst hW0
      clear hal hnx
      go_enter Tryd.func13, Tryd.ntmps13
      go_wp2_with fail
      with_reducible refine (HSm0.out _ HX.out).mono ?_
      rintro e w1 ⟨rfl, hb1⟩
      have hX_w1 := HX.out.trans (hb1.mono HX.out.size)
      have HX_w1 := Lib.hid hX_w1
      obtain ⟨kX0_w1, kX1_w1⟩ := box_cells hX_w1
      clear hX_w1
      have z_w1 := HX_w1.out.size
      simp only [World.alloc, Array.size_push] at z_w1
      have hm_w1 := hmW.keep hb1 hmW.size
      clear hb1
      go_wp2_with fail
      with_reducible refine (HAw.out _ hm_w1).mono ?_
      rintro e w2 ⟨rfl, hb2⟩
      have hX_w2 := HX_w1.out.trans (hb2.mono HX_w1.out.size)
      have HX_w2 := Lib.hid hX_w2
      obtain ⟨kX0_w2, kX1_w2⟩ := box_cells hX_w2
      clear hX_w2
      have z_w2 := HX_w2.out.size
      simp only [World.alloc, Array.size_push] at z_w2
      have hm_w2 := hm_w1.keep hb2 hm_w1.size
      clear hb2 kX0_w1 kX1_w1
      go_wp2
      go_ret
      exact ⟨rfl, HAL.out.trans (HX_w2.out.mono HAL.out.size)⟩
    have g1 : ¬ (400 : Int) < (s1.size : Int) := by omega
    by_cases h4 : 20 < n
    · have g0 : (20 : Int) < (n : Int) := by omega
      rw [← hnx]
      subst hW0
      clear hal hnx
      go_enter Tryd.func13, Tryd.ntmps13
      go_wp2_with fail
      with_reducible refine (HSm0.out _ HX.out).mono ?_
      rintro e w1 ⟨rfl, hb1⟩
      have hX_w1 := HX.out.trans (hb1.mono HX.out.size)
      have HX_w1 := Lib.hid hX_w1
      obtain ⟨kX0_w1, kX1_w1⟩ := box_cells hX_w1
      clear hX_w1
      have z_w1 := HX_w1.out.size
      simp only [World.alloc, Array.size_push] at z_w1
      have hm_w1 := hmW.keep hb1 hmW.size
      clear hb1
      go_wp2_with fail
      with_reducible refine (HAw.out _ hm_w1).mono ?_
      rintro e w2 ⟨rfl, hb2⟩
      have hX_w2 := HX_w1.out.trans (hb2.mono HX_w1.out.size)
      have HX_w2 := Lib.hid hX_w2
      obtain ⟨kX0_w2, kX1_w2⟩ := box_cells hX_w2
      clear hX_w2
      have z_w2 := HX_w2.out.size
      simp only [World.alloc, Array.size_push] at z_w2
      have hm_w2 := hm_w1.keep hb2 hm_w1.size
      clear hb2 kX0_w1 kX1_w1
      go_wp2
      go_ret
      exact ⟨rfl, HAL.out.trans (HX_w2.out.mono HAL.out.size)⟩
    have g0 : ¬ (20 : Int) < (n : Int) := by omega
    have hs : s1.size < 4294967281 := by omega
    have HRL := Lib.hid (fun (w' : World) (hb : Below W0.heap.size W0 w') => ((hr2.keep (hal.trans (hb.mono hal.size))).more (hal.trans (hb.mono hal.size)).size : RdS w' w'.heap.size A2 xs2))
    have HFi := Lib.hid (fun (h : ∀ y ∈ xs2, y.size ≤ 100) (w' : World) (hb : Below W0.heap.size W0 w') (hm : MaxL w') => fill_any A0 A2 xs0 xs2 c0 c2 b0 _ w' (HK0.out w' hb) (fun x hx => Nat.le_trans (HE0.out.2 x hx) (by decide)) (HRL.out w' hb) hl2 hm2 hn2 (fun y hy => Nat.le_trans (h y hy) (by decide)) hm)
    have HMa := Lib.hid (fun (w' : World) (hb : Below W0.heap.size W0 w') (hm : MaxL w') => match_any2 A0 xs0 c0 b0 _ s1 w' (HK0.out w' hb) hs hm)
    have HMb := Lib.hid (fun (t : List UInt8) (ht : t.length ≤ 8000000) (w' : World) (hb : Below W0.heap.size W0 w') (hm : MaxL w') => match_any2 A0 xs0 c0 b0 _ ⟨t.toArray⟩ w' (HK0.out w' hb) (by rw [size_mk]; omega) hm)
    have HFa := Lib.hid (fun (A : Option Addr) (xs : List ByteArray) (c : Nat) (w' : World) (hb : Below W0.heap.size W0 w') (hm : MaxL w') (hr : RdS w' w'.heap.size A xs) (hl : xs.length ≤ c) (hcm : c ≤ maxLen) (hnil : A = none → c = 0) (hz : ∀ x ∈ xs, x.size ≤ 100000) => fill_any A0 A xs0 xs c0 c b0 _ w' (HK0.out w' hb) (fun x hx => Nat.le_trans (HE0.out.2 x hx) (by decide)) hr hl hcm hnil hz hm)
    have HFM := Lib.hid (fun (r : List (List UInt8)) (h : Pt.matchP ⟨bs xs0, b0⟩ s1.data.toList = some r) => And.intro (Pt.fill_match h) (fun x hx => Nat.le_trans (match_sizes h x hx) (show s1.data.toList.length ≤ 100000 by rw [← Lib.size_eq]; omega)))
    have HMF := Lib.hid (fun (h : ∀ y ∈ xs2, y.size ≤ 100) (h0 : Pt.fillErr ⟨bs xs0, b0⟩ (bs xs2) = 0) => And.intro (Pt.match_fill h0) (filled_len h0 (fun x hx => Nat.le_trans (HE0.out.1 x hx) (by decide)) (fun x hx => by obtain ⟨y, hy, rfl⟩ := List.mem_map.1 hx; rw [← Lib.size_eq]; exact Nat.le_trans (h y hy) (by decide)) (by rw [bs_length]; omega)))
    have HL2 := Lib.hid hl2
    have HM2 := Lib.hid hm2
    have HR2 := Lib.hid hr2
    have hc2i : (c2 : Int) ≤ 9223372036854775807 := by unfold maxLen at hm2; omega
    have hnc2 : (n : Int) ≤ (c2 : Int) := by omega
    generalize Pt.filled ⟨bs xs0, b0⟩ (bs xs2) = fv at *
    generalize Pt.fillErr ⟨bs xs0, b0⟩ (bs xs2) = fe at *
    generalize hoa : Pt.matchP ⟨bs xs0, b0⟩ s1.data.toList = oa at *
    clear hoa
    rw [← hnx] at HFi ⊢
    clear hl2 hm2 hn2 hr2 hx2 hz2 hnx h4 h3 hs
    cases oa with
    | none =>
      subst hW0
      clear hal
      go_enter Tryd.func13, Tryd.ntmps13
      go_wp2_with fail
      with_reducible refine (HSm0.out _ HX.out).mono ?_
      rintro e w1 ⟨rfl, hb1⟩
      have hX_w1 := HX.out.trans (hb1.mono HX.out.size)
      have HX_w1 := Lib.hid hX_w1
      obtain ⟨kX0_w1, kX1_w1⟩ := box_cells hX_w1
      clear hX_w1
      have z_w1 := HX_w1.out.size
      simp only [World.alloc, Array.size_push] at z_w1
      have hm_w1 := hmW.keep hb1 hmW.size
      clear hb1
      set_option maxRecDepth 100000 in go_wp2
      go_loop [33] (fun i => ∃ k : Nat, k ≤ n ∧ i = .int .i64 k ∧ ∀ i (h : i < xs2.length), i < k → xs2[i].size ≤ 100) (fun i => n - (intOf i).toNat)
      case atStart => exact ⟨0, by omega, rfl, fun i _ h => by omega⟩
      case round =>
        obtain ⟨k, hkn, rfl, hsm⟩ := hrel
        have HSM := Lib.hid hsm
        clear hsm
        by_cases hlt : k < n
        · have hlx : k < xs2.length := by rw [← HN.out]; exact hlt
          obtain ⟨g, o, rfl, hg, hcell⟩ := (HRL.out _ HX_w1.out).cells (by omega)
          have hce := hcell k hlx
          clear hcell
          obtain ⟨y, hy⟩ : ∃ y, y = xs2[k] := ⟨_, rfl⟩
          rw [← hy] at hce
          have HY := Lib.hid hy
          clear hy
          by_cases h1 : 100 < y.size
          · have h1i : (100 : Int) < (y.size : Int) := by omega
            go_wp2_with fail
            with_reducible refine (HAw.out _ hm_w1).mono ?_
            rintro e w2 ⟨rfl, hb2⟩
            have hX_w2 := HX_w1.out.trans (hb2.mono HX_w1.out.size)
            have HX_w2 := Lib.hid hX_w2
            obtain ⟨kX0_w2, kX1_w2⟩ := box_cells hX_w2
            clear hX_w2
            have z_w2 := HX_w2.out.size
            simp only [World.alloc, Array.size_push] at z_w2
            have hm_w2 := hm_w1.keep hb2 hm_w1.size
            clear hb2 kX0_w1 kX1_w1
            go_wp2
            go_ret
            exact ⟨rfl, HAL.out.trans (HX_w2.out.mono HAL.out.size)⟩
          · have h1i : ¬ (100 : Int) < (y.size : Int) := by omega
            go_wp2
            go_round
            case rel =>
              refine ⟨k + 1, by omega, by go_num, fun i hi hik => ?_⟩
              rcases Nat.lt_or_ge i k with h | h
              · exact HSM.out i hi h
              · obtain rfl : i = k := by omega
                rw [← HY.out]
                omega
            case measure => first | (simp [intOf]; done) | (simp [intOf]; omega)
        · obtain rfl : k = n := by omega
          have hall : ∀ y ∈ xs2, y.size ≤ 100 := fun y hy => by
            obtain ⟨i, hi, rfl⟩ := List.getElem_of_mem hy
            exact HSM.out i hi (by rw [HN.out]; exact hi)
          have HALL := Lib.hid hall
          clear hall HSM
          go_wp2_with fail
          with_reducible refine (HMa.out _ HX_w1.out hm_w1).mono ?_
          rintro e w2 ⟨rfl, hb2⟩
          have hX_w2 := HX_w1.out.trans (hb2.mono HX_w1.out.size)
          have HX_w2 := Lib.hid hX_w2
          obtain ⟨kX0_w2, kX1_w2⟩ := box_cells hX_w2
          clear hX_w2
          have z_w2 := HX_w2.out.size
          simp only [World.alloc, Array.size_push] at z_w2
          have hm_w2 := hm_w1.keep hb2 hm_w1.size
          clear hb2 kX0_w1 kX1_w1
          by_cases hfe : fe = 0
          · have hmf := HMF.out HALL.out hfe
            subst hfe
            go_wp2_with fail
            with_reducible refine (HFi.out HALL.out _ HX_w2.out hm_w2).mono ?_
            rintro e w3 ⟨rfl, hb3⟩
            have hX_w3 := HX_w2.out.trans (hb3.mono HX_w2.out.size)
            have HX_w3 := Lib.hid hX_w3
            obtain ⟨kX0_w3, kX1_w3⟩ := box_cells hX_w3
            clear hX_w3
            have z_w3 := HX_w3.out.size
            simp only [World.alloc, Array.size_push] at z_w3
            have hm_w3 := hm_w2.keep hb3 hm_w2.size
            clear hb3 kX0_w2 kX1_w2
            have HMc := Lib.hid (HMb.out fv hmf.2)
            rw [hmf.1] at HMc
            clear hmf
            go_wp2_with fail
            with_reducible refine (HMc.out _ HX_w3.out hm_w3).mono ?_
            rintro e w4 ⟨A5, xs5, c5, rfl, hb5x, hc5, hcm5, hn5, hr5, hb4⟩
            have hX_w4 := HX_w3.out.trans (hb4.mono HX_w3.out.size)
            have HX_w4 := Lib.hid hX_w4
            obtain ⟨kX0_w4, kX1_w4⟩ := box_cells hX_w4
            clear hX_w4
            have z_w4 := HX_w4.out.size
            simp only [World.alloc, Array.size_push] at z_w4
            have hm_w4 := hm_w3.keep hb4 hm_w3.size
            clear hb4 kX0_w3 kX1_w3
            obtain rfl : xs5 = xs2 := bs_inj hb5x
            have HEq := Lib.hid (requal_any A5 A2 xs5 xs5 c5 c2 _ _ _ hr5 (HRL.out _ HX_w4.out) (Nat.le_trans hc5 hcm5) hc5 HL2.out (Nat.le_trans HL2.out HM2.out))
            rw [decide_eq_true (rfl : xs5 = xs5), ← HN.out] at HEq
            clear hb5x hc5 hcm5 hn5 hr5
            rw [← HN.out]
            go_wp2_with fail
            with_reducible refine (HEq.out).mono ?_
            rintro e w5 ⟨rfl, hd5⟩
            have hb5 := hd5.below (World.heap w4).size
            have hX_w5 := HX_w4.out.trans (hb5.mono HX_w4.out.size)
            have HX_w5 := Lib.hid hX_w5
            obtain ⟨kX0_w5, kX1_w5⟩ := box_cells hX_w5
            clear hX_w5
            have z_w5 := HX_w5.out.size
            simp only [World.alloc, Array.size_push] at z_w5
            have hm_w5 := hm_w4.keep hb5 hm_w4.size
            clear hb5 kX0_w4 kX1_w4
            go_wp2_with fail
            with_reducible refine (HAw.out _ hm_w5).mono ?_
            rintro e w6 ⟨rfl, hb6⟩
            have hX_w6 := HX_w5.out.trans (hb6.mono HX_w5.out.size)
            have HX_w6 := Lib.hid hX_w6
            obtain ⟨kX0_w6, kX1_w6⟩ := box_cells hX_w6
            clear hX_w6
            have z_w6 := HX_w6.out.size
            simp only [World.alloc, Array.size_push] at z_w6
            have hm_w6 := hm_w5.keep hb6 hm_w5.size
            clear hb6 kX0_w5 kX1_w5
            go_wp2
            go_ret
            exact ⟨rfl, HAL.out.trans (HX_w6.out.mono HAL.out.size)⟩
          · have u1 : ((fe : Int) == 0) = false := by rw [beq_eq_false_iff_ne]; omega
            have u2 : ((fe : Int) != 0) = true := by rw [bne, u1]; rfl
            go_wp2_with fail
            with_reducible refine (HFi.out HALL.out _ HX_w2.out hm_w2).mono ?_
            rintro e w3 ⟨rfl, hb3⟩
            have hX_w3 := HX_w2.out.trans (hb3.mono HX_w2.out.size)
            have HX_w3 := Lib.hid hX_w3
            obtain ⟨kX0_w3, kX1_w3⟩ := box_cells hX_w3
            clear hX_w3
            have z_w3 := HX_w3.out.size
            simp only [World.alloc, Array.size_push] at z_w3
            have hm_w3 := hm_w2.keep hb3 hm_w2.size
            clear hb3 kX0_w2 kX1_w2
            go_wp2_with fail
            with_reducible refine (HAw.out _ hm_w3).mono ?_
            rintro e w4 ⟨rfl, hb4⟩
            have hX_w4 := HX_w3.out.trans (hb4.mono HX_w3.out.size)
            have HX_w4 := Lib.hid hX_w4
            obtain ⟨kX0_w4, kX1_w4⟩ := box_cells hX_w4
            clear hX_w4
            have z_w4 := HX_w4.out.size
            simp only [World.alloc, Array.size_push] at z_w4
            have hm_w4 := hm_w3.keep hb4 hm_w3.size
            clear hb4 kX0_w3 kX1_w3
            go_wp2
            go_ret
            exact ⟨rfl, HAL.out.trans (HX_w4.out.mono HAL.out.size)⟩
    | some r =>
      subst hW0
      clear hal
      go_enter Tryd.func13, Tryd.ntmps13
      go_wp2_with fail
      with_reducible refine (HSm0.out _ HX.out).mono ?_
      rintro e w1 ⟨rfl, hb1⟩
      have hX_w1 := HX.out.trans (hb1.mono HX.out.size)
      have HX_w1 := Lib.hid hX_w1
      obtain ⟨kX0_w1, kX1_w1⟩ := box_cells hX_w1
      clear hX_w1
      have z_w1 := HX_w1.out.size
      simp only [World.alloc, Array.size_push] at z_w1
      have hm_w1 := hmW.keep hb1 hmW.size
      clear hb1
      set_option maxRecDepth 100000 in go_wp2
      go_loop [33] (fun i => ∃ k : Nat, k ≤ n ∧ i = .int .i64 k ∧ ∀ i (h : i < xs2.length), i < k → xs2[i].size ≤ 100) (fun i => n - (intOf i).toNat)
      case atStart => exact ⟨0, by omega, rfl, fun i _ h => by omega⟩
      case round =>
        obtain ⟨k, hkn, rfl, hsm⟩ := hrel
        have HSM := Lib.hid hsm
        clear hsm
        by_cases hlt : k < n
        · have hlx : k < xs2.length := by rw [← HN.out]; exact hlt
          obtain ⟨g, o, rfl, hg, hcell⟩ := (HRL.out _ HX_w1.out).cells (by omega)
          have hce := hcell k hlx
          clear hcell
          obtain ⟨y, hy⟩ : ∃ y, y = xs2[k] := ⟨_, rfl⟩
          rw [← hy] at hce
          have HY := Lib.hid hy
          clear hy
          by_cases h1 : 100 < y.size
          · have h1i : (100 : Int) < (y.size : Int) := by omega
            go_wp2_with fail
            with_reducible refine (HAw.out _ hm_w1).mono ?_
            rintro e w2 ⟨rfl, hb2⟩
            have hX_w2 := HX_w1.out.trans (hb2.mono HX_w1.out.size)
            have HX_w2 := Lib.hid hX_w2
            obtain ⟨kX0_w2, kX1_w2⟩ := box_cells hX_w2
            clear hX_w2
            have z_w2 := HX_w2.out.size
            simp only [World.alloc, Array.size_push] at z_w2
            have hm_w2 := hm_w1.keep hb2 hm_w1.size
            clear hb2 kX0_w1 kX1_w1
            go_wp2
            go_ret
            exact ⟨rfl, HAL.out.trans (HX_w2.out.mono HAL.out.size)⟩
          · have h1i : ¬ (100 : Int) < (y.size : Int) := by omega
            go_wp2
            go_round
            case rel =>
              refine ⟨k + 1, by omega, by go_num, fun i hi hik => ?_⟩
              rcases Nat.lt_or_ge i k with h | h
              · exact HSM.out i hi h
              · obtain rfl : i = k := by omega
                rw [← HY.out]
                omega
            case measure => first | (simp [intOf]; done) | (simp [intOf]; omega)
        · obtain rfl : k = n := by omega
          have hall : ∀ y ∈ xs2, y.size ≤ 100 := fun y hy => by
            obtain ⟨i, hi, rfl⟩ := List.getElem_of_mem hy
            exact HSM.out i hi (by rw [HN.out]; exact hi)
          have HALL := Lib.hid hall
          clear hall HSM
          go_wp2_with fail
          with_reducible refine (HMa.out _ HX_w1.out hm_w1).mono ?_
          rintro e w2 ⟨A4, xs4, c4, rfl, hb4x, hc4, hcm4, hn4, hr4, hb2⟩
          have hX_w2 := HX_w1.out.trans (hb2.mono HX_w1.out.size)
          have HX_w2 := Lib.hid hX_w2
          obtain ⟨kX0_w2, kX1_w2⟩ := box_cells hX_w2
          clear hX_w2
          have z_w2 := HX_w2.out.size
          simp only [World.alloc, Array.size_push] at z_w2
          have hm_w2 := hm_w1.keep hb2 hm_w1.size
          clear hb2 kX0_w1 kX1_w1
          have hfm := HFM.out r rfl
          have HFb := Lib.hid (HFa.out A4 xs4 c4 _ HX_w2.out hm_w2 hr4 hc4 hcm4 hn4 (fun x hx => by rw [Lib.size_eq]; exact hfm.2 _ (by rw [← hb4x]; exact List.mem_map_of_mem hx)))
          rw [hb4x, hfm.1.1, hfm.1.2] at HFb
          clear hb4x hc4 hcm4 hn4 hr4 hfm
          generalize xs4.length = n4 at *
          go_wp2_with fail
          with_reducible refine HFb.out.mono ?_
          rintro e w3 ⟨he3, hb3⟩
          rw [show (ByteArray.mk s1.data.toList.toArray) = s1 from ba_ext rfl] at he3
          subst he3
          have hX_w3 := HX_w2.out.trans (hb3.mono HX_w2.out.size)
          have HX_w3 := Lib.hid hX_w3
          obtain ⟨kX0_w3, kX1_w3⟩ := box_cells hX_w3
          clear hX_w3
          have z_w3 := HX_w3.out.size
          simp only [World.alloc, Array.size_push] at z_w3
          have hm_w3 := hm_w2.keep hb3 hm_w2.size
          clear hb3 kX0_w2 kX1_w2
          by_cases hfe : fe = 0
          · have hmf := HMF.out HALL.out hfe
            subst hfe
            go_wp2_with fail
            with_reducible refine (HFi.out HALL.out _ HX_w3.out hm_w3).mono ?_
            rintro e w4 ⟨rfl, hb4⟩
            have hX_w4 := HX_w3.out.trans (hb4.mono HX_w3.out.size)
            have HX_w4 := Lib.hid hX_w4
            obtain ⟨kX0_w4, kX1_w4⟩ := box_cells hX_w4
            clear hX_w4
            have z_w4 := HX_w4.out.size
            simp only [World.alloc, Array.size_push] at z_w4
            have hm_w4 := hm_w3.keep hb4 hm_w3.size
            clear hb4 kX0_w3 kX1_w3
            have HMc := Lib.hid (HMb.out fv hmf.2)
            rw [hmf.1] at HMc
            clear hmf
            go_wp2_with fail
            with_reducible refine (HMc.out _ HX_w4.out hm_w4).mono ?_
            rintro e w5 ⟨A5, xs5, c5, rfl, hb5x, hc5, hcm5, hn5, hr5, hb5⟩
            have hX_w5 := HX_w4.out.trans (hb5.mono HX_w4.out.size)
            have HX_w5 := Lib.hid hX_w5
            obtain ⟨kX0_w5, kX1_w5⟩ := box_cells hX_w5
            clear hX_w5
            have z_w5 := HX_w5.out.size
            simp only [World.alloc, Array.size_push] at z_w5
            have hm_w5 := hm_w4.keep hb5 hm_w4.size
            clear hb5 kX0_w4 kX1_w4
            obtain rfl : xs5 = xs2 := bs_inj hb5x
            have HEq := Lib.hid (requal_any A5 A2 xs5 xs5 c5 c2 _ _ _ hr5 (HRL.out _ HX_w5.out) (Nat.le_trans hc5 hcm5) hc5 HL2.out (Nat.le_trans HL2.out HM2.out))
            rw [decide_eq_true (rfl : xs5 = xs5), ← HN.out] at HEq
            clear hb5x hc5 hcm5 hn5 hr5
            rw [← HN.out]
            go_wp2_with fail
            with_reducible refine (HEq.out).mono ?_
            rintro e w6 ⟨rfl, hd6⟩
            have hb6 := hd6.below (World.heap w5).size
            have hX_w6 := HX_w5.out.trans (hb6.mono HX_w5.out.size)
            have HX_w6 := Lib.hid hX_w6
            obtain ⟨kX0_w6, kX1_w6⟩ := box_cells hX_w6
            clear hX_w6
            have z_w6 := HX_w6.out.size
            simp only [World.alloc, Array.size_push] at z_w6
            have hm_w6 := hm_w5.keep hb6 hm_w5.size
            clear hb6 kX0_w5 kX1_w5
            go_wp2_with fail
            with_reducible refine (HAw.out _ hm_w6).mono ?_
            rintro e w7 ⟨rfl, hb7⟩
            have hX_w7 := HX_w6.out.trans (hb7.mono HX_w6.out.size)
            have HX_w7 := Lib.hid hX_w7
            obtain ⟨kX0_w7, kX1_w7⟩ := box_cells hX_w7
            clear hX_w7
            have z_w7 := HX_w7.out.size
            simp only [World.alloc, Array.size_push] at z_w7
            have hm_w7 := hm_w6.keep hb7 hm_w6.size
            clear hb7 kX0_w6 kX1_w6
            go_wp2
            go_ret
            exact ⟨rfl, HAL.out.trans (HX_w7.out.mono HAL.out.size)⟩
          · have u1 : ((fe : Int) == 0) = false := by rw [beq_eq_false_iff_ne]; omega
            have u2 : ((fe : Int) != 0) = true := by rw [bne, u1]; rfl
            go_wp2_with fail
            with_reducible refine (HFi.out HALL.out _ HX_w3.out hm_w3).mono ?_
            rintro e w4 ⟨rfl, hb4⟩
            have hX_w4 := HX_w3.out.trans (hb4.mono HX_w3.out.size)
            have HX_w4 := Lib.hid hX_w4
            obtain ⟨kX0_w4, kX1_w4⟩ := box_cells hX_w4
            clear hX_w4
            have z_w4 := HX_w4.out.size
            simp only [World.alloc, Array.size_push] at z_w4
            have hm_w4 := hm_w3.keep hb4 hm_w3.size
            clear hb4 kX0_w3 kX1_w3
            go_wp2_with fail
            with_reducible refine (HAw.out _ hm_w4).mono ?_
            rintro e w5 ⟨rfl, hb5⟩
            have hX_w5 := HX_w4.out.trans (hb5.mono HX_w4.out.size)
            have HX_w5 := Lib.hid hX_w5
            obtain ⟨kX0_w5, kX1_w5⟩ := box_cells hX_w5
            clear hX_w5
            have z_w5 := HX_w5.out.size
            simp only [World.alloc, Array.size_push] at z_w5
            have hm_w5 := hm_w4.keep hb5 hm_w4.size
            clear hb5 kX0_w4 kX1_w4
            go_wp2
            go_ret
            exact ⟨rfl, HAL.out.trans (HX_w5.out.mono HAL.out.size)⟩

end Go.Proofs.YtffjmhdnfkpdpaaDoor.patternCaptures
