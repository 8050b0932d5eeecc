/- PatternMatches returns true at every string and every pattern (the card: the variables that it lists hold what the program text lays). Conditions: none of its own. -/
import Derived.Test.YtffjmhdnfkpdpaaDoorCards
import Derived.Test.YtffjmhdnfkpdpaaDoorTie
import Derived.WalkKit
import Derived.ProofKit
import Derived.OpenShut
import Derived.ShutString
import Derived.Test.YtffjmhdnfkpdpaaDoorPatAwake2
import Derived.Test.YtffjmhdnfkpdpaaDoorPatOpen
import Derived.Test.YtffjmhdnfkpdpaaDoorPatFn6
import Derived.Test.YtffjmhdnfkpdpaaDoorPatFn4
import Derived.Test.YtffjmhdnfkpdpaaDoorPatHeld
namespace Go.Proofs.YtffjmhdnfkpdpaaDoor.patternMatches
open Go.ChangeShapes Go.WideShapes Go.ChangeAt Go.RowKit
open Go.ChangeMaps (open_string shut_string)
set_option linter.unusedVariables false

theorem own : ownKnob Tryd.prog.godebug = none := by kernel_rfl

set_option maxHeartbeats 8000000 in
theorem walk (w : World) (A0 : Option Addr) (xs0 : List ByteArray) (c0 : Nat) (b0 : Bool) (hp0 : PatR w A0 xs0 c0 b0 ⟨bs xs0, b0⟩) (hz0 : ∀ x ∈ xs0, x.size ≤ 140737488355000) (s1 : ByteArray) (w1 : s1.size ≤ maxLen) (hm : MaxL w) :
    Calls Tryd.prog 5 #[patV A0 xs0.length c0 b0, .string s1] w fun e w' => e = .returned (.bool true) ∧ Below w.heap.size w w' := by
  obtain ⟨W0, hW0⟩ : ∃ W0, W0 = (w.alloc (.cells #[.slice A0 xs0.length c0, .bool b0] 25)) := ⟨_, rfl⟩
  have hal : Below w.heap.size w W0 := by rw [hW0]; exact (Below.refl _ _).alloc (Nat.le_refl _) _
  have hmW := hm.keep hal hm.size
  have HK0 := Lib.hid (fun (w' : World) (hb : Below W0.heap.size W0 w') => hp0.keep (hal.trans (hb.mono hal.size)))
  have HAL := Lib.hid hal
  have HX := Lib.hid (Below.refl W0.heap.size W0)
  have HAw := Lib.hid (fun (w : World) (hm : MaxL w) => awake3_any w hm)
  have HSm0 := Lib.hid (fun (w' : World) (hb : Below W0.heap.size W0 w') => small_any A0 xs0 c0 b0 _ w' (HK0.out w' hb) (fun x hx => Nat.le_trans (hz0 x hx) (by decide)))
  generalize smallB (bs xs0) = sm at HSm0
  cases sm with
  | false =>
    subst hW0
    clear hal
    go_enter Tryd.func5, Tryd.ntmps5
    go_wp2_with fail
    with_reducible refine (HSm0.out _ HX.out).mono ?_
    rintro e w1 ⟨rfl, hb1⟩
    have hX_w1 := HX.out.trans (hb1.mono HX.out.size)
    have HX_w1 := Lib.hid hX_w1
    obtain ⟨kX0_w1, kX1_w1⟩ := box_cells hX_w1
    clear hX_w1
    have z_w1 := HX_w1.out.size
    simp only [World.alloc, Array.size_push] at z_w1
    have hm_w1 := hmW.keep hb1 hmW.size
    clear hb1
    go_wp2_with fail
    with_reducible refine (HAw.out _ hm_w1).mono ?_
    rintro e w2 ⟨rfl, hb2⟩
    have hX_w2 := HX_w1.out.trans (hb2.mono HX_w1.out.size)
    have HX_w2 := Lib.hid hX_w2
    obtain ⟨kX0_w2, kX1_w2⟩ := box_cells hX_w2
    clear hX_w2
    have z_w2 := HX_w2.out.size
    simp only [World.alloc, Array.size_push] at z_w2
    have hm_w2 := hm_w1.keep hb2 hm_w1.size
    clear hb2 kX0_w1 kX1_w1
    go_wp2
    go_ret
    exact ⟨rfl, HAL.out.trans (HX_w2.out.mono HAL.out.size)⟩
  | true =>
    by_cases h4 : 400 < s1.size
    · have g0 : (400 : Int) < (s1.size : Int) := by omega
      subst hW0
      clear hal
      go_enter Tryd.func5, Tryd.ntmps5
      go_wp2_with fail
      with_reducible refine (HSm0.out _ HX.out).mono ?_
      rintro e w1 ⟨rfl, hb1⟩
      have hX_w1 := HX.out.trans (hb1.mono HX.out.size)
      have HX_w1 := Lib.hid hX_w1
      obtain ⟨kX0_w1, kX1_w1⟩ := box_cells hX_w1
      clear hX_w1
      have z_w1 := HX_w1.out.size
      simp only [World.alloc, Array.size_push] at z_w1
      have hm_w1 := hmW.keep hb1 hmW.size
      clear hb1
      go_wp2_with fail
      with_reducible refine (HAw.out _ hm_w1).mono ?_
      rintro e w2 ⟨rfl, hb2⟩
      have hX_w2 := HX_w1.out.trans (hb2.mono HX_w1.out.size)
      have HX_w2 := Lib.hid hX_w2
      obtain ⟨kX0_w2, kX1_w2⟩ := box_cells hX_w2
      clear hX_w2
      have z_w2 := HX_w2.out.size
      simp only [World.alloc, Array.size_push] at z_w2
      have hm_w2 := hm_w1.keep hb2 hm_w1.size
      clear hb2 kX0_w1 kX1_w1
      go_wp2
      go_ret
      exact ⟨rfl, HAL.out.trans (HX_w2.out.mono HAL.out.size)⟩
    have g0 : ¬ (400 : Int) < (s1.size : Int) := by omega
    have hs : s1.size < 4294967281 := by omega
    have HM := Lib.hid (fun (w' : World) (hb : Below W0.heap.size W0 w') (hm : MaxL w') => match_any A0 xs0 c0 b0 _ s1 w' (HK0.out w' hb) hs hm)
    have HR := Lib.hid (fun (w' : World) (hb : Below W0.heap.size W0 w') (hm : MaxL w') => rmatch_any A0 xs0 c0 b0 _ s1 w' (HK0.out w' hb) hs hm)
    generalize Pt.matchP ⟨bs xs0, b0⟩ s1.data.toList = o at HM HR
    clear hs h4
    cases o with
    | none =>
      subst hW0
      clear hal
      go_enter Tryd.func5, Tryd.ntmps5
      go_wp2_with fail
      with_reducible refine (HSm0.out _ HX.out).mono ?_
      rintro e w1 ⟨rfl, hb1⟩
      have hX_w1 := HX.out.trans (hb1.mono HX.out.size)
      have HX_w1 := Lib.hid hX_w1
      obtain ⟨kX0_w1, kX1_w1⟩ := box_cells hX_w1
      clear hX_w1
      have z_w1 := HX_w1.out.size
      simp only [World.alloc, Array.size_push] at z_w1
      have hm_w1 := hmW.keep hb1 hmW.size
      clear hb1
      go_wp2_with fail
      with_reducible refine (HM.out _ HX_w1.out hm_w1).mono ?_
      rintro e w2 ⟨rfl, hb2⟩
      have hX_w2 := HX_w1.out.trans (hb2.mono HX_w1.out.size)
      have HX_w2 := Lib.hid hX_w2
      obtain ⟨kX0_w2, kX1_w2⟩ := box_cells hX_w2
      clear hX_w2
      have z_w2 := HX_w2.out.size
      simp only [World.alloc, Array.size_push] at z_w2
      have hm_w2 := hm_w1.keep hb2 hm_w1.size
      clear hb2 kX0_w1 kX1_w1
      go_wp2_with fail
      with_reducible refine (HR.out _ HX_w2.out hm_w2).mono ?_
      rintro e w3 ⟨rfl, hb3⟩
      have hX_w3 := HX_w2.out.trans (hb3.mono HX_w2.out.size)
      have HX_w3 := Lib.hid hX_w3
      obtain ⟨kX0_w3, kX1_w3⟩ := box_cells hX_w3
      clear hX_w3
      have z_w3 := HX_w3.out.size
      simp only [World.alloc, Array.size_push] at z_w3
      have hm_w3 := hm_w2.keep hb3 hm_w2.size
      clear hb3 kX0_w2 kX1_w2
      go_wp2_with fail
      with_reducible refine (equal_nil _).mono ?_
      rintro e w4 ⟨rfl, hd4⟩
      have hb4 := hd4.below (World.heap w3).size
      have hX_w4 := HX_w3.out.trans (hb4.mono HX_w3.out.size)
      have HX_w4 := Lib.hid hX_w4
      obtain ⟨kX0_w4, kX1_w4⟩ := box_cells hX_w4
      clear hX_w4
      have z_w4 := HX_w4.out.size
      simp only [World.alloc, Array.size_push] at z_w4
      have hm_w4 := hm_w3.keep hb4 hm_w3.size
      clear hb4 kX0_w3 kX1_w3
      go_wp2_with fail
      with_reducible refine (HAw.out _ hm_w4).mono ?_
      rintro e w5 ⟨rfl, hb5⟩
      have hX_w5 := HX_w4.out.trans (hb5.mono HX_w4.out.size)
      have HX_w5 := Lib.hid hX_w5
      obtain ⟨kX0_w5, kX1_w5⟩ := box_cells hX_w5
      clear hX_w5
      have z_w5 := HX_w5.out.size
      simp only [World.alloc, Array.size_push] at z_w5
      have hm_w5 := hm_w4.keep hb5 hm_w4.size
      clear hb5 kX0_w4 kX1_w4
      go_wp2
      go_ret
      exact ⟨rfl, HAL.out.trans (HX_w5.out.mono HAL.out.size)⟩
    | some l =>
      subst hW0
      clear hal
      go_enter Tryd.func5, Tryd.ntmps5
      go_wp2_with fail
      with_reducible refine (HSm0.out _ HX.out).mono ?_
      rintro e w1 ⟨rfl, hb1⟩
      have hX_w1 := HX.out.trans (hb1.mono HX.out.size)
      have HX_w1 := Lib.hid hX_w1
      obtain ⟨kX0_w1, kX1_w1⟩ := box_cells hX_w1
      clear hX_w1
      have z_w1 := HX_w1.out.size
      simp only [World.alloc, Array.size_push] at z_w1
      have hm_w1 := hmW.keep hb1 hmW.size
      clear hb1
      go_wp2_with fail
      with_reducible refine (HM.out _ HX_w1.out hm_w1).mono ?_
      rintro e w2 ⟨v, rfl, A, xs, c, rfl, hbx, hc, hcm, hr, hb2⟩
      have hX_w2 := HX_w1.out.trans (hb2.mono HX_w1.out.size)
      have HX_w2 := Lib.hid hX_w2
      obtain ⟨kX0_w2, kX1_w2⟩ := box_cells hX_w2
      clear hX_w2
      have z_w2 := HX_w2.out.size
      simp only [World.alloc, Array.size_push] at z_w2
      have hm_w2 := hm_w1.keep hb2 hm_w1.size
      clear hb2 kX0_w1 kX1_w1
      have HF1 := Lib.hid (And.intro hbx (And.intro hc (And.intro hcm hr)))
      clear hbx hc hcm hr
      have HP := Lib.hid (Below.refl (World.heap w2).size w2)
      go_wp2_with fail
      with_reducible refine (HR.out _ HX_w2.out hm_w2).mono ?_
      rintro e w3 ⟨v, rfl, B, ys, d, rfl, hby, hd, hdm, hr, hb3⟩
      have hX_w3 := HX_w2.out.trans (hb3.mono HX_w2.out.size)
      have HX_w3 := Lib.hid hX_w3
      obtain ⟨kX0_w3, kX1_w3⟩ := box_cells hX_w3
      clear hX_w3
      have hP_w3 := HP.out.trans (hb3.mono HP.out.size)
      have HP_w3 := Lib.hid hP_w3
      clear hP_w3
      have z_w3 := HX_w3.out.size
      simp only [World.alloc, Array.size_push] at z_w3
      have hm_w3 := hm_w2.keep hb3 hm_w2.size
      clear hb3 kX0_w2 kX1_w2
      have HF2 := Lib.hid (And.intro hby (And.intro hd (And.intro hdm hr)))
      clear hby hd hdm hr
      have hxy : xs = ys := bs_inj (HF1.out.1.trans HF2.out.1.symm)
      subst hxy
      have HE := Lib.hid (requal_any A B xs xs c d _ _ _ (HF1.out.2.2.2.keep HP_w3.out) HF2.out.2.2.2 (Nat.le_trans HF1.out.2.1 HF1.out.2.2.1) HF1.out.2.1 HF2.out.2.1 (Nat.le_trans HF2.out.2.1 HF2.out.2.2.1))
      rw [decide_eq_true (rfl : xs = xs)] at HE
      go_wp2_with fail
      with_reducible refine (HE.out).mono ?_
      rintro e w4 ⟨rfl, hd4⟩
      have hb4 := hd4.below (World.heap w3).size
      have hX_w4 := HX_w3.out.trans (hb4.mono HX_w3.out.size)
      have HX_w4 := Lib.hid hX_w4
      obtain ⟨kX0_w4, kX1_w4⟩ := box_cells hX_w4
      clear hX_w4
      have hP_w4 := HP_w3.out.trans (hb4.mono HP_w3.out.size)
      have HP_w4 := Lib.hid hP_w4
      clear hP_w4
      have z_w4 := HX_w4.out.size
      simp only [World.alloc, Array.size_push] at z_w4
      have hm_w4 := hm_w3.keep hb4 hm_w3.size
      clear hb4 kX0_w3 kX1_w3
      go_wp2_with fail
      with_reducible refine (HAw.out _ hm_w4).mono ?_
      rintro e w5 ⟨rfl, hb5⟩
      have hX_w5 := HX_w4.out.trans (hb5.mono HX_w4.out.size)
      have HX_w5 := Lib.hid hX_w5
      obtain ⟨kX0_w5, kX1_w5⟩ := box_cells hX_w5
      clear hX_w5
      have hP_w5 := HP_w4.out.trans (hb5.mono HP_w4.out.size)
      have HP_w5 := Lib.hid hP_w5
      clear hP_w5
      have z_w5 := HX_w5.out.size
      simp only [World.alloc, Array.size_push] at z_w5
      have hm_w5 := hm_w4.keep hb5 hm_w4.size
      clear hb5 kX0_w4 kX1_w4
      go_wp2
      go_ret
      exact ⟨rfl, HAL.out.trans (HX_w5.out.mono HAL.out.size)⟩

set_option maxRecDepth 1000000 in
theorem lifted (os : Os) (started : os.Started) (H : Type) (enc : TypeId × Value → H) :
    ReturnsInHanded {} Tryd.checked os 5 .any (fun w args => (Rows.patternMatchesSpec.pre enc Tryd.prog Tryd.f5 Rows.patternMatchesRow.domain false w args ∧ laidMetH Tryd.prog Rows.patternMatchesRow.laid w) ∧ sizedMet enc Tryd.prog Tryd.f5 (OpenSpec.ofChange Rows.patternMatchesSpec) false w args)
      (Rows.patternMatchesSpec.post enc Tryd.prog Tryd.f5 false true false false) := by
  refine sizedWrap own started (by kernel_rfl) Tryd.func5
    (ChangeSpec.witness_shaped (enc := enc) (C := Tryd.checked) (os := os) (X := fun w _ => laidMetH Tryd.prog Rows.patternMatchesRow.laid w) false (World.laidAll Tryd.prog os Rows.patternMatchesRow.laid) #[.agg #[.slice none 0 0, .bool false], .string ByteArray.empty] 8 (World.laidAll_os _ _ _)
      (World.shaped_of_ZipB (by kernel_rfl) (by kernel_rfl)) (by kernel_rfl) (by kernel_rfl) (by kernel_rfl)
      (by rw [MakeChecks.laidMetH_plain _ _ _ (by kernel_rfl)]; exact laidMet_laidAll _ (by kernel_rfl) (by kernel_rfl))) ?_
  intro W base args ds gs before hval0 hW hsh hsz
  have hval : ∀ (j : Nat) t v, Tryd.f5.params[j]? = some t → args[j]? = some v → Value.okWide Tryd.prog W .any base t v := hval0
  have hW' := hW
  obtain ⟨p, q, hA0, hV, rfl, hfz, hnd⟩ := hW
  have hA : DataW.TrodAll enc Tryd.prog W 0 (fun _ => true) true Tryd.f5.params.toList args.toList ds p := hA0
  rw [Tryd.params5] at hA hval
  obtain ⟨v0, vs0, d0, ds0, p0, q0, hargs, rfl, rfl, h0, r0⟩ := trodAll_cons hA
  obtain ⟨v1, vs1, d1, ds1, p1, q1, rfl, rfl, rfl, h1, r1⟩ := trodAll_cons r0
  obtain ⟨rfl, rfl, rfl⟩ := trodAll_nil r1
  obtain rfl : args = #[v0, v1] := by cases args; simp_all
  obtain ⟨rfl, rfl⟩ := trodVars_none hV
  have k0 := h0
  have lt0 : ∀ x ∈ p0, x.block < W.heap.size := by obtain ⟨m, hm⟩ := k0; exact DataW.trod_lt m _ _ _ hm
  obtain ⟨A0, xs0, c0, b0, rfl, hp0, hz0⟩ := open_pat (hval 0 25 v0 rfl rfl) h0 (weighed hsz (j := 0) rfl rfl)
  obtain ⟨s1, rfl, rfl, rfl, w1⟩ := open_string Tryd.underlying9 (hval 1 9 v1 rfl rfl) h1
  clear hA0 hval0
  refine (walk W A0 xs0 c0 b0 hp0 hz0 s1 w1 (maxl_of W hsh)).mono fun e W' ⟨he, bel⟩ => ?_
  subst he
  exact ⟨_, rfl, _, _, _, [], _, [], hW', trodAll_mk1 (shut_bool Tryd.underlying4 _), (trodAll_cons_mk (Below.trod laidOutW (by kernel_rfl) (of_decide_eq_true (by kernel_rfl)) k0 bel lt0) (trodAll_cons_mk (shut_string Tryd.underlying9 w1) trodAll_mk0)), rfl, bel.frame _, fun h => by cases h⟩

theorem over : Rows.patternMatchesRow.holds Tryd.pinned (OpenSpec.ofChange Rows.patternMatchesSpec) :=
  OpenClaim.holds_of_wide 5 Tryd.f5 rfl rfl rfl rfl rfl rfl rfl ⟨rfl, rfl, rfl, rfl, rfl⟩ rfl rfl rfl rfl rfl (by kernel_rfl) Tryd.func5 (by kernel_rfl)
    (of_decide_eq_true (by kernel_rfl)) (by unfold Func.isWrapper; first | (rw [if_pos (by decide +kernel)]; kernel_rfl) | (rw [if_neg (by decide +kernel)]; exact ⟨rfl, rfl⟩))
    (fun os started H enc _ => lifted os started H enc)

theorem proved : Rows.PatternMatchesCardSaid :=
  Claim7.holds_tied_plain_at .later [] [.data, .pinned] true (true, "0930791aa66c17d9d77aa9bf9557ef32a5df6c816373c8e2ac5b4cc8f9cdf204") false over (fun _ h => by cases h) (by kernel_rfl) (fun _ h => by cases h) patternMatches_row_tie rfl ⟨rfl, rfl⟩ (by kernel_rfl) rfl
    (fun f fn hf hfn => by
      obtain rfl : f = 5 := Option.some.inj ((show Tryd.prog.funcNamed Rows.patternMatchesRow.func = some 5 by kernel_rfl).symm.trans hf) |>.symm
      obtain rfl : fn = Tryd.f5 := (Option.some.inj (Tryd.func5.symm.trans hfn)).symm
      exact ⟨by kernel_rfl, fun j t ht => by
        rw [Tryd.params5] at ht
        have hm : t ∈ [25, 9] := by simpa using Array.mem_of_getElem? ht
        have hall : ([25, 9].all fun u => !Tryd.prog.wantsStandIn u) = true := by kernel_rfl
        exact (show Tryd.prog.wantsStandIn t = false by simpa using List.all_eq_true.1 hall t hm)⟩)
    (by kernel_rfl)
#print axioms proved
end Go.Proofs.YtffjmhdnfkpdpaaDoor.patternMatches
