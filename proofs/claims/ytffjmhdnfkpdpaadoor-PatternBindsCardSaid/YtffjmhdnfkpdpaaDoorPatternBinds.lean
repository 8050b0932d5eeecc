/- PatternBinds returns true at every two patterns (the card: the variables that it lists hold what the program text lays). Conditions: none of its own. -/
import Derived.Test.YtffjmhdnfkpdpaaDoorCards
import Derived.Test.YtffjmhdnfkpdpaaDoorTie
import Derived.WalkKit
import Derived.ProofKit
import Derived.OpenShut
import Derived.ShutString
import Derived.Test.YtffjmhdnfkpdpaaDoorPatHeld
import Derived.Test.YtffjmhdnfkpdpaaDoorPatOpen
import Derived.Test.YtffjmhdnfkpdpaaDoorPatBind3
namespace Go.Proofs.YtffjmhdnfkpdpaaDoor.patternBinds
open Go.ChangeShapes Go.WideShapes Go.ChangeAt Go.RowKit
open Go.ChangeMaps (open_string shut_string)
set_option linter.unusedVariables false

theorem own : ownKnob Tryd.prog.godebug = none := by kernel_rfl

set_option maxHeartbeats 8000000 in
theorem walk (w : World) (A0 : Option Addr) (xs0 : List ByteArray) (c0 : Nat) (b0 : Bool) (hp0 : PatR w A0 xs0 c0 b0 ⟨bs xs0, b0⟩) (hz0 : ∀ x ∈ xs0, x.size ≤ 140737488355000) (A1 : Option Addr) (xs1 : List ByteArray) (c1 : Nat) (b1 : Bool) (hp1 : PatR w A1 xs1 c1 b1 ⟨bs xs1, b1⟩) (hz1 : ∀ x ∈ xs1, x.size ≤ 140737488355000) (hm : MaxL w) :
    Calls Tryd.prog 10 #[patV A0 xs0.length c0 b0, patV A1 xs1.length c1 b1] w fun e w' => e = .returned (.bool true) ∧ Below w.heap.size w w' := by
  obtain ⟨W0, hW0⟩ : ∃ W0, W0 = ((w.alloc (.cells #[.slice A0 xs0.length c0, .bool b0] 25)).alloc (.cells #[.slice A1 xs1.length c1, .bool b1] 25)) := ⟨_, rfl⟩
  have hal : Below w.heap.size w W0 := by rw [hW0]; exact ((Below.refl _ _).alloc (Nat.le_refl _) _).alloc (by simp) _
  have hmW := hm.keep hal hm.size
  have HK0 := Lib.hid (fun (w' : World) (hb : Below W0.heap.size W0 w') => hp0.keep (hal.trans (hb.mono hal.size)))
  have HK1 := Lib.hid (fun (w' : World) (hb : Below W0.heap.size W0 w') => hp1.keep (hal.trans (hb.mono hal.size)))
  have HAL := Lib.hid hal
  have HX := Lib.hid (Below.refl W0.heap.size W0)
  have HAw := Lib.hid (fun (w : World) (hm : MaxL w) => awake3_any w hm)
  have HSm0 := Lib.hid (fun (w' : World) (hb : Below W0.heap.size W0 w') => small_any A0 xs0 c0 b0 _ w' (HK0.out w' hb) (fun x hx => Nat.le_trans (hz0 x hx) (by decide)))
  cases hsm0 : smallB (bs xs0) with
  | false =>
    rw [hsm0] at HSm0
    subst hW0
    clear hal
    go_enter Tryd.func10, Tryd.ntmps10
    go_wp2_with fail
    with_reducible refine (HSm0.out _ HX.out).mono ?_
    rintro e w1 ⟨rfl, hb1⟩
    have hX_w1 := HX.out.trans (hb1.mono HX.out.size)
    have HX_w1 := Lib.hid hX_w1
    obtain ⟨kX0_w1, kX1_w1, kX2_w1, kX3_w1⟩ := box2_cells hX_w1
    clear hX_w1
    have z_w1 := HX_w1.out.size
    simp only [World.alloc, Array.size_push] at z_w1
    have hm_w1 := hmW.keep hb1 hmW.size
    clear hb1
    go_wp2_with fail
    with_reducible refine (HAw.out _ hm_w1).mono ?_
    rintro e w2 ⟨rfl, hb2⟩
    have hX_w2 := HX_w1.out.trans (hb2.mono HX_w1.out.size)
    have HX_w2 := Lib.hid hX_w2
    obtain ⟨kX0_w2, kX1_w2, kX2_w2, kX3_w2⟩ := box2_cells hX_w2
    clear hX_w2
    have z_w2 := HX_w2.out.size
    simp only [World.alloc, Array.size_push] at z_w2
    have hm_w2 := hm_w1.keep hb2 hm_w1.size
    clear hb2 kX0_w1 kX1_w1 kX2_w1 kX3_w1
    go_wp2
    go_ret
    exact ⟨rfl, HAL.out.trans (HX_w2.out.mono HAL.out.size)⟩
  | true =>
    rw [hsm0] at HSm0
    obtain ⟨hn0, he0, hj0, hy0⟩ := small_facts hsm0
    have HE0 := Lib.hid (And.intro he0 hy0)
    clear he0 hy0 hsm0
    have HSm1 := Lib.hid (fun (w' : World) (hb : Below W0.heap.size W0 w') => small_any A1 xs1 c1 b1 _ w' (HK1.out w' hb) (fun x hx => Nat.le_trans (hz1 x hx) (by decide)))
    cases hsm1 : smallB (bs xs1) with
    | false =>
      rw [hsm1] at HSm1
      subst hW0
      clear hal
      go_enter Tryd.func10, Tryd.ntmps10
      go_wp2_with fail
      with_reducible refine (HSm0.out _ HX.out).mono ?_
      rintro e w1 ⟨rfl, hb1⟩
      have hX_w1 := HX.out.trans (hb1.mono HX.out.size)
      have HX_w1 := Lib.hid hX_w1
      obtain ⟨kX0_w1, kX1_w1, kX2_w1, kX3_w1⟩ := box2_cells hX_w1
      clear hX_w1
      have z_w1 := HX_w1.out.size
      simp only [World.alloc, Array.size_push] at z_w1
      have hm_w1 := hmW.keep hb1 hmW.size
      clear hb1
      go_wp2_with fail
      with_reducible refine (HSm1.out _ HX_w1.out).mono ?_
      rintro e w2 ⟨rfl, hb2⟩
      have hX_w2 := HX_w1.out.trans (hb2.mono HX_w1.out.size)
      have HX_w2 := Lib.hid hX_w2
      obtain ⟨kX0_w2, kX1_w2, kX2_w2, kX3_w2⟩ := box2_cells hX_w2
      clear hX_w2
      have z_w2 := HX_w2.out.size
      simp only [World.alloc, Array.size_push] at z_w2
      have hm_w2 := hm_w1.keep hb2 hm_w1.size
      clear hb2 kX0_w1 kX1_w1 kX2_w1 kX3_w1
      go_wp2_with fail
      with_reducible refine (HAw.out _ hm_w2).mono ?_
      rintro e w3 ⟨rfl, hb3⟩
      have hX_w3 := HX_w2.out.trans (hb3.mono HX_w2.out.size)
      have HX_w3 := Lib.hid hX_w3
      obtain ⟨kX0_w3, kX1_w3, kX2_w3, kX3_w3⟩ := box2_cells hX_w3
      clear hX_w3
      have z_w3 := HX_w3.out.size
      simp only [World.alloc, Array.size_push] at z_w3
      have hm_w3 := hm_w2.keep hb3 hm_w2.size
      clear hb3 kX0_w2 kX1_w2 kX2_w2 kX3_w2
      go_wp2
      go_ret
      exact ⟨rfl, HAL.out.trans (HX_w3.out.mono HAL.out.size)⟩
    | true =>
      rw [hsm1] at HSm1
      obtain ⟨hn1, he1, hj1, hy1⟩ := small_facts hsm1
      have HE1 := Lib.hid (And.intro he1 hy1)
      clear he1 hy1 hsm1
      have HBp := Lib.hid (fun (w' : World) (hb : Below W0.heap.size W0 w') => (bind_any A0 A1 xs0 xs1 c0 c1 b0 b1 _ _ w' (HK0.out w' hb) (HK1.out w' hb)).mono (fun _ _ h => GivesBd.any h))
      have HBr := Lib.hid (fun (w' : World) (hb : Below W0.heap.size W0 w') => (rbind_any A0 A1 xs0 xs1 c0 c1 b0 b1 _ _ w' (HK0.out w' hb) (HK1.out w' hb)).mono (fun _ _ h => GivesBd.any h))
      generalize Pt.bind ⟨bs xs0, b0⟩ ⟨bs xs1, b1⟩ = om at *
      generalize om.isSome = q at *
      generalize om.getD [] = L at *
      subst hW0
      clear hal
      go_enter Tryd.func10, Tryd.ntmps10
      go_wp2_with fail
      with_reducible refine (HSm0.out _ HX.out).mono ?_
      rintro e w1 ⟨rfl, hb1⟩
      have hX_w1 := HX.out.trans (hb1.mono HX.out.size)
      have HX_w1 := Lib.hid hX_w1
      obtain ⟨kX0_w1, kX1_w1, kX2_w1, kX3_w1⟩ := box2_cells hX_w1
      clear hX_w1
      have z_w1 := HX_w1.out.size
      simp only [World.alloc, Array.size_push] at z_w1
      have hm_w1 := hmW.keep hb1 hmW.size
      clear hb1
      go_wp2_with fail
      with_reducible refine (HSm1.out _ HX_w1.out).mono ?_
      rintro e w2 ⟨rfl, hb2⟩
      have hX_w2 := HX_w1.out.trans (hb2.mono HX_w1.out.size)
      have HX_w2 := Lib.hid hX_w2
      obtain ⟨kX0_w2, kX1_w2, kX2_w2, kX3_w2⟩ := box2_cells hX_w2
      clear hX_w2
      have z_w2 := HX_w2.out.size
      simp only [World.alloc, Array.size_push] at z_w2
      have hm_w2 := hm_w1.keep hb2 hm_w1.size
      clear hb2 kX0_w1 kX1_w1 kX2_w1 kX3_w1
      have tq : (q != q) = false := by simp
      go_wp2_with fail
      with_reducible refine (HBp.out _ HX_w2.out).mono ?_
      rintro e w3 ⟨v1, bl1, rfl, hown1, hml1, hb3⟩
      obtain ⟨A2, e2, rfl, he2⟩ := hown1.form
      have hX_w3 := HX_w2.out.trans (hb3.mono HX_w2.out.size)
      have HX_w3 := Lib.hid hX_w3
      obtain ⟨kX0_w3, kX1_w3, kX2_w3, kX3_w3⟩ := box2_cells hX_w3
      clear hX_w3
      have z_w3 := HX_w3.out.size
      simp only [World.alloc, Array.size_push] at z_w3
      have hm_w3 := hm_w2.keep hb3 hm_w2.size
      obtain ⟨t, ht⟩ : ∃ t, t = bl1.length := ⟨_, rfl⟩
      rw [← ht] at hown1 ⊢
      have HT1 := Lib.hid ht
      have HML1 := Lib.hid hml1
      have HOW1 := Lib.hid hown1
      have he2i : (e2 : Int) ≤ 9223372036854775807 := by unfold maxLen at he2; omega
      clear hb3 kX0_w2 kX1_w2 kX2_w2 kX3_w2 ht hml1 hown1 he2
      go_wp2_with fail
      with_reducible refine (HBr.out _ HX_w3.out).mono ?_
      rintro e w4 ⟨v2, bl2, rfl, hown2, hml2, hb4⟩
      obtain ⟨A3, e3, rfl, he3⟩ := hown2.form
      have hlen : bl2.length = t := by rw [HT1.out, ← List.length_map (f := BindV.pat), hml2, ← HML1.out, List.length_map]
      rw [hlen] at hown2 ⊢
      have HX_w4 := Lib.hid (HX_w3.out.trans (hb4.mono HX_w3.out.size))
      have hm_w4 := hm_w3.keep hb4 hm_w3.size
      have HOW1' := Lib.hid (HOW1.out.below hb4)
      have HOW2 := Lib.hid hown2
      have HSM := Lib.hid (show bl1.map BindV.pat = bl2.map BindV.pat from HML1.out.trans hml2.symm)
      have HT2 := Lib.hid hlen
      have he3i : (e3 : Int) ≤ 9223372036854775807 := by unfold maxLen at he3; omega
      have htm : (t : Int) ≤ 9223372036854775807 := by
        have h1 := HOW1'.out.row.2
        rcases h1 with ⟨_, h⟩ | ⟨_, _, _, _, _, _, h1, h2, _⟩
        · rw [HT1.out]; omega
        · have := HT1.out; unfold maxLen at h2; omega
      clear hb4 kX0_w3 kX1_w3 kX2_w3 kX3_w3 hml2 hown2 he3 hlen
      go_wp2
      go_loopw [43] (fun nv wr => ∃ (k : Nat), k ≤ t ∧ nv = .int .i64 k ∧ Below (World.heap w4).size w4 wr) (fun nv _ => t - (intOf nv).toNat)
      case atStart => exact ⟨0, by omega, rfl, Below.refl _ _⟩
      case round =>
        obtain ⟨k, hkt, rfl, hbr⟩ := hrel
        have HBR := Lib.hid hbr
        have hm_r := hm_w4.keep hbr hm_w4.size
        clear hbr
        by_cases hlt : k < t
        · have hl1 : k < bl1.length := by rw [← HT1.out]; exact hlt
          have hl2 : k < bl2.length := by rw [HT2.out]; exact hlt
          obtain ⟨g1, rfl, hg1, f0, f1⟩ := HOW1'.out.at hl1
          obtain ⟨g2, rfl, hg2, f2, f3⟩ := HOW2.out.at hl2
          have hs := binds_same HSM.out hl1 hl2
          have hp1 := (HOW1'.out.parts _ (List.getElem_mem hl1)).keep (HBR.out.mono (by have := HBR.out.size; omega))
          have hp2 := (HOW2.out.parts _ (List.getElem_mem hl2)).keep (HBR.out.mono (by have := HBR.out.size; omega))
          generalize bl1[k] = y1 at *
          generalize bl2[k] = y2 at *
          obtain ⟨Ya, xsa, ca, ba⟩ := y1
          obtain ⟨Yb, xsb, cb, bb⟩ := y2
          simp only at hs f0 f1 f2 f3 hp1 hp2
          obtain ⟨rfl, rfl⟩ := hs
          have HSE := Lib.hid (SE.held (wr := wr) (k := k) (Nat.lt_of_lt_of_le hg1 HBR.out.size) (Nat.lt_of_lt_of_le hg2 HBR.out.size) ((HBR.out.cell (p := ⟨g1, k * 2, none⟩) hg1).trans f0) ((HBR.out.cell (p := ⟨g1, k * 2 + 1, none⟩) hg1).trans f1) ((HBR.out.cell (p := ⟨g2, k * 2, none⟩) hg2).trans f2) ((HBR.out.cell (p := ⟨g2, k * 2 + 1, none⟩) hg2).trans f3))
          have HEQ := Lib.hid (fun (w' : World) (h : SE wr g1 g2 k (.slice Ya xsb.length ca) (.bool bb) (.slice Yb xsb.length cb) (.bool bb) w') => show Calls Tryd.prog 30 #[.slice Ya xsb.length ca, .slice Yb xsb.length cb] w' (fun e w'' => e = .returned (.bool true) ∧ Below w'.heap.size w' w'') from by
            have h0 := requal_any _ _ _ _ _ _ _ _ w' (hp1.keep h.2.2.2.2.below).rd (hp2.keep h.2.2.2.2.below).rd (Nat.le_trans hp1.le hp1.cm) hp1.le hp2.le (Nat.le_trans hp1.le hp1.cm)
            rw [decide_eq_true rfl] at h0
            refine h0.mono ?_
            rintro e w'' ⟨rfl, hd⟩
            exact ⟨rfl, hd.below _⟩)
          have hin : SE wr g1 g2 k (.slice Ya xsb.length ca) (.bool bb) (.slice Yb xsb.length cb) (.bool bb) wr := HSE.out wr ⟨Below.refl _ _⟩
          have tb : (bb != bb) = false := by simp
          have hkt' : (k : Int) < (t : Int) := by omega
          clear f0 f1 f2 f3 hp1 hp2 hl1 hl2
          generalize xsb.length = nb at *
          go_wp2_with fail
          set_option maxRecDepth 100000 in
          go_region_held3 (fun w' => w'.cell? ⟨g1, k * 2, none⟩ = some (.slice Ya nb ca) ∧ w'.cell? ⟨g1, k * 2 + 1, none⟩ = some (.bool bb) ∧ w'.cell? ⟨g2, k * 2, none⟩ = some (.slice Yb nb cb) ∧ w'.cell? ⟨g2, k * 2 + 1, none⟩ = some (.bool bb) ∧ InE wr w')
            ((refine HSE.out _ ?_; repeat (first | assumption | with_reducible exact hin.2.2.2.2 | with_reducible refine InE.next ?_ hb | with_reducible refine InE.drew ?_)))
            (first
              | (go_at_call 30; refine (HEQ.out _ (by assumption)).mono ?_; rintro e w' ⟨rfl, hb⟩; have hfin : InE wr w' := InE.next (by first | assumption | exact (by assumption : SE wr g1 g2 k (.slice Ya nb ca) (.bool bb) (.slice Yb nb cb) (.bool bb) _).2.2.2.2) hb))
          go_wp2
          go_roundw
          case rel =>
            exact ⟨k + 1, by omega, by go_num, HBR.out.trans (hfin.below.mono HBR.out.size)⟩
          case measure => simp [intOf]; omega
        · have hkk : k = t := by omega
          subst hkk
          go_wp2_with fail
          with_reducible refine (HAw.out _ hm_r).mono ?_
          rintro e w8 ⟨rfl, hb8⟩
          have HX_w8 := Lib.hid (HX_w4.out.trans ((HBR.out.trans (hb8.mono HBR.out.size)).mono HX_w4.out.size))
          clear hb8
          go_wp2
          go_ret
          exact ⟨rfl, HAL.out.trans (HX_w8.out.mono HAL.out.size)⟩

set_option maxRecDepth 1000000 in
theorem lifted (os : Os) (started : os.Started) (H : Type) (enc : TypeId × Value → H) :
    ReturnsInHanded {} Tryd.checked os 10 .any (fun w args => (Rows.patternBindsSpec.pre enc Tryd.prog Tryd.f10 Rows.patternBindsRow.domain false w args ∧ laidMetH Tryd.prog Rows.patternBindsRow.laid w) ∧ sizedMet enc Tryd.prog Tryd.f10 (OpenSpec.ofChange Rows.patternBindsSpec) false w args)
      (Rows.patternBindsSpec.post enc Tryd.prog Tryd.f10 false true false false) := by
  refine sizedWrap own started (by kernel_rfl) Tryd.func10
    (ChangeSpec.witness_shaped (enc := enc) (C := Tryd.checked) (os := os) (X := fun w _ => laidMetH Tryd.prog Rows.patternBindsRow.laid w) false (World.laidAll Tryd.prog os Rows.patternBindsRow.laid) #[.agg #[.slice none 0 0, .bool false], .agg #[.slice none 0 0, .bool false]] 8 (World.laidAll_os _ _ _)
      (World.shaped_of_ZipB (by kernel_rfl) (by kernel_rfl)) (by kernel_rfl) (by kernel_rfl) (by kernel_rfl)
      (by rw [MakeChecks.laidMetH_plain _ _ _ (by kernel_rfl)]; exact laidMet_laidAll _ (by kernel_rfl) (by kernel_rfl))) ?_
  intro W base args ds gs before hval0 hW hsh hsz
  have hval : ∀ (j : Nat) t v, Tryd.f10.params[j]? = some t → args[j]? = some v → Value.okWide Tryd.prog W .any base t v := hval0
  have hW' := hW
  obtain ⟨p, q, hA0, hV, rfl, hfz, hnd⟩ := hW
  have hA : DataW.TrodAll enc Tryd.prog W 0 (fun _ => true) true Tryd.f10.params.toList args.toList ds p := hA0
  rw [Tryd.params10] at hA hval
  obtain ⟨v0, vs0, d0, ds0, p0, q0, hargs, rfl, rfl, h0, r0⟩ := trodAll_cons hA
  obtain ⟨v1, vs1, d1, ds1, p1, q1, rfl, rfl, rfl, h1, r1⟩ := trodAll_cons r0
  obtain ⟨rfl, rfl, rfl⟩ := trodAll_nil r1
  obtain rfl : args = #[v0, v1] := by cases args; simp_all
  obtain ⟨rfl, rfl⟩ := trodVars_none hV
  have k0 := h0
  have lt0 : ∀ x ∈ p0, x.block < W.heap.size := by obtain ⟨m, hm⟩ := k0; exact DataW.trod_lt m _ _ _ hm
  obtain ⟨A0, xs0, c0, b0, rfl, hp0, hz0⟩ := open_pat (hval 0 25 v0 rfl rfl) h0 (weighed hsz (j := 0) rfl rfl)
  have k1 := h1
  have lt1 : ∀ x ∈ p1, x.block < W.heap.size := by obtain ⟨m, hm⟩ := k1; exact DataW.trod_lt m _ _ _ hm
  obtain ⟨A1, xs1, c1, b1, rfl, hp1, hz1⟩ := open_pat (hval 1 25 v1 rfl rfl) h1 (weighed hsz (j := 1) rfl rfl)
  clear hA0 hval0
  refine (walk W A0 xs0 c0 b0 hp0 hz0 A1 xs1 c1 b1 hp1 hz1 (maxl_of W hsh)).mono fun e W' ⟨he, bel⟩ => ?_
  subst he
  exact ⟨_, rfl, _, _, _, [], _, [], hW', trodAll_mk1 (shut_bool Tryd.underlying4 _), (trodAll_cons_mk (Below.trod laidOutW (by kernel_rfl) (of_decide_eq_true (by kernel_rfl)) k0 bel lt0) (trodAll_cons_mk (Below.trod laidOutW (by kernel_rfl) (of_decide_eq_true (by kernel_rfl)) k1 bel lt1) trodAll_mk0)), rfl, bel.frame _, fun h => by cases h⟩

theorem over : Rows.patternBindsRow.holds Tryd.pinned (OpenSpec.ofChange Rows.patternBindsSpec) :=
  OpenClaim.holds_of_wide 10 Tryd.f10 rfl rfl rfl rfl rfl rfl rfl ⟨rfl, rfl, rfl, rfl, rfl⟩ rfl rfl rfl rfl rfl (by kernel_rfl) Tryd.func10 (by kernel_rfl)
    (of_decide_eq_true (by kernel_rfl)) (by unfold Func.isWrapper; first | (rw [if_pos (by decide +kernel)]; kernel_rfl) | (rw [if_neg (by decide +kernel)]; exact ⟨rfl, rfl⟩))
    (fun os started H enc _ => lifted os started H enc)

theorem proved : Rows.PatternBindsCardSaid :=
  Claim7.holds_tied_plain_at .later [] [.data, .pinned] true (true, "0930791aa66c17d9d77aa9bf9557ef32a5df6c816373c8e2ac5b4cc8f9cdf204") false over (fun _ h => by cases h) (by kernel_rfl) (fun _ h => by cases h) patternBinds_row_tie rfl ⟨rfl, rfl⟩ (by kernel_rfl) rfl
    (fun f fn hf hfn => by
      obtain rfl : f = 10 := Option.some.inj ((show Tryd.prog.funcNamed Rows.patternBindsRow.func = some 10 by kernel_rfl).symm.trans hf) |>.symm
      obtain rfl : fn = Tryd.f10 := (Option.some.inj (Tryd.func10.symm.trans hfn)).symm
      exact ⟨by kernel_rfl, fun j t ht => by
        rw [Tryd.params10] at ht
        have hm : t ∈ [25, 25] := by simpa using Array.mem_of_getElem? ht
        have hall : ([25, 25].all fun u => !Tryd.prog.wantsStandIn u) = true := by kernel_rfl
        exact (show Tryd.prog.wantsStandIn t = false by simpa using List.all_eq_true.1 hall t hm)⟩)
    (by kernel_rfl)
#print axioms proved
end Go.Proofs.YtffjmhdnfkpdpaaDoor.patternBinds
