/- CodecUnlike returns true at every two uint64. Conditions: none of its own. -/
import Derived.Test.YtbkpmmnkelihgaaAwake
import Derived.WalkKit
import Derived.StillTailTactics
import Derived.ProofKit
import Derived.OpenShut
import Derived.ShutString
namespace Go.Proofs.Ytbkpmmnkelihgaa.codecUnlike
open Go.ChangeShapes Go.WideShapes Go.ChangeAt Go.RowKit
open Go.ChangeMaps (open_string shut_string)
set_option linter.unusedVariables false      -- a walk need not use every 'w<i>' (that an integer argument fits its kind)

theorem own : ownKnob Try.prog.godebug = none := by kernel_rfl

set_option maxHeartbeats 8000000 in
theorem walk (a0 : Int) (a1 : Int) (w0 : (Lit.int .u64 a0).wf = true) (w1 : (Lit.int .u64 a1).wf = true) (w : World) :
    Calls Try.prog 11 #[.int .u64 a0, .int .u64 a1] w fun e w' => e = .returned (.bool true) ∧ Below w.heap.size w w' := by
  obtain ⟨x, rfl, hx⟩ : ∃ x : Nat, a0 = x ∧ (x : Int) ≤ 18446744073709551615 := by
    simp [Lit.wf, IntKind.min, IntKind.max, IntKind.signed, IntKind.bits] at w0
    exact ⟨a0.toNat, by omega, by omega⟩
  obtain ⟨y, rfl, hy⟩ : ∃ y : Nat, a1 = y ∧ (y : Int) ≤ 18446744073709551615 := by
    simp [Lit.wf, IntKind.min, IntKind.max, IntKind.signed, IntKind.bits] at w1
    exact ⟨a1.toNat, by omega, by omega⟩
  have hxb : x < Cm.big := by unfold Cm.big; omega
  have hyb : y < Cm.big := by unfold Cm.big; omega
  have p1 : ∀ w : World, Calls Try.prog 15 #[.slice none 0 0, .int .u64 x] w (Makes w (Cm.enc x)) := fun w => put_uint none [] 0 x w (Rd.nil _) hx (by simp)
  have p2 : ∀ w : World, Calls Try.prog 15 #[.slice none 0 0, .int .u64 y] w (Makes w (Cm.enc y)) := fun w => put_uint none [] 0 y w (Rd.nil _) hy (by simp)
  have e1 := Cm.enc_pos x
  have e2 := Cm.enc_pos y
  have g1 := Cm.enc_le hxb
  have g2 := Cm.enc_le hyb
  have i1 : (1 : Int) ≤ (Cm.enc x).length := by omega
  have i2 : (1 : Int) ≤ (Cm.enc y).length := by omega
  have j1 : ((Cm.enc x).length : Int) ≤ 10 := by omega
  have j2 : ((Cm.enc y).length : Int) ≤ 10 := by omega
  have hap := Cm.enc_apart hxb hyb
  have hmo2 := Cm.enc_mono y x
  by_cases hxy : x = y
  · subst hxy
    generalize Cm.enc x = E1 at *
    have P1 := Lib.hid p1
    clear p1 p2 e1 e2 g1 g2 hap hmo2 hxb hyb w0 w1
    go_enter Try.func11, Try.ntmps11
    go_wp2_with fail
    with_reducible refine (P1.out _).mono ?_
    rintro e w1 ⟨v1, rfl, ho1, hb1⟩
    obtain ⟨A1, c1, rfl, hc1, _, r1⟩ := ho1.form
    have hs1 := hb1.size
    clear ho1
    go_wp2_with fail
    with_reducible refine (P1.out _).mono ?_
    rintro e w2 ⟨v2, rfl, ho2, hb2⟩
    obtain ⟨A2, c2, rfl, hc2, _, r2⟩ := ho2.form
    have hs2 := hb2.size
    clear ho2
    go_wp2_with fail
    with_reducible refine (same_yes _ _ _ _ _ _ _ _ _ (r1.below hb2) r2 rfl).mono ?_
    rintro e w' ⟨rfl, rfl⟩
    go_wp2_with fail
    with_reducible refine (awake_any _).mono ?_
    rintro e3 w3 ⟨rfl, hb3⟩
    go_wp2
    go_ret
    exact ⟨rfl, (hb1.trans (hb2.mono hs1)).trans (hb3.mono (by omega))⟩
  have tne : ((x : Int) == (y : Int)) = false := by
    rw [beq_eq_false_iff_ne]
    omega
  generalize Cm.enc x = E1 at *
  generalize Cm.enc y = E2 at *
  have P1 := Lib.hid p1
  have P2 := Lib.hid p2
  clear p1 p2 e1 e2 g1 g2 hxb hyb w0 w1
  by_cases hle : E1.length ≤ E2.length
  · have hle2 : (E1.length : Int) ≤ E2.length := by omega
    have hne : E1 ≠ E2.take E1.length := by
      intro hh
      rw [Nat.min_eq_left hle, List.take_length] at hap
      exact hxy (hap hh)
    have hTn : (E2.take E1.length).length = E1.length := by rw [List.length_take]; omega
    generalize hT : E2.take E1.length = T at hne hTn
    have HT := Lib.hid hT
    have HTn := Lib.hid hTn
    have HNE := Lib.hid hne
    clear hT hTn hne hap hle hmo2
    by_cases hgt : (y : Int) < x
    · skip
      go_enter Try.func11, Try.ntmps11
      go_wp2_with fail
      with_reducible refine (P1.out _).mono ?_
      rintro e w1 ⟨v1, rfl, ho1, hb1⟩
      obtain ⟨A1, c1, rfl, hc1, _, r1⟩ := ho1.form
      have hs1 := hb1.size
      clear ho1
      go_wp2_with fail
      with_reducible refine (P2.out _).mono ?_
      rintro e w2 ⟨v2, rfl, ho2, hb2⟩
      obtain ⟨A2, c2, rfl, hc2, _, r2⟩ := ho2.form
      have hs2 := hb2.size
      have rT := r2.take E1.length
      rw [HT.out] at rT
      have rT2 : Rd w2.drew w2.heap.size A2 T := rT
      have u : Calls Try.prog 17 #[.slice A1 E1.length c1, .slice A2 T.length c2] w2.drew (fun e w'' => e = .returned (.bool false) ∧ w'' = w2.drew) :=
        (same_no A1 A2 E1 T c1 c2 _ _ w2.drew (r1.below hb2.drew) rT2 HNE.out).mono fun _ _ h => ⟨h.1, h.2.symm⟩
      rw [HTn.out] at u
      have U := Lib.hid u
      have hbd : Below w.heap.size w w2.drew := (hb1.trans (hb2.mono hs1)).drew
      have hk1 : (E1.length : Int) ≤ c1 := by omega
      have hk2 : (E1.length : Int) ≤ c2 := by omega
      clear ho2 u rT rT2 r1 r2
      go_wp2_with fail
      refine wp_region_still_tail 21 (by kernel_rfl) (by kernel_rfl) ?_
      simp only [List.take_succ_cons, List.take_zero, List.drop_succ_cons, List.drop_zero]
      repeat still_step
      still_call U.out
      repeat still_step
      refine wpStill_nil ?_
      rw [show ({ heap := w2.heap, tape := w2.tape, drawn := w2.drawn + 1, os := w2.os, output := w2.output } : World) = w2.drew from rfl]
      clear U hb1 hb2
      generalize w2.drew = w3 at hbd ⊢
      go_wp2_with fail
      with_reducible refine (awake_any _).mono ?_
      rintro e3 w4 ⟨rfl, hb4⟩
      go_wp2
      go_ret
      exact ⟨rfl, hbd.trans (hb4.mono hbd.size)⟩
    · have hgt2 : (x : Int) < y := by omega
      have hgd : decide ((y : Int) < (x : Int)) = false := by simp; omega
      have hgd2 : decide (y < x) = false := by simp; omega
      have hle3 : decide ((E1.length : Int) ≤ (E2.length : Int)) = true := by simp; omega
      have hle4 : decide (E1.length ≤ E2.length) = true := by simp; omega
      clear hgt
      go_enter Try.func11, Try.ntmps11
      go_wp2_with fail
      with_reducible refine (P1.out _).mono ?_
      rintro e w1 ⟨v1, rfl, ho1, hb1⟩
      obtain ⟨A1, c1, rfl, hc1, _, r1⟩ := ho1.form
      have hs1 := hb1.size
      clear ho1
      go_wp2_with fail
      with_reducible refine (P2.out _).mono ?_
      rintro e w2 ⟨v2, rfl, ho2, hb2⟩
      obtain ⟨A2, c2, rfl, hc2, _, r2⟩ := ho2.form
      have hs2 := hb2.size
      have rT := r2.take E1.length
      rw [HT.out] at rT
      have rT2 : Rd w2.drew w2.heap.size A2 T := rT
      have u : Calls Try.prog 17 #[.slice A1 E1.length c1, .slice A2 T.length c2] w2.drew (fun e w'' => e = .returned (.bool false) ∧ w'' = w2.drew) :=
        (same_no A1 A2 E1 T c1 c2 _ _ w2.drew (r1.below hb2.drew) rT2 HNE.out).mono fun _ _ h => ⟨h.1, h.2.symm⟩
      rw [HTn.out] at u
      have U := Lib.hid u
      have hbd : Below w.heap.size w w2.drew := (hb1.trans (hb2.mono hs1)).drew
      have hk1 : (E1.length : Int) ≤ c1 := by omega
      have hk2 : (E1.length : Int) ≤ c2 := by omega
      clear ho2 u rT rT2 r1 r2
      go_wp2_with fail
      refine wp_region_still_tail 21 (by kernel_rfl) (by kernel_rfl) ?_
      simp only [List.take_succ_cons, List.take_zero, List.drop_succ_cons, List.drop_zero]
      repeat still_step
      still_call U.out
      repeat still_step
      refine wpStill_nil ?_
      rw [show ({ heap := w2.heap, tape := w2.tape, drawn := w2.drawn + 1, os := w2.os, output := w2.output } : World) = w2.drew from rfl]
      clear U hb1 hb2
      generalize w2.drew = w3 at hbd ⊢
      go_wp2_with fail
      with_reducible refine (awake_any _).mono ?_
      rintro e3 w4 ⟨rfl, hb4⟩
      go_wp2
      go_ret
      exact ⟨rfl, hbd.trans (hb4.mono hbd.size)⟩
  · have hle2 : (E2.length : Int) < E1.length := by omega
    have hgt : (y : Int) < x := by
      rcases Nat.lt_or_ge y x with h | h
      · omega
      · exact absurd (hmo2 h) hle
    have hne : E1.take E2.length ≠ E2 := by
      intro hh
      rw [Nat.min_eq_right (by omega), List.take_length] at hap
      exact hxy (hap hh)
    have hTn : (E1.take E2.length).length = E2.length := by rw [List.length_take]; omega
    generalize hT : E1.take E2.length = T at hne hTn
    have HT := Lib.hid hT
    have HTn := Lib.hid hTn
    have HNE := Lib.hid hne
    clear hT hTn hne hap hle hmo2
    go_enter Try.func11, Try.ntmps11
    go_wp2_with fail
    with_reducible refine (P1.out _).mono ?_
    rintro e w1 ⟨v1, rfl, ho1, hb1⟩
    obtain ⟨A1, c1, rfl, hc1, _, r1⟩ := ho1.form
    have hs1 := hb1.size
    clear ho1
    go_wp2_with fail
    with_reducible refine (P2.out _).mono ?_
    rintro e w2 ⟨v2, rfl, ho2, hb2⟩
    obtain ⟨A2, c2, rfl, hc2, _, r2⟩ := ho2.form
    have hs2 := hb2.size
    have rT := r1.take E2.length
    rw [HT.out] at rT
    have rT2 : Rd w2.drew w1.heap.size A1 T := rT.below hb2.drew
    have r22 : Rd w2.drew w2.heap.size A2 E2 := r2
    have u : Calls Try.prog 17 #[.slice A1 T.length c1, .slice A2 E2.length c2] w2.drew (fun e w'' => e = .returned (.bool false) ∧ w'' = w2.drew) :=
      (same_no A1 A2 T E2 c1 c2 _ _ w2.drew rT2 r22 HNE.out).mono fun _ _ h => ⟨h.1, h.2.symm⟩
    rw [HTn.out] at u
    have U := Lib.hid u
    have hbd : Below w.heap.size w w2.drew := (hb1.trans (hb2.mono hs1)).drew
    have hk1 : (E2.length : Int) ≤ c1 := by omega
    have hk2 : (E2.length : Int) ≤ c2 := by omega
    clear ho2 u rT rT2 r22 r1 r2
    go_wp2_with fail
    refine wp_region_still_tail 21 (by kernel_rfl) (by kernel_rfl) ?_
    simp only [List.take_succ_cons, List.take_zero, List.drop_succ_cons, List.drop_zero]
    repeat still_step
    still_call U.out
    repeat still_step
    refine wpStill_nil ?_
    rw [show ({ heap := w2.heap, tape := w2.tape, drawn := w2.drawn + 1, os := w2.os, output := w2.output } : World) = w2.drew from rfl]
    clear U hb1 hb2
    generalize w2.drew = w3 at hbd ⊢
    go_wp2_with fail
    with_reducible refine (awake_any _).mono ?_
    rintro e3 w4 ⟨rfl, hb4⟩
    go_wp2
    go_ret
    exact ⟨rfl, hbd.trans (hb4.mono hbd.size)⟩

set_option maxRecDepth 100000 in
theorem lifted (os : Os) (started : os.Started) (H : Type) (enc : TypeId × Value → H) :
    ReturnsInHanded {} Try.checked os 11 .any (Rows.codecUnlikeSpec.pre6 enc Try.prog Try.f11 Rows.codecUnlikeRow.domain false) (Rows.codecUnlikeSpec.post enc Try.prog Try.f11 false true false false) := by
  refine returnsInHanded_of_change (C := Try.checked) own started (by kernel_rfl) Try.func11
    (ChangeSpec.witness6 (enc := enc) (C := Try.checked) false ⟨#[], #[.int .u64 0, .int .u64 0], []⟩ 8 (by kernel_rfl) (by kernel_rfl) (by kernel_rfl) (by kernel_rfl)) ?_
  intro W base args ds gs before hval0 hW hcnd _
  have hval : ∀ (j : Nat) t v, Try.f11.params[j]? = some t → args[j]? = some v → Value.okWide Try.prog W .any base t v := hval0
  have hW' := hW
  obtain ⟨p, q, hA0, hV, rfl, hfz, hnd⟩ := hW
  have hA : DataW.TrodAll enc Try.prog W 0 (fun _ => true) true Try.f11.params.toList args.toList ds p := hA0
  rw [Try.params11] at hA hval
  obtain ⟨v0, vs0, d0, ds0, p0, q0, hargs, rfl, rfl, h0, r0⟩ := trodAll_cons hA
  obtain ⟨v1, vs1, d1, ds1, p1, q1, rfl, rfl, rfl, h1, r1⟩ := trodAll_cons r0
  obtain ⟨rfl, rfl, rfl⟩ := trodAll_nil r1
  obtain rfl : args = #[v0, v1] := by cases args; simp_all
  obtain ⟨rfl, rfl⟩ := trodVars_none hV
  obtain ⟨a0, rfl, rfl, rfl, w0⟩ := open_int Try.underlying23 (hval 0 23 v0 rfl rfl) h0
  obtain ⟨a1, rfl, rfl, rfl, w1⟩ := open_int Try.underlying23 (hval 1 23 v1 rfl rfl) h1
  clear hA0 hval0
  simp only [List.append_nil] at hW'
  refine (walk a0 a1 w0 w1 W).mono fun e W' ⟨he, hg⟩ => ?_
  subst he
  exact ⟨_, rfl, _, _, _, [], [], [], hW', trodAll_mk1 (shut_bool Try.underlying4 _), (trodAll_cons_mk (shut_int Try.underlying23 w0) (trodAll_cons_mk (shut_int Try.underlying23 w1) trodAll_mk0)), rfl, hg.frame _, fun h => by cases h⟩

theorem over : Rows.codecUnlikeRow.holds Try.pinned (OpenSpec.ofChange Rows.codecUnlikeSpec) :=
  OpenClaim.holds_of_wide 11 Try.f11 rfl rfl rfl rfl rfl rfl rfl ⟨rfl, rfl, rfl, rfl, rfl⟩ rfl rfl rfl rfl rfl (by kernel_rfl) Try.func11 (by kernel_rfl)
    (of_decide_eq_true (by kernel_rfl)) (by unfold Func.isWrapper; first | (rw [if_pos (by decide +kernel)]; kernel_rfl) | (rw [if_neg (by decide +kernel)]; exact ⟨rfl, rfl⟩))
    (fun os started H enc _ => lifted os started H enc)

theorem proved : Rows.CodecUnlikeSaid :=
  over
#print axioms proved
end Go.Proofs.Ytbkpmmnkelihgaa.codecUnlike
