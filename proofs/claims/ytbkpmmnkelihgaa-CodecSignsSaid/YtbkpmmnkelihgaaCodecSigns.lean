/- CodecSigns returns true at every int and every uint64. Conditions: none of its own. -/
import Derived.Test.YtbkpmmnkelihgaaAwake
import Derived.WalkKit
import Derived.ProofKit
import Derived.OpenShut
import Derived.ShutString
namespace Go.Proofs.Ytbkpmmnkelihgaa.codecSigns
open Go.ChangeShapes Go.WideShapes Go.ChangeAt Go.RowKit
open Go.ChangeMaps (open_string shut_string)
set_option linter.unusedVariables false      -- a walk need not use every 'w<i>' (that an integer argument fits its kind)

theorem own : ownKnob Try.prog.godebug = none := by kernel_rfl

set_option maxHeartbeats 2000000 in
theorem walk (a0 : Int) (a1 : Int) (w0 : (Lit.int .i64 a0).wf = true) (w1 : (Lit.int .u64 a1).wf = true) (w : World) :
    Calls Try.prog 12 #[.int .i64 a0, .int .u64 a1] w fun e w' => e = .returned (.bool true) ∧ Below w.heap.size w w' := by
  obtain ⟨n0, n1⟩ : -9223372036854775808 ≤ a0 ∧ a0 ≤ 9223372036854775807 := by
    simp [Lit.wf, IntKind.min, IntKind.max, IntKind.signed, IntKind.bits] at w0
    omega
  obtain ⟨x, rfl, hx⟩ : ∃ x : Nat, a1 = x ∧ (x : Int) ≤ 18446744073709551615 := by
    simp [Lit.wf, IntKind.min, IntKind.max, IntKind.signed, IntKind.bits] at w1
    exact ⟨a1.toNat, by omega, by omega⟩
  have hxb : x < Cm.big := by unfold Cm.big; omega
  have zz : ∀ u, u < Cm.big → Cm.uintRes (Cm.enc u) 0 = (u, (Cm.enc u).length, 0) := by
    intro u hu
    have h := Cm.uintRes_at [] [] hu
    simpa using h
  have z1 := zz _ (Cm.foldI_lt n0 n1)
  have z2 := zz _ (Cm.foldI_lt (n := -1 - a0) (by omega) (by omega))
  have z3 := zz _ hxb
  clear zz
  have hub := Cm.unfold_bd hxb
  have p1 : ∀ w : World, Calls Try.prog 16 #[.slice none 0 0, .int .i64 a0] w (Makes w (Cm.enc (Cm.foldI a0))) := fun w => put_int none [] 0 a0 w (Rd.nil _) n0 n1 (by simp)
  have p2 : ∀ w : World, Calls Try.prog 16 #[.slice none 0 0, .int .i64 (-1 - a0)] w (Makes w (Cm.enc (Cm.foldI (-1 - a0)))) := fun w => put_int none [] 0 (-1 - a0) w (Rd.nil _) (by omega) (by omega) (by simp)
  have p3 : ∀ w : World, Calls Try.prog 15 #[.slice none 0 0, .int .u64 x] w (Makes w (Cm.enc x)) := fun w => put_uint none [] 0 x w (Rd.nil _) hx (by simp)
  have p4 : ∀ w : World, Calls Try.prog 16 #[.slice none 0 0, .int .i64 (Cm.unfoldN x)] w (Makes w (Cm.enc x)) := by
    intro w
    have h := put_int none [] 0 (Cm.unfoldN x) w (Rd.nil _) hub.1 hub.2 (by simp)
    rw [Cm.fold_unfold] at h
    exact h
  have e1 := Cm.enc_pos (Cm.foldI a0)
  have e2 := Cm.enc_pos (Cm.foldI (-1 - a0))
  have e3 := Cm.enc_pos x
  have g1 := Cm.enc_le (Cm.foldI_lt n0 n1)
  have g2 := Cm.enc_le (Cm.foldI_lt (n := -1 - a0) (by omega) (by omega))
  have g3 := Cm.enc_le hxb
  have d0 : (Cm.foldI a0 : Int) = if 0 ≤ a0 then 2 * a0 else -2 * a0 - 1 := by unfold Cm.foldI; split <;> omega
  have d1 : (Cm.foldI (-1 - a0) : Int) = if 0 ≤ a0 then 2 * a0 + 1 else -2 * a0 - 2 := by unfold Cm.foldI; split <;> split <;> omega
  generalize hE1 : Cm.enc (Cm.foldI a0) = E1 at z1 p1 e1 g1
  generalize hE2 : Cm.enc (Cm.foldI (-1 - a0)) = E2 at z2 p2 e2 g2
  generalize hE3 : Cm.enc x = E3 at z3 p3 p4 e3 g3
  generalize Cm.foldI a0 = f1 at z1 d0
  generalize Cm.foldI (-1 - a0) = f2 at z2 d1
  have t1 : ((f1 : Int) / 2 != (f2 : Int) / 2) = false := by
    have : (f1 : Int) / 2 = (f2 : Int) / 2 := by split at d0 <;> omega
    rw [this]
    simp
  have t2 : ((f1 : Int) == (f2 : Int)) = false := by
    rw [beq_eq_false_iff_ne]
    split at d0 <;> omega
  have t3 : ((f1 : Int) % 2 == 0) = decide (0 ≤ a0) := by
    rw [Bool.eq_iff_iff]
    simp only [beq_iff_eq, decide_eq_true_eq]
    split at d0 <;> omega
  have fb1 : (f1 : Int) ≤ 18446744073709551615 := by split at d0 <;> omega
  have fb2 : (f2 : Int) ≤ 18446744073709551615 := by split at d1 <;> omega
  have U1 : Hid (∀ A c (w : World), Rd w w.heap.size A E1 → E1.length ≤ c → Calls Try.prog 24 #[.slice A E1.length c, .int .i64 0] w (Gives3 w .u64 ((f1 : Int), E1.length, 0))) := by
    intro A c w hr hc
    have h := uint_any A E1 c 0 w hr hc (by omega)
    rw [z1] at h
    exact h
  have U2 : Hid (∀ A c (w : World), Rd w w.heap.size A E2 → E2.length ≤ c → Calls Try.prog 24 #[.slice A E2.length c, .int .i64 0] w (Gives3 w .u64 ((f2 : Int), E2.length, 0))) := by
    intro A c w hr hc
    have h := uint_any A E2 c 0 w hr hc (by omega)
    rw [z2] at h
    exact h
  have U3 : Hid (∀ A c (w : World), Rd w w.heap.size A E3 → E3.length ≤ c → Calls Try.prog 26 #[.slice A E3.length c, .int .i64 0] w (Gives3 w .i64 (Cm.unfoldN x, E3.length, 0))) := by
    intro A c w hr hc
    have h := int_any A E3 c 0 w hr hc (by omega)
    rw [z3] at h
    exact h
  have P1 := Lib.hid p1
  have P2 := Lib.hid p2
  have P3 := Lib.hid p3
  have P4 := Lib.hid p4
  have i1 : (1 : Int) ≤ E1.length := by omega
  have i2 : (1 : Int) ≤ E2.length := by omega
  have i3 : (1 : Int) ≤ E3.length := by omega
  have j1 : (E1.length : Int) ≤ 10 := by omega
  have j2 : (E2.length : Int) ≤ 10 := by omega
  have j3 : (E3.length : Int) ≤ 10 := by omega
  clear z1 z2 z3 hub p1 p2 p3 p4 e1 e2 e3 g1 g2 g3 d0 d1 hE1 hE2 hE3 hxb w0 w1
  by_cases hn : 0 ≤ a0
  · rw [decide_eq_true hn] at t3
    go_enter Try.func12, Try.ntmps12
    go_wp2_with fail
    with_reducible refine (P1.out _).mono ?_
    rintro e w1 ⟨v1, rfl, ho1, hb1⟩
    obtain ⟨A1, c1, rfl, hc1, _, r1⟩ := ho1.form
    have hs1 := hb1.size
    clear ho1
    go_wp2_with fail
    with_reducible refine (U1.out _ _ _ r1 hc1).mono ?_
    rintro e w' ⟨rfl, rfl⟩
    clear r1 hc1
    go_wp2_with fail
    with_reducible refine (P2.out _).mono ?_
    rintro e w2 ⟨v2, rfl, ho2, hb2⟩
    obtain ⟨A2, c2, rfl, hc2, _, r2⟩ := ho2.form
    have hs2 := hb2.size
    clear ho2
    go_wp2_with fail
    with_reducible refine (U2.out _ _ _ r2 hc2).mono ?_
    rintro e w' ⟨rfl, rfl⟩
    clear r2 hc2
    go_wp2_with fail
    with_reducible refine (P3.out _).mono ?_
    rintro e w3 ⟨v3, rfl, ho3, hb3⟩
    obtain ⟨A3, c3, rfl, hc3, _, r3⟩ := ho3.form
    have hs3 := hb3.size
    clear ho3
    go_wp2_with fail
    with_reducible refine (U3.out _ _ _ r3 hc3).mono ?_
    rintro e w' ⟨rfl, rfl⟩
    clear r3 hc3
    go_wp2_with fail
    with_reducible refine (P3.out _).mono ?_
    rintro e w4 ⟨v4, rfl, ho4, hb4⟩
    obtain ⟨A4, c4, rfl, _, _, r4⟩ := ho4.form
    have hs4 := hb4.size
    clear ho4
    go_wp2_with fail
    with_reducible refine (P4.out _).mono ?_
    rintro e w5 ⟨v5, rfl, ho5, hb5⟩
    obtain ⟨A5, c5, rfl, _, _, r5⟩ := ho5.form
    have hs5 := hb5.size
    clear ho5
    go_wp2_with fail
    with_reducible refine (P3.out _).mono ?_
    rintro e w6 ⟨v6, rfl, ho6, hb6⟩
    obtain ⟨A6, c6, rfl, _, _, r6⟩ := ho6.form
    have hs6 := hb6.size
    clear ho6
    go_wp2_with fail
    with_reducible refine (same_yes _ _ _ _ _ _ _ _ _ (r5.below hb6) r6 rfl).mono ?_
    rintro e w' ⟨rfl, rfl⟩
    go_wp2_with fail
    with_reducible refine (awake_any _).mono ?_
    rintro e w10 ⟨rfl, hb10⟩
    go_wp2
    go_ret
    exact ⟨rfl, (((((hb1.trans (hb2.mono hs1)).trans (hb3.mono (by omega))).trans (hb4.mono (by omega))).trans (hb5.mono (by omega))).trans (hb6.mono (by omega))).trans (hb10.mono (by omega))⟩
  · rw [decide_eq_false hn] at t3
    have hn' : a0 < 0 := by omega
    go_enter Try.func12, Try.ntmps12
    go_wp2_with fail
    with_reducible refine (P1.out _).mono ?_
    rintro e w1 ⟨v1, rfl, ho1, hb1⟩
    obtain ⟨A1, c1, rfl, hc1, _, r1⟩ := ho1.form
    have hs1 := hb1.size
    clear ho1
    go_wp2_with fail
    with_reducible refine (U1.out _ _ _ r1 hc1).mono ?_
    rintro e w' ⟨rfl, rfl⟩
    clear r1 hc1
    go_wp2_with fail
    with_reducible refine (P2.out _).mono ?_
    rintro e w2 ⟨v2, rfl, ho2, hb2⟩
    obtain ⟨A2, c2, rfl, hc2, _, r2⟩ := ho2.form
    have hs2 := hb2.size
    clear ho2
    go_wp2_with fail
    with_reducible refine (U2.out _ _ _ r2 hc2).mono ?_
    rintro e w' ⟨rfl, rfl⟩
    clear r2 hc2
    go_wp2_with fail
    with_reducible refine (P3.out _).mono ?_
    rintro e w3 ⟨v3, rfl, ho3, hb3⟩
    obtain ⟨A3, c3, rfl, hc3, _, r3⟩ := ho3.form
    have hs3 := hb3.size
    clear ho3
    go_wp2_with fail
    with_reducible refine (U3.out _ _ _ r3 hc3).mono ?_
    rintro e w' ⟨rfl, rfl⟩
    clear r3 hc3
    go_wp2_with fail
    with_reducible refine (P3.out _).mono ?_
    rintro e w4 ⟨v4, rfl, ho4, hb4⟩
    obtain ⟨A4, c4, rfl, _, _, r4⟩ := ho4.form
    have hs4 := hb4.size
    clear ho4
    go_wp2_with fail
    with_reducible refine (P4.out _).mono ?_
    rintro e w5 ⟨v5, rfl, ho5, hb5⟩
    obtain ⟨A5, c5, rfl, _, _, r5⟩ := ho5.form
    have hs5 := hb5.size
    clear ho5
    go_wp2_with fail
    with_reducible refine (P3.out _).mono ?_
    rintro e w6 ⟨v6, rfl, ho6, hb6⟩
    obtain ⟨A6, c6, rfl, _, _, r6⟩ := ho6.form
    have hs6 := hb6.size
    clear ho6
    go_wp2_with fail
    with_reducible refine (same_yes _ _ _ _ _ _ _ _ _ (r5.below hb6) r6 rfl).mono ?_
    rintro e w' ⟨rfl, rfl⟩
    go_wp2_with fail
    with_reducible refine (awake_any _).mono ?_
    rintro e w10 ⟨rfl, hb10⟩
    go_wp2
    go_ret
    exact ⟨rfl, (((((hb1.trans (hb2.mono hs1)).trans (hb3.mono (by omega))).trans (hb4.mono (by omega))).trans (hb5.mono (by omega))).trans (hb6.mono (by omega))).trans (hb10.mono (by omega))⟩

set_option maxRecDepth 100000 in
theorem lifted (os : Os) (started : os.Started) (H : Type) (enc : TypeId × Value → H) :
    ReturnsInHanded {} Try.checked os 12 .any (Rows.codecSignsSpec.pre6 enc Try.prog Try.f12 Rows.codecSignsRow.domain false) (Rows.codecSignsSpec.post enc Try.prog Try.f12 false true false false) := by
  refine returnsInHanded_of_change (C := Try.checked) own started (by kernel_rfl) Try.func12
    (ChangeSpec.witness6 (enc := enc) (C := Try.checked) false ⟨#[], #[.int .i64 0, .int .u64 0], []⟩ 8 (by kernel_rfl) (by kernel_rfl) (by kernel_rfl) (by kernel_rfl)) ?_
  intro W base args ds gs before hval0 hW hcnd _
  have hval : ∀ (j : Nat) t v, Try.f12.params[j]? = some t → args[j]? = some v → Value.okWide Try.prog W .any base t v := hval0
  have hW' := hW
  obtain ⟨p, q, hA0, hV, rfl, hfz, hnd⟩ := hW
  have hA : DataW.TrodAll enc Try.prog W 0 (fun _ => true) true Try.f12.params.toList args.toList ds p := hA0
  rw [Try.params12] at hA hval
  obtain ⟨v0, vs0, d0, ds0, p0, q0, hargs, rfl, rfl, h0, r0⟩ := trodAll_cons hA
  obtain ⟨v1, vs1, d1, ds1, p1, q1, rfl, rfl, rfl, h1, r1⟩ := trodAll_cons r0
  obtain ⟨rfl, rfl, rfl⟩ := trodAll_nil r1
  obtain rfl : args = #[v0, v1] := by cases args; simp_all
  obtain ⟨rfl, rfl⟩ := trodVars_none hV
  obtain ⟨a0, rfl, rfl, rfl, w0⟩ := open_int Try.underlying3 (hval 0 3 v0 rfl rfl) h0
  obtain ⟨a1, rfl, rfl, rfl, w1⟩ := open_int Try.underlying23 (hval 1 23 v1 rfl rfl) h1
  clear hA0 hval0
  simp only [List.append_nil] at hW'
  refine (walk a0 a1 w0 w1 W).mono fun e W' ⟨he, hg⟩ => ?_
  subst he
  exact ⟨_, rfl, _, _, _, [], [], [], hW', trodAll_mk1 (shut_bool Try.underlying4 _), (trodAll_cons_mk (shut_int Try.underlying3 w0) (trodAll_cons_mk (shut_int Try.underlying23 w1) trodAll_mk0)), rfl, hg.frame _, fun h => by cases h⟩

theorem over : Rows.codecSignsRow.holds Try.pinned (OpenSpec.ofChange Rows.codecSignsSpec) :=
  OpenClaim.holds_of_wide 12 Try.f12 rfl rfl rfl rfl rfl rfl rfl ⟨rfl, rfl, rfl, rfl, rfl⟩ rfl rfl rfl rfl rfl (by kernel_rfl) Try.func12 (by kernel_rfl)
    (of_decide_eq_true (by kernel_rfl)) (by unfold Func.isWrapper; first | (rw [if_pos (by decide +kernel)]; kernel_rfl) | (rw [if_neg (by decide +kernel)]; exact ⟨rfl, rfl⟩))
    (fun os started H enc _ => lifted os started H enc)

theorem proved : Rows.CodecSignsSaid :=
  over
#print axioms proved
end Go.Proofs.Ytbkpmmnkelihgaa.codecSigns
