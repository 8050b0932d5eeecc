/- CodecPutsNumbers returns true at every slice of bytes, every uint64 and every int, and leaves its arguments as they were. Conditions: none of its own. -/
import Derived.Test.YtbkpmmnkelihgaaAwake
import Derived.WalkKit
import Derived.ProofKit
import Derived.OpenShut
import Derived.ShutString
import Derived.ChangeOld
import Derived.Below
namespace Go.Proofs.Ytbkpmmnkelihgaa.codecPutsNumbers
open Go.ChangeShapes Go.WideShapes Go.ChangeAt Go.RowKit
open Go.ChangeMaps (open_string shut_string)
set_option linter.unusedVariables false

theorem own : ownKnob Try.prog.godebug = none := by kernel_rfl
theorem laidOut : laidOutB Try.prog = true := by kernel_rfl

theorem walk (a0 : Option Addr) (len0 cap0 : Nat) (z0 : List Int) (a1 : Int) (a2 : Int) (w : World) (w0 : IsRow .u8 w a0 len0 cap0 z0) (w1 : (Lit.int .u64 a1).wf = true) (w2 : (Lit.int .i64 a2).wf = true) :
    Calls Try.prog 3 #[.slice a0 len0 cap0, .int .u64 a1, .int .i64 a2] w fun e w' => e = .returned (.bool true) ∧ Below w.heap.size w w' := by
  obtain ⟨l, rfl, hlc, hcm, hr⟩ := isRow_rd w0
  obtain ⟨m0, m1⟩ : -9223372036854775808 ≤ a2 ∧ a2 ≤ 9223372036854775807 := by
    simp [Lit.wf, IntKind.min, IntKind.max, IntKind.signed, IntKind.bits] at w2
    omega
  obtain ⟨x, rfl, hx⟩ : ∃ x : Nat, a1 = x ∧ (x : Int) ≤ 18446744073709551615 := by
    simp [Lit.wf, IntKind.min, IntKind.max, IntKind.signed, IntKind.bits] at w1
    exact ⟨a1.toNat, by omega, by omega⟩
  by_cases hbig : 200 < l.length
  · have hb : (200 : Int) < l.length := by omega
    clear hbig w0 hlc hcm hr w1 w2 m0 m1 hx
    go_enter Try.func3, Try.ntmps3
    go_wp2_with fail
    with_reducible refine (awake_any _).mono ?_
    rintro e3 w3 ⟨rfl, hb3⟩
    go_wp2
    go_ret
    exact ⟨rfl, hb3⟩
  · have hb : l.length ≤ 200 := by omega
    have hbi : (l.length : Int) ≤ 200 := by omega
    have he := Cm.enc_le (show x < Cm.big by unfold Cm.big; omega)
    have hf := Cm.enc_le (Cm.foldI_lt m0 m1)
    have hfx : (Cm.foldI a2 : Int) ≤ 18446744073709551615 := by
      have := Cm.foldI_lt m0 m1
      unfold Cm.big at this
      omega
    clear hbig w0 hlc hcm w1 w2
    go_enter Try.func3, Try.ntmps3
    go_wp2_with (at_builtin; refine wpList_append_rd rfl (.const (.slice none 0 0)) (.tmp 14) 22 5 byteT rfl w.heap.size _ [] rfl (Own.nil w w.heap.size 5) _ _ l _ rfl hr (by simp; omega) (Nat.le_refl _) ?_; intro v1 w1 ho1 hb1)
    have hs1 := hb1.size
    with_reducible refine (put_uint _ _ _ _ _ ((hr.below hb1).more hs1) hx (by omega)).mono ?_
    rintro e w2 ⟨v2, rfl, ho2, hb2⟩
    have hs2 := hb2.size
    generalize hL2 : l ++ Cm.enc x = L2 at ho2
    have HL2 := Lib.hid hL2
    clear hL2
    obtain ⟨A2, c2, rfl, _, _, hr2⟩ := ho2.form
    go_wp2_with fail
    with_reducible refine (put_int _ _ _ _ _ (((hr.below hb1).more hs1).below hb2 |>.more hs2) m0 m1 (by omega)).mono ?_
    rintro e w3 ⟨v3, rfl, ho3, hb3⟩
    have hs3 := hb3.size
    generalize hL3 : l ++ Cm.enc (Cm.foldI a2) = L3 at ho3
    have HL3 := Lib.hid hL3
    clear hL3
    obtain ⟨A1, c1, rfl, _, _, hr1⟩ := Own.form (l := l) ho1
    have r1 : Rd w3 w3.heap.size A1 l := ((hr1.below hb2).more hs2 |>.below hb3).more hs3
    have r0 : Rd w3 w3.heap.size a0 l := ((((hr.below hb1).more hs1).below hb2).more hs2 |>.below hb3).more hs3
    have r2 : Rd w3 w3.heap.size A2 L2 := (hr2.below hb3).more hs3
    obtain ⟨A3, c3, rfl, _, _, r3⟩ := ho3.form
    have hb03 : Below w.heap.size w w3 := (hb1.trans (hb2.mono hs1)).trans (hb3.mono (Nat.le_trans hs1 hs2))
    clear ho1 ho2 ho3 hr1 hr2 hr
    go_wp2_with (at_builtin; refine wpList_append_rd rfl (.const (.slice none 0 0)) (.tmp 23) 22 5 byteT rfl w3.heap.size _ [] rfl (Own.nil w3 w3.heap.size 5) _ _ l _ rfl r1 (by simp; omega) (Nat.le_refl _) ?_; intro v4 w4 ho4 hb4)
    have hs4 := hb4.size
    with_reducible refine (ref_uint _ _ hx).mono ?_
    rintro e w5 ⟨v5, rfl, ho5, hb5⟩
    have hs5 := hb5.size
    obtain ⟨A5, c5, rfl, _, _, r5⟩ := ho5.form
    have ho4' : Own w5 w3.heap.size 5 v4 l := Own.below (l := l) ho4 hb5
    have hb35 : Below w3.heap.size w3 w5 := hb4.trans (hb5.mono hs4)
    clear ho4 ho5
    go_wp2_with (at_builtin; refine wpList_append_rd rfl (.tmp 24) (.tmp 26) 22 5 byteT rfl w3.heap.size _ l rfl ho4' _ _ (Cm.enc x) _ rfl r5 (by omega) (Nat.le_trans hs4 hs5) ?_; intro v6 w6 ho6 hb6)
    have hb36 : Below w3.heap.size w3 w6 := hb35.trans hb6
    have hs6 := hb36.size
    rw [HL2.out] at ho6
    obtain ⟨A6, c6, rfl, _, _, r6⟩ := ho6.form
    with_reducible refine (same_yes _ _ _ _ _ _ _ _ _ (r2.below hb36) r6 rfl).mono ?_
    rintro e w' ⟨rfl, rfl⟩
    go_wp2_with fail
    with_reducible refine (same_yes _ _ _ _ _ _ _ _ _ (r0.below hb36) (r1.below hb36) rfl).mono ?_
    rintro e w' ⟨rfl, rfl⟩
    have r16 := (r1.below hb36).more hs6
    have r36 := (r3.below hb36).more hs6
    have hb06 : Below w.heap.size w w6 := hb03.trans (hb36.mono hb03.size)
    clear hb35 hb36 hb6 hb5 hb4 hb3 hb2 hb1 ho6 r6 r0 r1 r2 r3 r5 ho4'
    go_wp2_with (at_builtin; refine wpList_append_rd rfl (.const (.slice none 0 0)) (.tmp 37) 22 5 byteT rfl w6.heap.size _ [] rfl (Own.nil w6 w6.heap.size 5) _ _ l _ rfl r16 (by simp; omega) (Nat.le_refl _) ?_; intro v7 w7 ho7 hb7)
    have hs7 := hb7.size
    with_reducible refine (rfold_any _ _ m0 m1).mono ?_
    rintro e w' ⟨rfl, rfl⟩
    go_wp2_with fail
    with_reducible refine (ref_uint _ _ hfx).mono ?_
    rintro e w8 ⟨v8, rfl, ho8, hb8⟩
    have hs8 := hb8.size
    obtain ⟨A8, c8, rfl, _, _, r8⟩ := ho8.form
    have ho7' : Own w8 w6.heap.size 5 v7 l := Own.below (l := l) ho7 hb8
    have hb68 : Below w6.heap.size w6 w8 := hb7.trans (hb8.mono hs7)
    clear ho7 ho8
    go_wp2_with (at_builtin; refine wpList_append_rd rfl (.tmp 38) (.tmp 41) 22 5 byteT rfl w6.heap.size _ l rfl ho7' _ _ (Cm.enc (Cm.foldI a2)) _ rfl r8 (by omega) (Nat.le_trans hs7 hs8) ?_; intro v9 w9 ho9 hb9)
    have hb69 : Below w6.heap.size w6 w9 := hb68.trans hb9
    rw [HL3.out] at ho9
    obtain ⟨A9, c9, rfl, _, _, r9⟩ := ho9.form
    with_reducible refine (same_yes _ _ _ _ _ _ _ _ _ (r36.below hb69) r9 rfl).mono ?_
    rintro e w' ⟨rfl, rfl⟩
    go_wp2_with fail
    with_reducible refine (awake_any _).mono ?_
    rintro e w10 ⟨rfl, hb10⟩
    go_wp2
    go_ret
    have hs69 := hb69.size
    have hs06 := hb06.size
    exact ⟨rfl, (hb06.trans (hb69.mono hs06)).trans (hb10.mono (by omega))⟩

set_option maxRecDepth 100000 in
theorem lifted (os : Os) (started : os.Started) (H : Type) (enc : TypeId × Value → H) :
    ReturnsInHanded {} Try.checked os 3 .any (Rows.codecPutsNumbersSpec.pre6 enc Try.prog Try.f3 Rows.codecPutsNumbersRow.domain false) (Rows.codecPutsNumbersSpec.post enc Try.prog Try.f3 false true false false) := by
  refine returnsInHanded_of_change (C := Try.checked) own started (by kernel_rfl) Try.func3
    (ChangeSpec.witness6 (enc := enc) (C := Try.checked) false ⟨#[], #[.slice none 0 0, .int .u64 0, .int .i64 0], []⟩ 8 (by kernel_rfl) (by kernel_rfl) (by kernel_rfl) (by kernel_rfl)) ?_
  intro W base args ds gs before hval0 hW hcnd _
  have hval : ∀ (j : Nat) t v, Try.f3.params[j]? = some t → args[j]? = some v → Value.okWide Try.prog W .any base t v := hval0
  have hW' := hW
  obtain ⟨p, q, hA0, hV, rfl, hfz, hnd⟩ := hW
  have hA : DataW.TrodAll enc Try.prog W 0 (fun _ => true) true Try.f3.params.toList args.toList ds p := hA0
  rw [Try.params3] at hA hval
  obtain ⟨v0, vs0, d0, ds0, p0, q0, hargs, rfl, rfl, h0, r0⟩ := trodAll_cons hA
  obtain ⟨v1, vs1, d1, ds1, p1, q1, rfl, rfl, rfl, h1, r1⟩ := trodAll_cons r0
  obtain ⟨v2, vs2, d2, ds2, p2, q2, rfl, rfl, rfl, h2, r2⟩ := trodAll_cons r1
  obtain ⟨rfl, rfl, rfl⟩ := trodAll_nil r2
  obtain rfl : args = #[v0, v1, v2] := by cases args; simp_all
  obtain ⟨rfl, rfl⟩ := trodVars_none hV
  obtain ⟨a0, len0, cap0, rfl⟩ := okWide_slice Try.underlying22 (hval 0 22 v0 rfl rfl)
  have k0 := h0
  have lt0 : ∀ x ∈ p0, x.block < W.heap.size := by obtain ⟨m, hm⟩ := k0; exact DataW.trod_lt m _ _ _ hm
  obtain ⟨z0, w0⟩ : ∃ zs, IsRow .u8 W a0 len0 cap0 zs := by
    obtain ⟨fuel, hf⟩ := h0
    rcases open_ints Try.underlying22 Try.underlying5 (by kernel_rfl) hf with ⟨hcs, _⟩ | ⟨x, l, c, zs, hcs, _, hl, hm, hz, _, hcell, hwz⟩
    · simp [Value.cells] at hcs
      obtain ⟨rfl, rfl, rfl⟩ := hcs
      exact ⟨[], .inl ⟨rfl, rfl, rfl, rfl⟩⟩
    · simp [Value.cells] at hcs
      obtain ⟨rfl, rfl, rfl⟩ := hcs
      exact ⟨zs, .inr ⟨_, rfl, hl, hm, by simpa using hz, hcell, hwz⟩⟩
  obtain ⟨a1, rfl, rfl, rfl, w1⟩ := open_int Try.underlying23 (hval 1 23 v1 rfl rfl) h1
  obtain ⟨a2, rfl, rfl, rfl, w2⟩ := open_int Try.underlying3 (hval 2 3 v2 rfl rfl) h2
  clear hA0 hval0
  refine (walk a0 len0 cap0 z0 a1 a2 W w0 w1 w2).mono fun e W' ⟨he, bel⟩ => ?_
  subst he
  exact ⟨_, rfl, _, _, _, [], _, [], hW', trodAll_mk1 (shut_bool Try.underlying4 _), (trodAll_cons_mk (Below.trod laidOut (by kernel_rfl) (of_decide_eq_true (by kernel_rfl)) k0 bel lt0) (trodAll_cons_mk (shut_int Try.underlying23 w1) (trodAll_cons_mk (shut_int Try.underlying3 w2) trodAll_mk0))), rfl, bel.frame _, fun h => by cases h⟩

theorem over : Rows.codecPutsNumbersRow.holds Try.pinned (OpenSpec.ofChange Rows.codecPutsNumbersSpec) :=
  OpenClaim.holds_of_wide 3 Try.f3 rfl rfl rfl rfl rfl rfl rfl ⟨rfl, rfl, rfl, rfl, rfl⟩ rfl rfl rfl rfl rfl (by kernel_rfl) Try.func3 (by kernel_rfl)
    (of_decide_eq_true (by kernel_rfl)) (by unfold Func.isWrapper; first | (rw [if_pos (by decide +kernel)]; kernel_rfl) | (rw [if_neg (by decide +kernel)]; exact ⟨rfl, rfl⟩))
    (fun os started H enc _ => lifted os started H enc)

theorem proved : Rows.CodecPutsNumbersSaid := over
#print axioms proved
end Go.Proofs.Ytbkpmmnkelihgaa.codecPutsNumbers
