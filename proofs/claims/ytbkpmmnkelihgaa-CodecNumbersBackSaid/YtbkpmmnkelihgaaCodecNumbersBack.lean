/- CodecNumbersBack returns true at all slices of bytes, every uint64 and every int, and leaves its arguments as they were. Conditions: none of its own. -/
import Derived.Test.YtbkpmmnkelihgaaAwake
import Derived.WalkKit
import Derived.ProofKit
import Derived.OpenShut
import Derived.ShutString
import Derived.ChangeOld
import Derived.Below
namespace Go.Proofs.Ytbkpmmnkelihgaa.codecNumbersBack
open Go.ChangeShapes Go.WideShapes Go.ChangeAt Go.RowKit
open Go.ChangeMaps (open_string shut_string)
set_option linter.unusedVariables false

theorem own : ownKnob Try.prog.godebug = none := by kernel_rfl
theorem laidOut : laidOutB Try.prog = true := by kernel_rfl

theorem walk (a0 : Option Addr) (len0 cap0 : Nat) (z0 : List Int) (a1 : Option Addr) (len1 cap1 : Nat) (z1 : List Int) (a2 : Int) (a3 : Int) (w : World) (w0 : IsRow .u8 w a0 len0 cap0 z0) (w1 : IsRow .u8 w a1 len1 cap1 z1) (w2 : (Lit.int .u64 a2).wf = true) (w3 : (Lit.int .i64 a3).wf = true) :
    Calls Try.prog 8 #[.slice a0 len0 cap0, .slice a1 len1 cap1, .int .u64 a2, .int .i64 a3] w fun e w' => e = .returned (.bool true) ∧ Below w.heap.size w w' := by
  obtain ⟨lb, rfl, hlc, hcm, hr⟩ := isRow_rd w0
  obtain ⟨lr, rfl, hlc1, hcm1, hrr⟩ := isRow_rd w1
  obtain ⟨m0, m1⟩ : -9223372036854775808 ≤ a3 ∧ a3 ≤ 9223372036854775807 := by
    simp [Lit.wf, IntKind.min, IntKind.max, IntKind.signed, IntKind.bits] at w3
    omega
  obtain ⟨x, rfl, hx⟩ : ∃ x : Nat, a2 = x ∧ (x : Int) ≤ 18446744073709551615 := by
    simp [Lit.wf, IntKind.min, IntKind.max, IntKind.signed, IntKind.bits] at w2
    exact ⟨a2.toNat, by omega, by omega⟩
  by_cases hbig : 100 < lb.length
  · have hb : (100 : Int) < lb.length := by omega
    clear hbig w0 w1 hlc hcm hr hlc1 hcm1 hrr w2 w3 m0 m1 hx
    go_enter Try.func8, Try.ntmps8
    go_wp2_with fail
    with_reducible refine (awake_any _).mono ?_
    rintro e3 w3 ⟨rfl, hb3⟩
    go_wp2
    go_ret
    exact ⟨rfl, hb3⟩
  by_cases hbig2 : 100 < lr.length
  · have hb : (lb.length : Int) ≤ 100 := by omega
    have hb2 : (100 : Int) < lr.length := by omega
    clear hbig hbig2 w0 w1 hlc hcm hr hlc1 hcm1 hrr w2 w3 m0 m1 hx
    go_enter Try.func8, Try.ntmps8
    go_wp2_with fail
    with_reducible refine (awake_any _).mono ?_
    rintro e3 w3 ⟨rfl, hb3⟩
    go_wp2
    go_ret
    exact ⟨rfl, hb3⟩
  · have hb : (lb.length : Int) ≤ 100 := by omega
    have hb2 : (lr.length : Int) ≤ 100 := by omega
    have hxb : x < Cm.big := by unfold Cm.big; omega
    have hfb := Cm.foldI_lt m0 m1
    have he := Cm.enc_le hxb
    have hf := Cm.enc_le hfb
    have hep := Cm.enc_pos x
    have hfp := Cm.enc_pos (Cm.foldI a3)
    generalize hL2 : lb ++ Cm.enc x = L2
    generalize hL3 : L2 ++ Cm.enc (Cm.foldI a3) = L3
    generalize hL6 : L3 ++ lr = L6
    have hn2 : L2.length = lb.length + (Cm.enc x).length := by rw [← hL2, List.length_append]
    have hn3 : L3.length = L2.length + (Cm.enc (Cm.foldI a3)).length := by rw [← hL3, List.length_append]
    have hn6 : L6.length = L3.length + lr.length := by rw [← hL6, List.length_append]
    have q1 : nat3 (Cm.uintRes L6 (lb.length : Int)) = ((x : Int), L2.length, 0) := by
      have h := Cm.uintRes_at lb (Cm.enc (Cm.foldI a3) ++ lr) hxb
      rw [← List.append_assoc, hL2, hL3, hL6] at h
      rw [h, hn2]
      rfl
    have q2 : int3 (Cm.uintRes L6 (L2.length : Int)) = (a3, L3.length, 0) := by
      have h := Cm.uintRes_at L2 lr hfb
      rw [hL3, hL6] at h
      rw [h, hn3]
      unfold int3
      rw [Cm.unfold_fold]
    have Q1 := Lib.hid q1
    have Q2 := Lib.hid q2
    have HL2 := Lib.hid hL2
    have HL3 := Lib.hid hL3
    have HL6 := Lib.hid hL6
    have i1 : (lb.length : Int) < L2.length := by omega
    have i2 : (L2.length : Int) < L3.length := by omega
    have i3 : (L3.length : Int) ≤ 1000 := by omega
    have i6 : (L6.length : Int) ≤ 1000 := by omega
    have i2' : (L2.length : Int) ≤ 1000 := by omega
    clear q1 q2 hL2 hL3 hL6 hn2 hn3 hn6 hbig hbig2 w0 w1 hlc hcm hlc1 hcm1 w2 w3 he hf hep hfp hxb hfb
    go_enter Try.func8, Try.ntmps8
    go_wp2_with (at_builtin; refine wpList_append_rd rfl (.const (.slice none 0 0)) (.tmp 26) 22 5 byteT rfl w.heap.size _ [] rfl (Own.nil w w.heap.size 5) _ _ lb _ rfl hr (by simp; omega) (Nat.le_refl _) ?_; intro v1 w1 ho1 hb1)
    have hs1 := hb1.size
    obtain ⟨A1, c1, rfl, _, _, r1⟩ := Own.form (l := lb) ho1
    with_reducible refine (put_uint _ _ _ _ _ r1 hx (by omega)).mono ?_
    rintro e w2 ⟨v2, rfl, ho2, hb2⟩
    have hs2 := hb2.size
    rw [HL2.out] at ho2
    obtain ⟨A2, c2, rfl, _, _, r2⟩ := ho2.form
    go_wp2_with fail
    with_reducible refine (put_int _ _ _ _ _ r2 m0 m1 (by omega)).mono ?_
    rintro e w3 ⟨v3, rfl, ho3, hb3⟩
    rw [HL3.out] at ho3
    obtain ⟨A3, c3, rfl, _, _, r3⟩ := ho3.form
    have hb03 : Below w.heap.size w w3 := (hb1.trans (hb2.mono hs1)).trans (hb3.mono (Nat.le_trans hs1 hs2))
    have hs03 := hb03.size
    clear ho1 ho2 ho3 r1 r2 hb1 hb2 hb3 hs1 hs2 hr
    go_wp2_with (first
      | (at_builtin; refine wpList_append_rd rfl (.const (.slice none 0 0)) (.tmp 34) 22 5 byteT rfl w3.heap.size _ [] rfl (Own.nil w3 w3.heap.size 5) _ _ L3 _ rfl r3 (by simp; omega) (Nat.le_refl _) ?_; intro v4 w4 ho4 hb4)
      | (at_builtin; refine wpList_append_rd rfl (.tmp 35) (.tmp 36) 22 5 byteT rfl w3.heap.size _ L3 rfl ho4 _ _ lr _ rfl (hrr.below (hb03.trans (hb4.mono hs03))) (by omega) hb4.size ?_; intro v5 w5 ho5 hb5))
    rw [HL6.out] at ho5
    obtain ⟨A6, c6, rfl, hc6, _, r6⟩ := ho5.form
    have hb35 : Below w3.heap.size w3 w5 := hb4.trans hb5
    have hs35 := hb35.size
    have u1 := uint_any A6 L6 c6 (lb.length : Int) w5 r6 hc6 (by omega)
    rw [Q1.out] at u1
    have u2 := int_any A6 L6 c6 (L2.length : Int) w5 r6 hc6 (by omega)
    rw [Q2.out] at u2
    have U1 := Lib.hid u1
    have U2 := Lib.hid u2
    clear u1 u2 r6 ho5 hb5 hb4 ho4 r3 hc6 hrr
    with_reducible refine U1.out.mono ?_
    rintro e w' ⟨rfl, rfl⟩
    go_wp2_with fail
    with_reducible refine U2.out.mono ?_
    rintro e w' ⟨rfl, rfl⟩
    go_wp2_with fail
    with_reducible refine (awake_any _).mono ?_
    rintro e w10 ⟨rfl, hb10⟩
    go_wp2
    go_ret
    exact ⟨rfl, (hb03.trans (hb35.mono hs03)).trans (hb10.mono (by omega))⟩

set_option maxRecDepth 100000 in
theorem lifted (os : Os) (started : os.Started) (H : Type) (enc : TypeId × Value → H) :
    ReturnsInHanded {} Try.checked os 8 .any (Rows.codecNumbersBackSpec.pre6 enc Try.prog Try.f8 Rows.codecNumbersBackRow.domain false) (Rows.codecNumbersBackSpec.post enc Try.prog Try.f8 false true false false) := by
  refine returnsInHanded_of_change (C := Try.checked) own started (by kernel_rfl) Try.func8
    (ChangeSpec.witness6 (enc := enc) (C := Try.checked) false ⟨#[], #[.slice none 0 0, .slice none 0 0, .int .u64 0, .int .i64 0], []⟩ 8 (by kernel_rfl) (by kernel_rfl) (by kernel_rfl) (by kernel_rfl)) ?_
  intro W base args ds gs before hval0 hW hcnd _
  have hval : ∀ (j : Nat) t v, Try.f8.params[j]? = some t → args[j]? = some v → Value.okWide Try.prog W .any base t v := hval0
  have hW' := hW
  obtain ⟨p, q, hA0, hV, rfl, hfz, hnd⟩ := hW
  have hA : DataW.TrodAll enc Try.prog W 0 (fun _ => true) true Try.f8.params.toList args.toList ds p := hA0
  rw [Try.params8] at hA hval
  obtain ⟨v0, vs0, d0, ds0, p0, q0, hargs, rfl, rfl, h0, r0⟩ := trodAll_cons hA
  obtain ⟨v1, vs1, d1, ds1, p1, q1, rfl, rfl, rfl, h1, r1⟩ := trodAll_cons r0
  obtain ⟨v2, vs2, d2, ds2, p2, q2, rfl, rfl, rfl, h2, r2⟩ := trodAll_cons r1
  obtain ⟨v3, vs3, d3, ds3, p3, q3, rfl, rfl, rfl, h3, r3⟩ := trodAll_cons r2
  obtain ⟨rfl, rfl, rfl⟩ := trodAll_nil r3
  obtain rfl : args = #[v0, v1, v2, v3] := by cases args; simp_all
  obtain ⟨rfl, rfl⟩ := trodVars_none hV
  obtain ⟨a0, len0, cap0, rfl⟩ := okWide_slice Try.underlying22 (hval 0 22 v0 rfl rfl)
  have k0 := h0
  have lt0 : ∀ x ∈ p0, x.block < W.heap.size := by obtain ⟨m, hm⟩ := k0; exact DataW.trod_lt m _ _ _ hm
  obtain ⟨z0, w0⟩ : ∃ zs, IsRow .u8 W a0 len0 cap0 zs := by
    obtain ⟨fuel, hf⟩ := h0
    rcases open_ints Try.underlying22 Try.underlying5 (by kernel_rfl) hf with ⟨hcs, _⟩ | ⟨x, l, c, zs, hcs, _, hl, hm, hz, _, hcell, hwz⟩
    · simp [Value.cells] at hcs
      obtain ⟨rfl, rfl, rfl⟩ := hcs
      exact ⟨[], .inl ⟨rfl, rfl, rfl, rfl⟩⟩
    · simp [Value.cells] at hcs
      obtain ⟨rfl, rfl, rfl⟩ := hcs
      exact ⟨zs, .inr ⟨_, rfl, hl, hm, by simpa using hz, hcell, hwz⟩⟩
  obtain ⟨a1, len1, cap1, rfl⟩ := okWide_slice Try.underlying22 (hval 1 22 v1 rfl rfl)
  have k1 := h1
  have lt1 : ∀ x ∈ p1, x.block < W.heap.size := by obtain ⟨m, hm⟩ := k1; exact DataW.trod_lt m _ _ _ hm
  obtain ⟨z1, w1⟩ : ∃ zs, IsRow .u8 W a1 len1 cap1 zs := by
    obtain ⟨fuel, hf⟩ := h1
    rcases open_ints Try.underlying22 Try.underlying5 (by kernel_rfl) hf with ⟨hcs, _⟩ | ⟨x, l, c, zs, hcs, _, hl, hm, hz, _, hcell, hwz⟩
    · simp [Value.cells] at hcs
      obtain ⟨rfl, rfl, rfl⟩ := hcs
      exact ⟨[], .inl ⟨rfl, rfl, rfl, rfl⟩⟩
    · simp [Value.cells] at hcs
      obtain ⟨rfl, rfl, rfl⟩ := hcs
      exact ⟨zs, .inr ⟨_, rfl, hl, hm, by simpa using hz, hcell, hwz⟩⟩
  obtain ⟨a2, rfl, rfl, rfl, w2⟩ := open_int Try.underlying23 (hval 2 23 v2 rfl rfl) h2
  obtain ⟨a3, rfl, rfl, rfl, w3⟩ := open_int Try.underlying3 (hval 3 3 v3 rfl rfl) h3
  clear hA0 hval0
  refine (walk a0 len0 cap0 z0 a1 len1 cap1 z1 a2 a3 W w0 w1 w2 w3).mono fun e W' ⟨he, bel⟩ => ?_
  subst he
  exact ⟨_, rfl, _, _, _, [], _, [], hW', trodAll_mk1 (shut_bool Try.underlying4 _), (trodAll_cons_mk (Below.trod laidOut (by kernel_rfl) (of_decide_eq_true (by kernel_rfl)) k0 bel lt0) (trodAll_cons_mk (Below.trod laidOut (by kernel_rfl) (of_decide_eq_true (by kernel_rfl)) k1 bel lt1) (trodAll_cons_mk (shut_int Try.underlying23 w2) (trodAll_cons_mk (shut_int Try.underlying3 w3) trodAll_mk0)))), rfl, bel.frame _, fun h => by cases h⟩

theorem over : Rows.codecNumbersBackRow.holds Try.pinned (OpenSpec.ofChange Rows.codecNumbersBackSpec) :=
  OpenClaim.holds_of_wide 8 Try.f8 rfl rfl rfl rfl rfl rfl rfl ⟨rfl, rfl, rfl, rfl, rfl⟩ rfl rfl rfl rfl rfl (by kernel_rfl) Try.func8 (by kernel_rfl)
    (of_decide_eq_true (by kernel_rfl)) (by unfold Func.isWrapper; first | (rw [if_pos (by decide +kernel)]; kernel_rfl) | (rw [if_neg (by decide +kernel)]; exact ⟨rfl, rfl⟩))
    (fun os started H enc _ => lifted os started H enc)

theorem proved : Rows.CodecNumbersBackSaid := over
#print axioms proved
end Go.Proofs.Ytbkpmmnkelihgaa.codecNumbersBack
