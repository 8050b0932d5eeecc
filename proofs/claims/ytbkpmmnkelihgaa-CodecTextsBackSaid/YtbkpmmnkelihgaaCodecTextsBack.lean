/- CodecTextsBack returns true at all slices of bytes, every string, every bool and every greatest length, and leaves its arguments as they were. Conditions: none of its own. -/
import Derived.Test.YtbkpmmnkelihgaaAwake
import Derived.WalkKit
import Derived.ProofKit
import Derived.OpenShut
import Derived.ShutString
import Derived.ChangeOld
import Derived.Below
namespace Go.Proofs.Ytbkpmmnkelihgaa.codecTextsBack
open Go.ChangeShapes Go.WideShapes Go.ChangeAt Go.RowKit
open Go.ChangeMaps (open_string shut_string)
set_option linter.unusedVariables false

theorem own : ownKnob Try.prog.godebug = none := by kernel_rfl
theorem laidOut : laidOutB Try.prog = true := by kernel_rfl

set_option maxHeartbeats 2000000 in
theorem walk (a0 : Option Addr) (len0 cap0 : Nat) (z0 : List Int) (a1 : Option Addr) (len1 cap1 : Nat) (z1 : List Int) (a2 : ByteArray) (a3 : Bool) (a4 : Int) (w : World) (w0 : IsRow .u8 w a0 len0 cap0 z0) (w1 : IsRow .u8 w a1 len1 cap1 z1) (w2 : a2.size ≤ maxLen) (w4 : (Lit.int .i64 a4).wf = true) :
    Calls Try.prog 9 #[.slice a0 len0 cap0, .slice a1 len1 cap1, .string a2, .bool a3, .int .i64 a4] w fun e w' => e = .returned (.bool true) ∧ Below w.heap.size w w' := by
  obtain ⟨lb, rfl, hlc, hcm, hr⟩ := isRow_rd w0
  obtain ⟨lr, rfl, hlc1, hcm1, hrr⟩ := isRow_rd w1
  obtain ⟨m0, m1⟩ : -9223372036854775808 ≤ a4 ∧ a4 ≤ 9223372036854775807 := by
    simp [Lit.wf, IntKind.min, IntKind.max, IntKind.signed, IntKind.bits] at w4
    omega
  by_cases hbig : 100 < lb.length
  · have hb : (100 : Int) < lb.length := by omega
    clear hbig w0 w1 hlc hcm hr hlc1 hcm1 hrr w2 w4 m0 m1
    go_enter Try.func9, Try.ntmps9
    go_wp2_with fail
    with_reducible refine (awake_any _).mono ?_
    rintro e3 w3 ⟨rfl, hb3⟩
    go_wp2
    go_ret
    exact ⟨rfl, hb3⟩
  by_cases hbig2 : 100 < lr.length
  · have hb : (lb.length : Int) ≤ 100 := by omega
    have hb2 : (100 : Int) < lr.length := by omega
    clear hbig hbig2 w0 w1 hlc hcm hr hlc1 hcm1 hrr w2 w4 m0 m1
    go_enter Try.func9, Try.ntmps9
    go_wp2_with fail
    with_reducible refine (awake_any _).mono ?_
    rintro e3 w3 ⟨rfl, hb3⟩
    go_wp2
    go_ret
    exact ⟨rfl, hb3⟩
  by_cases hbig3 : 400 < a2.size
  · have hb : (lb.length : Int) ≤ 100 := by omega
    have hb2 : (lr.length : Int) ≤ 100 := by omega
    have hb4 : (400 : Int) < a2.size := by omega
    clear hbig hbig2 hbig3 w0 w1 hlc hcm hr hlc1 hcm1 hrr w2 w4 m0 m1
    go_enter Try.func9, Try.ntmps9
    go_wp2_with fail
    with_reducible refine (awake_any _).mono ?_
    rintro e3 w3 ⟨rfl, hb3⟩
    go_wp2
    go_ret
    exact ⟨rfl, hb3⟩
  have hb : (lb.length : Int) ≤ 100 := by omega
  have hb2 : (lr.length : Int) ≤ 100 := by omega
  have hb4 : (a2.size : Int) ≤ 400 := by omega
  have hxb : a2.size < Cm.big := by unfold Cm.big; omega
  have he := Cm.enc_le hxb
  have hed : a2.data.toList.length = a2.size := Array.length_toList
  have tat := Cm.textRes_at lb a2.data.toList ([boolByte a3] ++ lr) a4 (by rw [hed]; exact hxb)
  rw [← List.append_assoc, hed] at tat
  generalize hL2 : lb ++ Cm.enc a2.size ++ a2.data.toList = L2 at tat
  have bat : Cm.boolRes (L2 ++ [boolByte a3] ++ lr) (L2.length : Int) = (a3, L2.length + 1, 0) := Cm.boolRes_at L2 lr a3
  generalize hL3 : L2 ++ [boolByte a3] = L3 at tat bat
  generalize hL6 : L3 ++ lr = L6 at tat bat
  have hn2 : L2.length = lb.length + (Cm.enc a2.size).length + a2.size := by rw [← hL2, List.length_append, List.length_append, hed]
  have hn3 : L3.length = L2.length + 1 := by rw [← hL3, List.length_append]; rfl
  have hn6 : L6.length = L3.length + lr.length := by rw [← hL6, List.length_append]
  rw [← hn3] at bat
  have HL2 := Lib.hid hL2
  have HL3 := Lib.hid hL3
  have HL6 := Lib.hid hL6
  have BAT := Lib.hid bat
  have i2' : (L2.length : Int) ≤ 1000 := by omega
  have i3 : (L3.length : Int) ≤ 1000 := by omega
  have i6 : (L6.length : Int) ≤ 1000 := by omega
  have ie : ((L2.length : Int) != (L3.length : Int) - 1) = false := by
    have : (L2.length : Int) = (L3.length : Int) - 1 := by omega
    rw [this]
    simp
  clear bat hL2 hL3 hL6 hn2 hn3 hn6 hbig hbig2 hbig3 w0 w1 hlc hcm hlc1 hcm1 w2 w4 he hxb hed
  by_cases hmax : max a4 0 < (a2.size : Int)
  · rw [if_pos hmax] at tat
    have TAT := Lib.hid tat
    have d1 : a4 < (a2.size : Int) := by omega
    have dp : (0 : Int) < (a2.size : Int) := by omega
    clear tat hmax
    by_cases hneg : 0 ≤ a4
    · skip
      go_enter Try.func9, Try.ntmps9
      go_wp2_with (at_builtin; refine wpList_append_rd rfl (.const (.slice none 0 0)) (.tmp 33) 22 5 byteT rfl w.heap.size _ [] rfl (Own.nil w w.heap.size 5) _ _ lb _ rfl hr (by simp; omega) (Nat.le_refl _) ?_; intro v1 w1 ho1 hb1)
      have hs1 := hb1.size
      obtain ⟨A1, c1, rfl, _, _, r1⟩ := Own.form (l := lb) ho1
      with_reducible refine (put_text _ _ _ _ _ r1 (by omega)).mono ?_
      rintro e w2 ⟨v2, rfl, ho2, hb2⟩
      have hs2 := hb2.size
      rw [HL2.out] at ho2
      obtain ⟨A2, c2, rfl, _, _, r2⟩ := ho2.form
      go_wp2_with fail
      with_reducible refine (put_bool _ _ _ _ _ r2 (by omega)).mono ?_
      rintro e w3 ⟨v3, rfl, ho3, hb3⟩
      rw [HL3.out] at ho3
      obtain ⟨A3, c3, rfl, _, _, r3⟩ := ho3.form
      have hb03 : Below w.heap.size w w3 := (hb1.trans (hb2.mono hs1)).trans (hb3.mono (Nat.le_trans hs1 hs2))
      have hs03 := hb03.size
      clear ho1 ho2 ho3 r1 r2 hb1 hb2 hb3 hs1 hs2 hr
      go_wp2_with (first
        | (at_builtin; refine wpList_append_rd rfl (.const (.slice none 0 0)) (.tmp 41) 22 5 byteT rfl w3.heap.size _ [] rfl (Own.nil w3 w3.heap.size 5) _ _ L3 _ rfl r3 (by simp; omega) (Nat.le_refl _) ?_; intro v4 w4 ho4 hb4)
        | (at_builtin; refine wpList_append_rd rfl (.tmp 42) (.tmp 43) 22 5 byteT rfl w3.heap.size _ L3 rfl ho4 _ _ lr _ rfl (hrr.below (hb03.trans (hb4.mono hs03))) (by omega) hb4.size ?_; intro v5 w5 ho5 hb5))
      rw [HL6.out] at ho5
      obtain ⟨A6, c6, rfl, hc6, hm6, r6⟩ := ho5.form
      have hb35 : Below w3.heap.size w3 w5 := hb4.trans hb5
      have hs35 := hb35.size
      have hm6' : (c6 : Int) ≤ 9223372036854775807 := by unfold maxLen at hm6; omega
      have u1 := text_any A6 L6 c6 (lb.length : Int) a4 w5 r6 hc6 hm6' m0 m1
      rw [TAT.out] at u1
      have u1' : Calls Try.prog 28 #[.slice A6 L6.length c6, .int .i64 (lb.length : Int), .int .i64 a4] w5 (fun e w' => e = .returned (.tuple #[.string ⟨#[]⟩, .int .i64 0, .int .i64 13]) ∧ w5 = w') := u1
      have U1 := Lib.hid u1'
      clear u1 u1' r6 ho5 hb5 hb4 ho4 r3 hc6 hrr hm6 hm6'
      with_reducible refine U1.out.mono ?_
      rintro e w' ⟨rfl, rfl⟩
      go_wp2_with fail
      with_reducible refine (awake_any _).mono ?_
      rintro e w10 ⟨rfl, hb10⟩
      go_wp2
      go_ret
      exact ⟨rfl, (hb03.trans (hb35.mono hs03)).trans (hb10.mono (by omega))⟩
    · have hneg' : a4 < 0 := by omega
      go_enter Try.func9, Try.ntmps9
      go_wp2_with (at_builtin; refine wpList_append_rd rfl (.const (.slice none 0 0)) (.tmp 33) 22 5 byteT rfl w.heap.size _ [] rfl (Own.nil w w.heap.size 5) _ _ lb _ rfl hr (by simp; omega) (Nat.le_refl _) ?_; intro v1 w1 ho1 hb1)
      have hs1 := hb1.size
      obtain ⟨A1, c1, rfl, _, _, r1⟩ := Own.form (l := lb) ho1
      with_reducible refine (put_text _ _ _ _ _ r1 (by omega)).mono ?_
      rintro e w2 ⟨v2, rfl, ho2, hb2⟩
      have hs2 := hb2.size
      rw [HL2.out] at ho2
      obtain ⟨A2, c2, rfl, _, _, r2⟩ := ho2.form
      go_wp2_with fail
      with_reducible refine (put_bool _ _ _ _ _ r2 (by omega)).mono ?_
      rintro e w3 ⟨v3, rfl, ho3, hb3⟩
      rw [HL3.out] at ho3
      obtain ⟨A3, c3, rfl, _, _, r3⟩ := ho3.form
      have hb03 : Below w.heap.size w w3 := (hb1.trans (hb2.mono hs1)).trans (hb3.mono (Nat.le_trans hs1 hs2))
      have hs03 := hb03.size
      clear ho1 ho2 ho3 r1 r2 hb1 hb2 hb3 hs1 hs2 hr
      go_wp2_with (first
        | (at_builtin; refine wpList_append_rd rfl (.const (.slice none 0 0)) (.tmp 41) 22 5 byteT rfl w3.heap.size _ [] rfl (Own.nil w3 w3.heap.size 5) _ _ L3 _ rfl r3 (by simp; omega) (Nat.le_refl _) ?_; intro v4 w4 ho4 hb4)
        | (at_builtin; refine wpList_append_rd rfl (.tmp 42) (.tmp 43) 22 5 byteT rfl w3.heap.size _ L3 rfl ho4 _ _ lr _ rfl (hrr.below (hb03.trans (hb4.mono hs03))) (by omega) hb4.size ?_; intro v5 w5 ho5 hb5))
      rw [HL6.out] at ho5
      obtain ⟨A6, c6, rfl, hc6, hm6, r6⟩ := ho5.form
      have hb35 : Below w3.heap.size w3 w5 := hb4.trans hb5
      have hs35 := hb35.size
      have hm6' : (c6 : Int) ≤ 9223372036854775807 := by unfold maxLen at hm6; omega
      have u1 := text_any A6 L6 c6 (lb.length : Int) a4 w5 r6 hc6 hm6' m0 m1
      rw [TAT.out] at u1
      have u1' : Calls Try.prog 28 #[.slice A6 L6.length c6, .int .i64 (lb.length : Int), .int .i64 a4] w5 (fun e w' => e = .returned (.tuple #[.string ⟨#[]⟩, .int .i64 0, .int .i64 13]) ∧ w5 = w') := u1
      have U1 := Lib.hid u1'
      clear u1 u1' r6 ho5 hb5 hb4 ho4 r3 hc6 hrr hm6 hm6'
      with_reducible refine U1.out.mono ?_
      rintro e w' ⟨rfl, rfl⟩
      go_wp2_with fail
      with_reducible refine (awake_any _).mono ?_
      rintro e w10 ⟨rfl, hb10⟩
      go_wp2
      go_ret
      exact ⟨rfl, (hb03.trans (hb35.mono hs03)).trans (hb10.mono (by omega))⟩
  · rw [if_neg hmax] at tat
    have TAT := Lib.hid tat
    clear tat
    by_cases hlt : a4 < (a2.size : Int)
    · have d1 : a4 < 0 := by omega
      have d2 : (a2.size : Int) ≤ 0 := by omega
      clear hmax
      go_enter Try.func9, Try.ntmps9
      go_wp2_with (at_builtin; refine wpList_append_rd rfl (.const (.slice none 0 0)) (.tmp 33) 22 5 byteT rfl w.heap.size _ [] rfl (Own.nil w w.heap.size 5) _ _ lb _ rfl hr (by simp; omega) (Nat.le_refl _) ?_; intro v1 w1 ho1 hb1)
      have hs1 := hb1.size
      obtain ⟨A1, c1, rfl, _, _, r1⟩ := Own.form (l := lb) ho1
      with_reducible refine (put_text _ _ _ _ _ r1 (by omega)).mono ?_
      rintro e w2 ⟨v2, rfl, ho2, hb2⟩
      have hs2 := hb2.size
      rw [HL2.out] at ho2
      obtain ⟨A2, c2, rfl, _, _, r2⟩ := ho2.form
      go_wp2_with fail
      with_reducible refine (put_bool _ _ _ _ _ r2 (by omega)).mono ?_
      rintro e w3 ⟨v3, rfl, ho3, hb3⟩
      rw [HL3.out] at ho3
      obtain ⟨A3, c3, rfl, _, _, r3⟩ := ho3.form
      have hb03 : Below w.heap.size w w3 := (hb1.trans (hb2.mono hs1)).trans (hb3.mono (Nat.le_trans hs1 hs2))
      have hs03 := hb03.size
      clear ho1 ho2 ho3 r1 r2 hb1 hb2 hb3 hs1 hs2 hr
      go_wp2_with (first
        | (at_builtin; refine wpList_append_rd rfl (.const (.slice none 0 0)) (.tmp 41) 22 5 byteT rfl w3.heap.size _ [] rfl (Own.nil w3 w3.heap.size 5) _ _ L3 _ rfl r3 (by simp; omega) (Nat.le_refl _) ?_; intro v4 w4 ho4 hb4)
        | (at_builtin; refine wpList_append_rd rfl (.tmp 42) (.tmp 43) 22 5 byteT rfl w3.heap.size _ L3 rfl ho4 _ _ lr _ rfl (hrr.below (hb03.trans (hb4.mono hs03))) (by omega) hb4.size ?_; intro v5 w5 ho5 hb5))
      rw [HL6.out] at ho5
      obtain ⟨A6, c6, rfl, hc6, hm6, r6⟩ := ho5.form
      have hb35 : Below w3.heap.size w3 w5 := hb4.trans hb5
      have hs35 := hb35.size
      have hm6' : (c6 : Int) ≤ 9223372036854775807 := by unfold maxLen at hm6; omega
      have u1 := text_any A6 L6 c6 (lb.length : Int) a4 w5 r6 hc6 hm6' m0 m1
      rw [TAT.out] at u1
      have u1' : Calls Try.prog 28 #[.slice A6 L6.length c6, .int .i64 (lb.length : Int), .int .i64 a4] w5 (fun e w' => e = .returned (.tuple #[.string a2, .int .i64 (L2.length : Int), .int .i64 0]) ∧ w5 = w') := u1
      have U1 := Lib.hid u1'
      have u2 := bool_any A6 L6 c6 (L2.length : Int) w5 r6 (by omega)
      rw [BAT.out] at u2
      have U2 := Lib.hid u2
      clear u1 u1' u2 r6 ho5 hb5 hb4 ho4 r3 hc6 hrr hm6 hm6'
      with_reducible refine U1.out.mono ?_
      rintro e w' ⟨rfl, rfl⟩
      go_wp2_with fail
      with_reducible refine U2.out.mono ?_
      rintro e w' ⟨rfl, rfl⟩
      go_wp2_with fail
      with_reducible refine (awake_any _).mono ?_
      rintro e w10 ⟨rfl, hb10⟩
      go_wp2
      go_ret
      exact ⟨rfl, (hb03.trans (hb35.mono hs03)).trans (hb10.mono (by omega))⟩
    · have d1 : (a2.size : Int) ≤ a4 := by omega
      clear hmax hlt
      go_enter Try.func9, Try.ntmps9
      go_wp2_with (at_builtin; refine wpList_append_rd rfl (.const (.slice none 0 0)) (.tmp 33) 22 5 byteT rfl w.heap.size _ [] rfl (Own.nil w w.heap.size 5) _ _ lb _ rfl hr (by simp; omega) (Nat.le_refl _) ?_; intro v1 w1 ho1 hb1)
      have hs1 := hb1.size
      obtain ⟨A1, c1, rfl, _, _, r1⟩ := Own.form (l := lb) ho1
      with_reducible refine (put_text _ _ _ _ _ r1 (by omega)).mono ?_
      rintro e w2 ⟨v2, rfl, ho2, hb2⟩
      have hs2 := hb2.size
      rw [HL2.out] at ho2
      obtain ⟨A2, c2, rfl, _, _, r2⟩ := ho2.form
      go_wp2_with fail
      with_reducible refine (put_bool _ _ _ _ _ r2 (by omega)).mono ?_
      rintro e w3 ⟨v3, rfl, ho3, hb3⟩
      rw [HL3.out] at ho3
      obtain ⟨A3, c3, rfl, _, _, r3⟩ := ho3.form
      have hb03 : Below w.heap.size w w3 := (hb1.trans (hb2.mono hs1)).trans (hb3.mono (Nat.le_trans hs1 hs2))
      have hs03 := hb03.size
      clear ho1 ho2 ho3 r1 r2 hb1 hb2 hb3 hs1 hs2 hr
      go_wp2_with (first
        | (at_builtin; refine wpList_append_rd rfl (.const (.slice none 0 0)) (.tmp 41) 22 5 byteT rfl w3.heap.size _ [] rfl (Own.nil w3 w3.heap.size 5) _ _ L3 _ rfl r3 (by simp; omega) (Nat.le_refl _) ?_; intro v4 w4 ho4 hb4)
        | (at_builtin; refine wpList_append_rd rfl (.tmp 42) (.tmp 43) 22 5 byteT rfl w3.heap.size _ L3 rfl ho4 _ _ lr _ rfl (hrr.below (hb03.trans (hb4.mono hs03))) (by omega) hb4.size ?_; intro v5 w5 ho5 hb5))
      rw [HL6.out] at ho5
      obtain ⟨A6, c6, rfl, hc6, hm6, r6⟩ := ho5.form
      have hb35 : Below w3.heap.size w3 w5 := hb4.trans hb5
      have hs35 := hb35.size
      have hm6' : (c6 : Int) ≤ 9223372036854775807 := by unfold maxLen at hm6; omega
      have u1 := text_any A6 L6 c6 (lb.length : Int) a4 w5 r6 hc6 hm6' m0 m1
      rw [TAT.out] at u1
      have u1' : Calls Try.prog 28 #[.slice A6 L6.length c6, .int .i64 (lb.length : Int), .int .i64 a4] w5 (fun e w' => e = .returned (.tuple #[.string a2, .int .i64 (L2.length : Int), .int .i64 0]) ∧ w5 = w') := u1
      have U1 := Lib.hid u1'
      have u2 := bool_any A6 L6 c6 (L2.length : Int) w5 r6 (by omega)
      rw [BAT.out] at u2
      have U2 := Lib.hid u2
      clear u1 u1' u2 r6 ho5 hb5 hb4 ho4 r3 hc6 hrr hm6 hm6'
      with_reducible refine U1.out.mono ?_
      rintro e w' ⟨rfl, rfl⟩
      go_wp2_with fail
      with_reducible refine U2.out.mono ?_
      rintro e w' ⟨rfl, rfl⟩
      go_wp2_with fail
      with_reducible refine (awake_any _).mono ?_
      rintro e w10 ⟨rfl, hb10⟩
      go_wp2
      go_ret
      exact ⟨rfl, (hb03.trans (hb35.mono hs03)).trans (hb10.mono (by omega))⟩

set_option maxRecDepth 100000 in
theorem lifted (os : Os) (started : os.Started) (H : Type) (enc : TypeId × Value → H) :
    ReturnsInHanded {} Try.checked os 9 .any (Rows.codecTextsBackSpec.pre6 enc Try.prog Try.f9 Rows.codecTextsBackRow.domain false) (Rows.codecTextsBackSpec.post enc Try.prog Try.f9 false true false false) := by
  refine returnsInHanded_of_change (C := Try.checked) own started (by kernel_rfl) Try.func9
    (ChangeSpec.witness6 (enc := enc) (C := Try.checked) false ⟨#[], #[.slice none 0 0, .slice none 0 0, .string ByteArray.empty, .bool false, .int .i64 0], []⟩ 8 (by kernel_rfl) (by kernel_rfl) (by kernel_rfl) (by kernel_rfl)) ?_
  intro W base args ds gs before hval0 hW hcnd _
  have hval : ∀ (j : Nat) t v, Try.f9.params[j]? = some t → args[j]? = some v → Value.okWide Try.prog W .any base t v := hval0
  have hW' := hW
  obtain ⟨p, q, hA0, hV, rfl, hfz, hnd⟩ := hW
  have hA : DataW.TrodAll enc Try.prog W 0 (fun _ => true) true Try.f9.params.toList args.toList ds p := hA0
  rw [Try.params9] at hA hval
  obtain ⟨v0, vs0, d0, ds0, p0, q0, hargs, rfl, rfl, h0, r0⟩ := trodAll_cons hA
  obtain ⟨v1, vs1, d1, ds1, p1, q1, rfl, rfl, rfl, h1, r1⟩ := trodAll_cons r0
  obtain ⟨v2, vs2, d2, ds2, p2, q2, rfl, rfl, rfl, h2, r2⟩ := trodAll_cons r1
  obtain ⟨v3, vs3, d3, ds3, p3, q3, rfl, rfl, rfl, h3, r3⟩ := trodAll_cons r2
  obtain ⟨v4, vs4, d4, ds4, p4, q4, rfl, rfl, rfl, h4, r4⟩ := trodAll_cons r3
  obtain ⟨rfl, rfl, rfl⟩ := trodAll_nil r4
  obtain rfl : args = #[v0, v1, v2, v3, v4] := by cases args; simp_all
  obtain ⟨rfl, rfl⟩ := trodVars_none hV
  obtain ⟨a0, len0, cap0, rfl⟩ := okWide_slice Try.underlying22 (hval 0 22 v0 rfl rfl)
  have k0 := h0
  have lt0 : ∀ x ∈ p0, x.block < W.heap.size := by obtain ⟨m, hm⟩ := k0; exact DataW.trod_lt m _ _ _ hm
  obtain ⟨z0, w0⟩ : ∃ zs, IsRow .u8 W a0 len0 cap0 zs := by
    obtain ⟨fuel, hf⟩ := h0
    rcases open_ints Try.underlying22 Try.underlying5 (by kernel_rfl) hf with ⟨hcs, _⟩ | ⟨x, l, c, zs, hcs, _, hl, hm, hz, _, hcell, hwz⟩
    · simp [Value.cells] at hcs
      obtain ⟨rfl, rfl, rfl⟩ := hcs
      exact ⟨[], .inl ⟨rfl, rfl, rfl, rfl⟩⟩
    · simp [Value.cells] at hcs
      obtain ⟨rfl, rfl, rfl⟩ := hcs
      exact ⟨zs, .inr ⟨_, rfl, hl, hm, by simpa using hz, hcell, hwz⟩⟩
  obtain ⟨a1, len1, cap1, rfl⟩ := okWide_slice Try.underlying22 (hval 1 22 v1 rfl rfl)
  have k1 := h1
  have lt1 : ∀ x ∈ p1, x.block < W.heap.size := by obtain ⟨m, hm⟩ := k1; exact DataW.trod_lt m _ _ _ hm
  obtain ⟨z1, w1⟩ : ∃ zs, IsRow .u8 W a1 len1 cap1 zs := by
    obtain ⟨fuel, hf⟩ := h1
    rcases open_ints Try.underlying22 Try.underlying5 (by kernel_rfl) hf with ⟨hcs, _⟩ | ⟨x, l, c, zs, hcs, _, hl, hm, hz, _, hcell, hwz⟩
    · simp [Value.cells] at hcs
      obtain ⟨rfl, rfl, rfl⟩ := hcs
      exact ⟨[], .inl ⟨rfl, rfl, rfl, rfl⟩⟩
    · simp [Value.cells] at hcs
      obtain ⟨rfl, rfl, rfl⟩ := hcs
      exact ⟨zs, .inr ⟨_, rfl, hl, hm, by simpa using hz, hcell, hwz⟩⟩
  obtain ⟨a2, rfl, rfl, rfl, w2⟩ := open_string Try.underlying9 (hval 2 9 v2 rfl rfl) h2
  obtain ⟨a3, rfl, rfl, rfl⟩ := open_bool Try.underlying4 (hval 3 4 v3 rfl rfl) h3
  obtain ⟨a4, rfl, rfl, rfl, w4⟩ := open_int Try.underlying3 (hval 4 3 v4 rfl rfl) h4
  clear hA0 hval0
  refine (walk a0 len0 cap0 z0 a1 len1 cap1 z1 a2 a3 a4 W w0 w1 w2 w4).mono fun e W' ⟨he, bel⟩ => ?_
  subst he
  exact ⟨_, rfl, _, _, _, [], _, [], hW', trodAll_mk1 (shut_bool Try.underlying4 _), (trodAll_cons_mk (Below.trod laidOut (by kernel_rfl) (of_decide_eq_true (by kernel_rfl)) k0 bel lt0) (trodAll_cons_mk (Below.trod laidOut (by kernel_rfl) (of_decide_eq_true (by kernel_rfl)) k1 bel lt1) (trodAll_cons_mk (shut_string Try.underlying9 w2) (trodAll_cons_mk (shut_bool Try.underlying4 _) (trodAll_cons_mk (shut_int Try.underlying3 w4) trodAll_mk0))))), rfl, bel.frame _, fun h => by cases h⟩

theorem over : Rows.codecTextsBackRow.holds Try.pinned (OpenSpec.ofChange Rows.codecTextsBackSpec) :=
  OpenClaim.holds_of_wide 9 Try.f9 rfl rfl rfl rfl rfl rfl rfl ⟨rfl, rfl, rfl, rfl, rfl⟩ rfl rfl rfl rfl rfl (by kernel_rfl) Try.func9 (by kernel_rfl)
    (of_decide_eq_true (by kernel_rfl)) (by unfold Func.isWrapper; first | (rw [if_pos (by decide +kernel)]; kernel_rfl) | (rw [if_neg (by decide +kernel)]; exact ⟨rfl, rfl⟩))
    (fun os started H enc _ => lifted os started H enc)

theorem proved : Rows.CodecTextsBackSaid := over
#print axioms proved
end Go.Proofs.Ytbkpmmnkelihgaa.codecTextsBack
