/- CodecBeginnings returns true at every string and every place of the cut. Conditions: none of its own. -/
import Derived.Test.YtbkpmmnkelihgaaAwake
import Derived.WalkKit
import Derived.SizedLaws
import Derived.ProofKit
import Derived.OpenShut
import Derived.ShutString
namespace Go.Proofs.Ytbkpmmnkelihgaa.codecBeginnings
open Go.ChangeShapes Go.WideShapes Go.ChangeAt Go.RowKit
open Go.ChangeMaps (open_string shut_string)
set_option linter.unusedVariables false      -- a walk need not use every 'w<i>' (that an integer argument fits its kind)

theorem own : ownKnob Try.prog.godebug = none := by kernel_rfl

set_option maxHeartbeats 2000000 in
theorem walk (a0 : ByteArray) (a1 : Int) (w0 : a0.size ≤ maxLen) (hreach : a0.size ≤ 140737488351232) (w1 : (Lit.int .i64 a1).wf = true) (w : World) :
    Calls Try.prog 10 #[.string a0, .int .i64 a1] w fun e w' => e = .returned (.bool true) ∧ Below w.heap.size w w' := by
  obtain ⟨m0, m1⟩ : -9223372036854775808 ≤ a1 ∧ a1 ≤ 9223372036854775807 := by
    simp [Lit.wf, IntKind.min, IntKind.max, IntKind.signed, IntKind.bits] at w1
    omega
  have hxb : a0.size < Cm.big := by unfold Cm.big; omega
  have hed : a0.data.toList.length = a0.size := Array.length_toList
  have p1 : ∀ w : World, Calls Try.prog 20 #[.slice none 0 0, .string a0] w (Makes w (Cm.enc a0.size ++ a0.data.toList)) := by
    intro w
    have h := put_text none [] 0 a0 w (Rd.nil _) (by simp; omega)
    exact h
  have hcut : ∀ k : Nat, k < (Cm.enc a0.size ++ a0.data.toList).length → Cm.textRes ((Cm.enc a0.size ++ a0.data.toList).take k) 0 (a0.size : Int) = ([], 0, 11) := by
    intro k hk
    have h := Cm.textRes_cut a0.data.toList (cut := k) (by rw [hed]; exact hxb) (by rw [hed]; exact hk)
    rw [hed] at h
    exact h
  have hLn : (Cm.enc a0.size ++ a0.data.toList).length ≤ a0.size + 10 := by
    have he := Cm.enc_le hxb
    rw [List.length_append, hed]
    omega
  generalize Cm.enc a0.size ++ a0.data.toList = L at p1 hcut hLn
  have P1 := Lib.hid p1
  have HC := Lib.hid hcut
  have hs1 : (a0.size : Int) ≤ 140737488351232 := by omega
  have hL1 : (L.length : Int) ≤ 140737488355328 := by omega
  clear p1 hcut hed hxb w0 w1 hLn
  by_cases hbig : 400 < a0.size
  · have hb : (400 : Int) < a0.size := by omega
    clear hbig
    go_enter Try.func10, Try.ntmps10
    go_wp2_with fail
    with_reducible refine (P1.out _).mono ?_
    rintro e w1 ⟨v1, rfl, ho1, hb1⟩
    obtain ⟨A1, c1, rfl, hc1, hm1, r1⟩ := ho1.form
    have hs2 := hb1.size
    clear ho1 r1 hc1 hm1
    go_wp2_with fail
    with_reducible refine (awake_any _).mono ?_
    rintro e3 w3 ⟨rfl, hb3⟩
    go_wp2
    go_ret
    exact ⟨rfl, hb1.trans (hb3.mono hs2)⟩
  have hb : (a0.size : Int) ≤ 400 := by omega
  clear hbig
  by_cases hneg : a1 < 0
  · skip
    go_enter Try.func10, Try.ntmps10
    go_wp2_with fail
    with_reducible refine (P1.out _).mono ?_
    rintro e w1 ⟨v1, rfl, ho1, hb1⟩
    obtain ⟨A1, c1, rfl, hc1, hm1, r1⟩ := ho1.form
    have hs2 := hb1.size
    clear ho1 r1 hc1 hm1
    go_wp2_with fail
    with_reducible refine (awake_any _).mono ?_
    rintro e3 w3 ⟨rfl, hb3⟩
    go_wp2
    go_ret
    exact ⟨rfl, hb1.trans (hb3.mono hs2)⟩
  obtain ⟨k, rfl⟩ := Int.eq_ofNat_of_zero_le (show 0 ≤ a1 by omega)
  have hk0 : (0 : Int) ≤ (k : Int) := by omega
  clear hneg
  by_cases hge : L.length ≤ k
  · have hge2 : (L.length : Int) ≤ k := by omega
    clear hge
    go_enter Try.func10, Try.ntmps10
    go_wp2_with fail
    with_reducible refine (P1.out _).mono ?_
    rintro e w1 ⟨v1, rfl, ho1, hb1⟩
    obtain ⟨A1, c1, rfl, hc1, hm1, r1⟩ := ho1.form
    have hs2 := hb1.size
    clear ho1 r1 hc1 hm1
    go_wp2_with fail
    with_reducible refine (awake_any _).mono ?_
    rintro e3 w3 ⟨rfl, hb3⟩
    go_wp2
    go_ret
    exact ⟨rfl, hb1.trans (hb3.mono hs2)⟩
  · have hlt : (k : Int) < L.length := by omega
    have htk := HC.out k (by omega)
    have hTn : (L.take k).length = k := by rw [List.length_take]; omega
    generalize hT : L.take k = T at htk hTn
    have HT := Lib.hid hT
    have HTn := Lib.hid hTn
    have HTK := Lib.hid htk
    clear hT hTn htk hge
    go_enter Try.func10, Try.ntmps10
    go_wp2_with fail
    with_reducible refine (P1.out _).mono ?_
    rintro e w1 ⟨v1, rfl, ho1, hb1⟩
    obtain ⟨A1, c1, rfl, hc1, hm1, r1⟩ := ho1.form
    have hs2 := hb1.size
    have hc1i : (L.length : Int) ≤ c1 := by omega
    have hm1' : (c1 : Int) ≤ 9223372036854775807 := by unfold maxLen at hm1; omega
    have rT := r1.take k
    rw [HT.out] at rT
    have hkl : (k : Int) ≤ L.length := by omega
    have u1 := text_any A1 T c1 0 (a0.size : Int) w1 rT (by rw [HTn.out]; omega) hm1' (by omega) (by omega)
    rw [HTK.out, HTn.out] at u1
    have u1' : Calls Try.prog 28 #[.slice A1 k c1, .int .i64 0, .int .i64 (a0.size : Int)] w1 (fun e w' => e = .returned (.tuple #[.string ⟨#[]⟩, .int .i64 0, .int .i64 11]) ∧ w1 = w') := u1
    have U1 := Lib.hid u1'
    clear u1 u1' ho1 r1 rT hm1 hc1
    go_wp2_with fail
    with_reducible refine U1.out.mono ?_
    rintro e w' ⟨rfl, rfl⟩
    go_wp2_with fail
    with_reducible refine (awake_any _).mono ?_
    rintro e w10 ⟨rfl, hb10⟩
    go_wp2
    go_ret
    exact ⟨rfl, hb1.trans (hb10.mono hs2)⟩

set_option maxRecDepth 100000 in
theorem lifted (os : Os) (started : os.Started) (H : Type) (enc : TypeId × Value → H) :
    ReturnsInHanded {} Try.checked os 10 .any (Rows.codecBeginningsSpec.pre6 enc Try.prog Try.f10 Rows.codecBeginningsRow.domain false) (Rows.codecBeginningsSpec.post enc Try.prog Try.f10 false true false false) := by
  refine returnsInHanded_of_change_sized (C := Try.checked) own started (by kernel_rfl) Try.func10
    (ChangeSpec.witness6 (enc := enc) (C := Try.checked) false ⟨#[], #[.string ByteArray.empty, .int .i64 0], []⟩ 8 (by kernel_rfl) (by kernel_rfl) (by kernel_rfl) (by kernel_rfl)) ?_
  intro W base args ds gs before hval0 hW hcnd hsz0 _
  have hsz : (DataW.weightsEach Try.prog (Try.f10.params.toList ++ Rows.codecBeginningsSpec.plain.varTypes Try.prog) (ds ++ gs)).all (· ≤ reachBytes) = true := hsz0
  clear hsz0
  have hval : ∀ (j : Nat) t v, Try.f10.params[j]? = some t → args[j]? = some v → Value.okWide Try.prog W .any base t v := hval0
  have hW' := hW
  obtain ⟨p, q, hA0, hV, rfl, hfz, hnd⟩ := hW
  have hA : DataW.TrodAll enc Try.prog W 0 (fun _ => true) true Try.f10.params.toList args.toList ds p := hA0
  rw [Try.params10] at hA hval hsz
  obtain ⟨v0, vs0, d0, ds0, p0, q0, hargs, rfl, rfl, h0, r0⟩ := trodAll_cons hA
  obtain ⟨v1, vs1, d1, ds1, p1, q1, rfl, rfl, rfl, h1, r1⟩ := trodAll_cons r0
  obtain ⟨rfl, rfl, rfl⟩ := trodAll_nil r1
  obtain rfl : args = #[v0, v1] := by cases args; simp_all
  obtain ⟨rfl, rfl⟩ := trodVars_none hV
  obtain ⟨a0, rfl, rfl, rfl, w0⟩ := open_string Try.underlying9 (hval 0 9 v0 rfl rfl) h0
  obtain ⟨a1, rfl, rfl, rfl, w1⟩ := open_int Try.underlying3 (hval 1 3 v1 rfl rfl) h1
  have hrb := sized_string hsz (j := 0) (t := 9) rfl rfl
  have hreach : a0.size ≤ 140737488351232 := by
    have e : a0.data.toList.length = a0.size := Array.length_toList
    rw [e] at hrb
    exact hrb
  clear hA0 hval0 hsz hrb
  simp only [List.append_nil] at hW'
  refine (walk a0 a1 w0 hreach w1 W).mono fun e W' ⟨he, hg⟩ => ?_
  subst he
  exact ⟨_, rfl, _, _, _, [], [], [], hW', trodAll_mk1 (shut_bool Try.underlying4 _), (trodAll_cons_mk (shut_string Try.underlying9 w0) (trodAll_cons_mk (shut_int Try.underlying3 w1) trodAll_mk0)), rfl, hg.frame _, fun h => by cases h⟩

theorem over : Rows.codecBeginningsRow.holds Try.pinned (OpenSpec.ofChange Rows.codecBeginningsSpec) :=
  OpenClaim.holds_of_wide 10 Try.f10 rfl rfl rfl rfl rfl rfl rfl ⟨rfl, rfl, rfl, rfl, rfl⟩ rfl rfl rfl rfl rfl (by kernel_rfl) Try.func10 (by kernel_rfl)
    (of_decide_eq_true (by kernel_rfl)) (by unfold Func.isWrapper; first | (rw [if_pos (by decide +kernel)]; kernel_rfl) | (rw [if_neg (by decide +kernel)]; exact ⟨rfl, rfl⟩))
    (fun os started H enc _ => lifted os started H enc)

theorem proved : Rows.CodecBeginningsSaid :=
  over
#print axioms proved
end Go.Proofs.Ytbkpmmnkelihgaa.codecBeginnings
