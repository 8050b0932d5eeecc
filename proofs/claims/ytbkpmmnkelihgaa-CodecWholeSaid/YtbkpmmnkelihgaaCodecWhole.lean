/- CodecWhole returns true at every slice of bytes, and leaves it as it was. Conditions: none of its own. -/
import Derived.Test.YtbkpmmnkelihgaaAwake
import Derived.WalkKit
import Derived.ProofKit
import Derived.OpenShut
import Derived.ShutString
import Derived.ChangeOld
import Derived.Below
namespace Go.Proofs.Ytbkpmmnkelihgaa.codecWhole
open Go.ChangeShapes Go.WideShapes Go.ChangeAt Go.RowKit
open Go.ChangeMaps (open_string shut_string)
set_option linter.unusedVariables false

theorem own : ownKnob Try.prog.godebug = none := by kernel_rfl
theorem laidOut : laidOutB Try.prog = true := by kernel_rfl

set_option maxHeartbeats 2000000 in
theorem walk (a0 : Option Addr) (len0 cap0 : Nat) (z0 : List Int) (w : World) (w0 : IsRow .u8 w a0 len0 cap0 z0) :
    Calls Try.prog 13 #[.slice a0 len0 cap0] w fun e w' => e = .returned (.bool true) ∧ Below w.heap.size w w' := by
  obtain ⟨l, rfl, hlc, hcm, hr⟩ := isRow_rd w0
  by_cases hbig : 200 < l.length
  · have hb : (200 : Int) < l.length := by omega
    clear hbig w0 hlc hcm hr
    go_enter Try.func13, Try.ntmps13
    go_wp2_with fail
    with_reducible refine (awake_any _).mono ?_
    rintro e3 w3 ⟨rfl, hb3⟩
    go_wp2
    go_ret
    exact ⟨rfl, hb3⟩
  have hb : (l.length : Int) ≤ 200 := by omega
  have hlci : (l.length : Int) ≤ cap0 := by omega
  have HLC := Lib.hid hlc
  clear hbig w0 hlc
  go_enter Try.func13, Try.ntmps13
  go_wp2
  go_loopw [3, 4] (fun s t wr => ∃ (k : Nat) (A : Option Addr) (c : Nat) (m : List UInt8), k ≤ l.length ∧ t = .int .i64 k ∧ s = .slice A m.length c ∧ Hid (m = l.take k) ∧ Rd wr wr.heap.size A m ∧ Below w.heap.size w wr) (fun _ t _ => l.length - (intOf t).toNat)
  case atStart => exact ⟨0, none, 0, [], by omega, rfl, rfl, rfl, Rd.nil _, Below.refl _ _⟩
  case round =>
    obtain ⟨k, A, c, m, hk, rfl, rfl, hm, hrm, hbl⟩ := hrel
    by_cases hlt : k < l.length
    · have hlt2 : (k : Int) < l.length := by omega
      have hu := uint_any a0 l cap0 (k : Int) _ ((hr.below hbl).more hbl.size) HLC.out (by omega)
      have hcs := Cm.uintRes_cases l (k : Int)
      have hn10 := Cm.uintRes_not10 l k hk
      have htk := Cm.uintRes_take l k hk
      generalize Cm.uintRes l (k : Int) = res at hu hcs hn10 htk
      obtain ⟨v, nx, e⟩ := res
      simp only at hcs hn10 htk
      unfold Cm.big at hcs
      by_cases he : e = 0
      · subst he
        have hnx : (k : Int) < nx := by omega
        have hnl : (nx : Int) ≤ l.length := by omega
        have hv : (v : Int) ≤ 18446744073709551615 := by omega
        have htk2 := htk rfl
        have hml : m.length ≤ 200 := by
          have := hm.out
          rw [this, List.length_take]
          omega
        have hTn : (l.take nx).length = nx := by rw [List.length_take]; omega
        have HME : Hid (m ++ Cm.enc v = l.take nx) := by show _ = _; rw [htk2, hm.out]
        generalize hT : l.take nx = T at HME hTn
        subst hTn
        have HT := Lib.hid hT
        have HU : Hid (Calls Try.prog 24 #[.slice a0 l.length cap0, .int .i64 (k : Int)] _ (Gives3 _ .u64 ((v : Int), T.length, 0))) := hu
        clear hu hcs hn10 htk htk2 hT hlt
        go_wp2_with fail
        with_reducible refine HU.out.mono ?_
        rintro e w' ⟨rfl, rfl⟩
        go_wp2_with fail
        with_reducible refine (put_uint _ _ _ _ _ hrm hv (by omega)).mono ?_
        rintro e w2 ⟨v2, rfl, ho2, hb2⟩
        rw [HME.out] at ho2
        obtain ⟨A2, c2, rfl, hc2, _, r2⟩ := ho2.form
        have hs2 := hb2.size
        have hbw := hbl.trans (hb2.mono hbl.size)
        have rT : Rd w2 w.heap.size a0 (l.take T.length) := (hr.below hbw).take T.length
        rw [HT.out] at rT
        have u := same_yes A2 a0 T T c2 cap0 _ _ w2 r2 rT rfl
        have U := Lib.hid u
        clear u rT ho2
        go_wp2_with fail
        with_reducible refine U.out.mono ?_
        rintro e w' ⟨rfl, rfl⟩
        go_wp2
        go_roundw
        case rel => exact ⟨T.length, A2, c2, T, by omega, rfl, rfl, HT.out.symm, r2, hbw⟩
        case measure => simp [intOf]; omega
      · have hz : v = 0 ∧ nx = 0 := by omega
        obtain ⟨rfl, rfl⟩ := hz
        have t1 : ((e : Int) != 0) = true := by simp; omega
        have HU : Hid (Calls Try.prog 24 #[.slice a0 l.length cap0, .int .i64 (k : Int)] _ (Gives3 _ .u64 (0, 0, e))) := hu
        by_cases h11 : e = 11
        · subst h11
          clear hu hcs hn10 htk he hlt t1
          go_wp2_with fail
          with_reducible refine HU.out.mono ?_
          rintro e w' ⟨rfl, rfl⟩
          go_wp2_with fail
          with_reducible refine (awake_any _).mono ?_
          rintro e3 w3 ⟨rfl, hb3⟩
          go_wp2
          go_ret
          exact ⟨rfl, hbl.trans (hb3.mono hbl.size)⟩
        · obtain rfl : e = 12 := by omega
          clear hu hcs hn10 htk he hlt t1 h11
          go_wp2_with fail
          with_reducible refine HU.out.mono ?_
          rintro e w' ⟨rfl, rfl⟩
          go_wp2_with fail
          with_reducible refine (awake_any _).mono ?_
          rintro e3 w3 ⟨rfl, hb3⟩
          go_wp2
          go_ret
          exact ⟨rfl, hbl.trans (hb3.mono hbl.size)⟩
    · have hge : (l.length : Int) ≤ k := by omega
      go_wp2_with fail
      with_reducible refine (awake_any _).mono ?_
      rintro e3 w3 ⟨rfl, hb3⟩
      go_wp2
      go_ret
      exact ⟨rfl, hbl.trans (hb3.mono hbl.size)⟩

set_option maxRecDepth 100000 in
theorem lifted (os : Os) (started : os.Started) (H : Type) (enc : TypeId × Value → H) :
    ReturnsInHanded {} Try.checked os 13 .any (Rows.codecWholeSpec.pre6 enc Try.prog Try.f13 Rows.codecWholeRow.domain false) (Rows.codecWholeSpec.post enc Try.prog Try.f13 false true false false) := by
  refine returnsInHanded_of_change (C := Try.checked) own started (by kernel_rfl) Try.func13
    (ChangeSpec.witness6 (enc := enc) (C := Try.checked) false ⟨#[], #[.slice none 0 0], []⟩ 8 (by kernel_rfl) (by kernel_rfl) (by kernel_rfl) (by kernel_rfl)) ?_
  intro W base args ds gs before hval0 hW hcnd _
  have hval : ∀ (j : Nat) t v, Try.f13.params[j]? = some t → args[j]? = some v → Value.okWide Try.prog W .any base t v := hval0
  have hW' := hW
  obtain ⟨p, q, hA0, hV, rfl, hfz, hnd⟩ := hW
  have hA : DataW.TrodAll enc Try.prog W 0 (fun _ => true) true Try.f13.params.toList args.toList ds p := hA0
  rw [Try.params13] at hA hval
  obtain ⟨v0, vs0, d0, ds0, p0, q0, hargs, rfl, rfl, h0, r0⟩ := trodAll_cons hA
  obtain ⟨rfl, rfl, rfl⟩ := trodAll_nil r0
  obtain rfl : args = #[v0] := by cases args; simp_all
  obtain ⟨rfl, rfl⟩ := trodVars_none hV
  obtain ⟨a0, len0, cap0, rfl⟩ := okWide_slice Try.underlying22 (hval 0 22 v0 rfl rfl)
  have k0 := h0
  have lt0 : ∀ x ∈ p0, x.block < W.heap.size := by obtain ⟨m, hm⟩ := k0; exact DataW.trod_lt m _ _ _ hm
  obtain ⟨z0, w0⟩ : ∃ zs, IsRow .u8 W a0 len0 cap0 zs := by
    obtain ⟨fuel, hf⟩ := h0
    rcases open_ints Try.underlying22 Try.underlying5 (by kernel_rfl) hf with ⟨hcs, _⟩ | ⟨x, l, c, zs, hcs, _, hl, hm, hz, _, hcell, hwz⟩
    · simp [Value.cells] at hcs
      obtain ⟨rfl, rfl, rfl⟩ := hcs
      exact ⟨[], .inl ⟨rfl, rfl, rfl, rfl⟩⟩
    · simp [Value.cells] at hcs
      obtain ⟨rfl, rfl, rfl⟩ := hcs
      exact ⟨zs, .inr ⟨_, rfl, hl, hm, by simpa using hz, hcell, hwz⟩⟩
  clear hA0 hval0
  refine (walk a0 len0 cap0 z0 W w0).mono fun e W' ⟨he, bel⟩ => ?_
  subst he
  exact ⟨_, rfl, _, _, _, [], _, [], hW', trodAll_mk1 (shut_bool Try.underlying4 _), (trodAll_cons_mk (Below.trod laidOut (by kernel_rfl) (of_decide_eq_true (by kernel_rfl)) k0 bel lt0) trodAll_mk0), rfl, bel.frame _, fun h => by cases h⟩

theorem over : Rows.codecWholeRow.holds Try.pinned (OpenSpec.ofChange Rows.codecWholeSpec) :=
  OpenClaim.holds_of_wide 13 Try.f13 rfl rfl rfl rfl rfl rfl rfl ⟨rfl, rfl, rfl, rfl, rfl⟩ rfl rfl rfl rfl rfl (by kernel_rfl) Try.func13 (by kernel_rfl)
    (of_decide_eq_true (by kernel_rfl)) (by unfold Func.isWrapper; first | (rw [if_pos (by decide +kernel)]; kernel_rfl) | (rw [if_neg (by decide +kernel)]; exact ⟨rfl, rfl⟩))
    (fun os started H enc _ => lifted os started H enc)

theorem proved : Rows.CodecWholeSaid := over
#print axioms proved
end Go.Proofs.Ytbkpmmnkelihgaa.codecWhole
