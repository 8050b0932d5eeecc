/- PathSplits returns true at every string (the card: the tables of unicode/utf8 are what the program text lays). Conditions: none of its own. -/
import Derived.Test.YtldlakafgjijnaaDoorPathLawD
import Derived.Test.YtldlakafgjijnaaDoorCards
import Derived.Test.YtldlakafgjijnaaDoorTie
import Derived.WalkKit
import Derived.ProofKit
import Derived.OpenShut
import Derived.ShutString
namespace Go.Proofs.YtldlakafgjijnaaDoor.pathSplits
open Go.ChangeShapes Go.WideShapes Go.ChangeAt Go.RowKit
open Go.ChangeMaps (open_string shut_string)
set_option linter.unusedVariables false

theorem own : ownKnob Tryd.prog.godebug = none := by kernel_rfl

set_option maxHeartbeats 4000000 in
theorem walk (a0 : ByteArray) (w0 : a0.size ≤ maxLen) (w : World) (hm : MaxL w) :
    Calls Tryd.prog 4 #[.string a0] w fun e w' => e = .returned (.bool true) ∧ Below w.heap.size w w' := by
  have HL0 := Lib.hid (fun w : World => long_any a0 w)
  have HAw := Lib.hid (fun (w : World) (hm : MaxL w) => awake_any w hm)
  by_cases h0 : 400 < a0.size
  · have e0 : decide (400 < a0.size) = true := by simpa using h0
    rw [e0] at HL0
    clear e0
    go_enter Tryd.func4, Tryd.ntmps4
    go_wp2_with fail
    with_reducible refine (HL0.out _).mono ?_
    rintro e w' ⟨rfl, rfl⟩
    go_wp2_with fail
    with_reducible refine (HAw.out _ hm).mono ?_
    rintro e w9 ⟨rfl, hd9⟩
    go_wp2
    go_ret
    exact ⟨rfl, hd9.below _⟩
  have e0 : decide (400 < a0.size) = false := by simpa using h0
  rw [e0] at HL0
  clear e0
  have g0 := long_no h0
  have HS := Lib.hid (fun (w : World) (hm : MaxL w) => split_path_any a0 w g0 hm)
  have HP := Lib.hid (fun (w : World) (hm : MaxL w) => rpath_any a0 w g0 hm)
  cases ho : pathO a0.data.toList with
  | none =>
    rw [ho] at HS HP
    clear ho
    go_enter Tryd.func4, Tryd.ntmps4
    go_wp2_with fail
    with_reducible refine (HL0.out _).mono ?_
    rintro e w' ⟨rfl, rfl⟩
    go_wp2_with fail
    with_reducible refine (HS.out _ hm).mono ?_
    rintro e w1 ⟨rfl, hb1⟩
    have hm1 := hm.keep hb1 hm.size
    have hs1 := hb1.size
    go_wp2_with fail
    with_reducible refine (HP.out _ hm1).mono ?_
    rintro e w2 ⟨rfl, hb2⟩
    have hm2 := hm1.keep hb2 hm1.size
    go_wp2_with fail
    with_reducible refine (HAw.out _ hm2).mono ?_
    rintro e w9 ⟨rfl, hd9⟩
    go_wp2
    go_ret
    exact ⟨rfl, (hb1.trans (hb2.mono hs1)).trans (hd9.below _)⟩
  | some l =>
    rw [ho] at HS HP
    clear ho
    go_enter Tryd.func4, Tryd.ntmps4
    go_wp2_with fail
    with_reducible refine (HL0.out _).mono ?_
    rintro e w' ⟨rfl, rfl⟩
    go_wp2_with fail
    with_reducible refine (HS.out _ hm).mono ?_
    rintro e w1 ⟨v1, rfl, A, xs, c, rfl, hbx, hc, hcm, hr1, hb1⟩
    have hm1 := hm.keep hb1 hm.size
    have hs1 := hb1.size
    have HBX := Lib.hid hbx
    have HC := Lib.hid hc
    have HCM := Lib.hid hcm
    have HR1 := Lib.hid hr1
    have HB1 := Lib.hid hb1
    clear hbx hc hcm hr1 hb1
    go_wp2_with fail
    with_reducible refine (HP.out _ hm1).mono ?_
    rintro e w2 ⟨v2, rfl, B, ys, d, rfl, hby, hd, hdm, hr2, hb2⟩
    have hm2 := hm1.keep hb2 hm1.size
    have hs2 := hb2.size
    obtain rfl : xs = ys := bs_inj (HBX.out.trans hby.symm)
    have HSa := Lib.hid (same_any A B xs xs c d _ _ w2 ((HR1.out.keep hb2).more hs2) hr2 (Nat.le_trans HC.out HCM.out) HC.out hd (Nat.le_trans HC.out HCM.out))
    rw [decide_eq_true rfl] at HSa
    have HB2 := Lib.hid hb2
    clear hby hd hdm hr2 hb2
    generalize xs.length = n at *
    go_wp2_with fail
    with_reducible refine (HSa.out).mono ?_
    rintro e w3 ⟨rfl, hd3⟩
    go_wp2_with fail
    with_reducible refine (HAw.out _ (hm2.drew hd3)).mono ?_
    rintro e w9 ⟨rfl, hd9⟩
    go_wp2
    go_ret
    exact ⟨rfl, ((HB1.out.trans (HB2.out.mono hs1)).trans (hd3.below _)).trans (hd9.below _)⟩

set_option maxRecDepth 100000 in
theorem lifted (os : Os) (started : os.Started) (H : Type) (enc : TypeId × Value → H) :
    ReturnsInHanded {} Tryd.checked os 4 .any (fun w args => (Rows.pathSplitsSpec.pre enc Tryd.prog Tryd.f4 Rows.pathSplitsRow.domain false w args ∧ laidMetH Tryd.prog Rows.pathSplitsRow.laid w) ∧ sizedMet enc Tryd.prog Tryd.f4 (OpenSpec.ofChange Rows.pathSplitsSpec) false w args)
      (Rows.pathSplitsSpec.post enc Tryd.prog Tryd.f4 false true false false) := by
  refine doorWrap own started (by kernel_rfl) Tryd.func4
    (ChangeSpec.witness_shaped (enc := enc) (C := Tryd.checked) (os := os) (X := fun w _ => laidMetH Tryd.prog Rows.pathSplitsRow.laid w) false (World.laidAll Tryd.prog os Rows.pathSplitsRow.laid) #[.string ByteArray.empty] 8 (World.laidAll_os _ _ _)
      (World.shaped_of_ZipB (by kernel_rfl) (by kernel_rfl)) (by kernel_rfl) (by kernel_rfl) (by kernel_rfl)
      (by rw [MakeChecks.laidMetH_plain _ _ _ (by kernel_rfl)]; exact laidMet_laidAll _ (by kernel_rfl) (by kernel_rfl))) ?_
  intro W base args ds gs before hval0 hW hsh
  have hval : ∀ (j : Nat) t v, Tryd.f4.params[j]? = some t → args[j]? = some v → Value.okWide Tryd.prog W .any base t v := hval0
  have hW' := hW
  obtain ⟨p, q, hA0, hV, rfl, hfz, hnd⟩ := hW
  have hA : DataW.TrodAll enc Tryd.prog W 0 (fun _ => true) true Tryd.f4.params.toList args.toList ds p := hA0
  rw [Tryd.params4] at hA hval
  obtain ⟨v0, vs0, d0, ds0, p0, q0, hargs, rfl, rfl, h0, r0⟩ := trodAll_cons hA
  obtain ⟨rfl, rfl, rfl⟩ := trodAll_nil r0
  obtain rfl : args = #[v0] := by cases args; simp_all
  obtain ⟨rfl, rfl⟩ := trodVars_none hV
  obtain ⟨a0, rfl, rfl, rfl, w0⟩ := open_string Tryd.underlying9 (hval 0 9 v0 rfl rfl) h0
  clear hA0 hval0
  simp only [List.append_nil] at hW'
  refine (walk a0 w0 W (maxl_of W hsh)).mono fun e W' ⟨he, hg⟩ => ?_
  subst he
  exact ⟨_, rfl, _, _, _, [], [], [], hW', trodAll_mk1 (shut_bool Tryd.underlying4 _), (trodAll_cons_mk (shut_string Tryd.underlying9 w0) trodAll_mk0), rfl, hg.frame _, fun h => by cases h⟩

theorem over : Rows.pathSplitsRow.holds Tryd.pinned (OpenSpec.ofChange Rows.pathSplitsSpec) :=
  OpenClaim.holds_of_wide 4 Tryd.f4 rfl rfl rfl rfl rfl rfl rfl ⟨rfl, rfl, rfl, rfl, rfl⟩ rfl rfl rfl rfl rfl (by kernel_rfl) Tryd.func4 (by kernel_rfl)
    (of_decide_eq_true (by kernel_rfl)) (by unfold Func.isWrapper; first | (rw [if_pos (by decide +kernel)]; kernel_rfl) | (rw [if_neg (by decide +kernel)]; exact ⟨rfl, rfl⟩))
    (fun os started H enc _ => lifted os started H enc)

theorem proved : Rows.PathSplitsCardSaid :=
  Claim7.holds_tied_plain_at .later [] [.data, .pinned] true (true, "9a165a810bc37f4b2a4642bfba06315b4b30fc4fa45d265726276bf940f1c38c") false over (fun _ h => by cases h) (by kernel_rfl) (fun _ h => by cases h) pathSplits_row_tie rfl ⟨rfl, rfl⟩ (by kernel_rfl) rfl
    (fun f fn hf hfn => by
      obtain rfl : f = 4 := Option.some.inj ((show Tryd.prog.funcNamed Rows.pathSplitsRow.func = some 4 by kernel_rfl).symm.trans hf) |>.symm
      obtain rfl : fn = Tryd.f4 := (Option.some.inj (Tryd.func4.symm.trans hfn)).symm
      exact ⟨by kernel_rfl, fun j t ht => by
        rw [Tryd.params4] at ht
        have hm : t ∈ [9] := by simpa using Array.mem_of_getElem? ht
        have hall : ([9].all fun u => !Tryd.prog.wantsStandIn u) = true := by kernel_rfl
        exact (show Tryd.prog.wantsStandIn t = false by simpa using List.all_eq_true.1 hall t hm)⟩)
    (by kernel_rfl)
#print axioms proved
end Go.Proofs.YtldlakafgjijnaaDoor.pathSplits
