/- PathValids returns true at every string (the card: the tables of unicode/utf8 are what the program text lays). Conditions: none of its own. -/
import Derived.Test.YtldlakafgjijnaaDoorPathLawD
import Derived.Test.YtldlakafgjijnaaDoorCards
import Derived.Test.YtldlakafgjijnaaDoorTie
import Derived.WalkKit
import Derived.ProofKit
import Derived.OpenShut
import Derived.ShutString
namespace Go.Proofs.YtldlakafgjijnaaDoor.pathValids
open Go.ChangeShapes Go.WideShapes Go.ChangeAt Go.RowKit
open Go.ChangeMaps (open_string shut_string)
set_option linter.unusedVariables false

theorem own : ownKnob Tryd.prog.godebug = none := by kernel_rfl

theorem walk (a0 : ByteArray) (w0 : a0.size ≤ maxLen) (w : World) (hm : MaxL w) :
    Calls Tryd.prog 3 #[.string a0] w fun e w' => e = .returned (.bool true) ∧ Below w.heap.size w w' := by
  have HL := Lib.hid (fun w : World => long_any a0 w)
  have HAw := Lib.hid (fun (w : World) (hm : MaxL w) => awake_any w hm)
  by_cases h0 : 400 < a0.size
  · have e0 : decide (400 < a0.size) = true := by simpa using h0
    rw [e0] at HL
    clear e0
    go_enter Tryd.func3, Tryd.ntmps3
    go_wp2_with fail
    with_reducible refine (HL.out _).mono ?_
    rintro e w' ⟨rfl, rfl⟩
    go_wp2_with fail
    with_reducible refine (HAw.out _ hm).mono ?_
    rintro e w9 ⟨rfl, hd9⟩
    go_wp2
    go_ret
    exact ⟨rfl, hd9.below _⟩
  have e0 : decide (400 < a0.size) = false := by simpa using h0
  rw [e0] at HL
  clear e0
  have g0 := long_no h0
  have HV := Lib.hid (fun (w : World) (hm : MaxL w) => valid_any a0 w g0 hm)
  have HP := Lib.hid (fun (w : World) (hm : MaxL w) => rpath_any a0 w g0 hm)
  have HC := Lib.hid (fun w : World => comp_any a0 w w0)
  have HR := Lib.hid (fun w : World => rcomp_any a0 w w0)
  cases hv : Pm.valid a0.data.toList with
  | false =>
    rw [pathO_none hv] at HP
    rw [hv] at HV
    clear hv w0 h0 g0
    generalize Pm.comp a0.data.toList = c at HC HR
    go_enter Tryd.func3, Tryd.ntmps3
    go_wp2_with fail
    with_reducible refine (HL.out _).mono ?_
    rintro e w' ⟨rfl, rfl⟩
    go_wp2_with fail
    with_reducible refine (HP.out _ hm).mono ?_
    rintro e w1 ⟨rfl, hb⟩
    have hm1 := hm.keep hb hm.size
    go_wp2_with fail
    with_reducible refine (HV.out _ hm1).mono ?_
    rintro e w2 ⟨rfl, hd2⟩
    go_wp2_with fail
    with_reducible refine (HC.out _).mono ?_
    rintro e w' ⟨rfl, rfl⟩
    go_wp2_with fail
    with_reducible refine (HR.out _).mono ?_
    rintro e w' ⟨rfl, rfl⟩
    go_wp2_with fail
    with_reducible refine (HAw.out _ (hm1.drew hd2)).mono ?_
    rintro e w9 ⟨rfl, hd9⟩
    go_wp2
    go_ret
    exact ⟨rfl, (hb.trans (hd2.below _)).trans (hd9.below _)⟩
  | true =>
    obtain ⟨l, n, _, _, _, h4, _⟩ := Pm.valid_parts hv
    rw [pathO_some hv, h4] at HP
    rw [hv] at HV
    clear hv w0 h0 g0 h4
    generalize Pm.comp a0.data.toList = c at HC HR
    go_enter Tryd.func3, Tryd.ntmps3
    go_wp2_with fail
    with_reducible refine (HL.out _).mono ?_
    rintro e w' ⟨rfl, rfl⟩
    go_wp2_with fail
    with_reducible refine (HP.out _ hm).mono ?_
    rintro e w1 ⟨v, rfl, A, xs, cc, rfl, hbx, hc, hcm, hr, hb⟩
    clear hbx hc hcm hr
    have hm1 := hm.keep hb hm.size
    go_wp2_with fail
    with_reducible refine (HV.out _ hm1).mono ?_
    rintro e w2 ⟨rfl, hd2⟩
    go_wp2_with fail
    with_reducible refine (HC.out _).mono ?_
    rintro e w' ⟨rfl, rfl⟩
    go_wp2_with fail
    with_reducible refine (HR.out _).mono ?_
    rintro e w' ⟨rfl, rfl⟩
    go_wp2_with fail
    with_reducible refine (HAw.out _ (hm1.drew hd2)).mono ?_
    rintro e w9 ⟨rfl, hd9⟩
    go_wp2
    go_ret
    exact ⟨rfl, (hb.trans (hd2.below _)).trans (hd9.below _)⟩

set_option maxRecDepth 100000 in
theorem lifted (os : Os) (started : os.Started) (H : Type) (enc : TypeId × Value → H) :
    ReturnsInHanded {} Tryd.checked os 3 .any (fun w args => (Rows.pathValidsSpec.pre enc Tryd.prog Tryd.f3 Rows.pathValidsRow.domain false w args ∧ laidMetH Tryd.prog Rows.pathValidsRow.laid w) ∧ sizedMet enc Tryd.prog Tryd.f3 (OpenSpec.ofChange Rows.pathValidsSpec) false w args)
      (Rows.pathValidsSpec.post enc Tryd.prog Tryd.f3 false true false false) := by
  refine doorWrap own started (by kernel_rfl) Tryd.func3
    (ChangeSpec.witness_shaped (enc := enc) (C := Tryd.checked) (os := os) (X := fun w _ => laidMetH Tryd.prog Rows.pathValidsRow.laid w) false (World.laidAll Tryd.prog os Rows.pathValidsRow.laid) #[.string ByteArray.empty] 8 (World.laidAll_os _ _ _)
      (World.shaped_of_ZipB (by kernel_rfl) (by kernel_rfl)) (by kernel_rfl) (by kernel_rfl) (by kernel_rfl)
      (by rw [MakeChecks.laidMetH_plain _ _ _ (by kernel_rfl)]; exact laidMet_laidAll _ (by kernel_rfl) (by kernel_rfl))) ?_
  intro W base args ds gs before hval0 hW hsh
  have hval : ∀ (j : Nat) t v, Tryd.f3.params[j]? = some t → args[j]? = some v → Value.okWide Tryd.prog W .any base t v := hval0
  have hW' := hW
  obtain ⟨p, q, hA0, hV, rfl, hfz, hnd⟩ := hW
  have hA : DataW.TrodAll enc Tryd.prog W 0 (fun _ => true) true Tryd.f3.params.toList args.toList ds p := hA0
  rw [Tryd.params3] at hA hval
  obtain ⟨v0, vs0, d0, ds0, p0, q0, hargs, rfl, rfl, h0, r0⟩ := trodAll_cons hA
  obtain ⟨rfl, rfl, rfl⟩ := trodAll_nil r0
  obtain rfl : args = #[v0] := by cases args; simp_all
  obtain ⟨rfl, rfl⟩ := trodVars_none hV
  obtain ⟨a0, rfl, rfl, rfl, w0⟩ := open_string Tryd.underlying9 (hval 0 9 v0 rfl rfl) h0
  clear hA0 hval0
  simp only [List.append_nil] at hW'
  refine (walk a0 w0 W (maxl_of W hsh)).mono fun e W' ⟨he, hg⟩ => ?_
  subst he
  exact ⟨_, rfl, _, _, _, [], [], [], hW', trodAll_mk1 (shut_bool Tryd.underlying4 _), (trodAll_cons_mk (shut_string Tryd.underlying9 w0) trodAll_mk0), rfl, hg.frame _, fun h => by cases h⟩

theorem over : Rows.pathValidsRow.holds Tryd.pinned (OpenSpec.ofChange Rows.pathValidsSpec) :=
  OpenClaim.holds_of_wide 3 Tryd.f3 rfl rfl rfl rfl rfl rfl rfl ⟨rfl, rfl, rfl, rfl, rfl⟩ rfl rfl rfl rfl rfl (by kernel_rfl) Tryd.func3 (by kernel_rfl)
    (of_decide_eq_true (by kernel_rfl)) (by unfold Func.isWrapper; first | (rw [if_pos (by decide +kernel)]; kernel_rfl) | (rw [if_neg (by decide +kernel)]; exact ⟨rfl, rfl⟩))
    (fun os started H enc _ => lifted os started H enc)

theorem proved : Rows.PathValidsCardSaid :=
  Claim7.holds_tied_plain_at .later [] [.data, .pinned] true (true, "9a165a810bc37f4b2a4642bfba06315b4b30fc4fa45d265726276bf940f1c38c") false over (fun _ h => by cases h) (by kernel_rfl) (fun _ h => by cases h) pathValids_row_tie rfl ⟨rfl, rfl⟩ (by kernel_rfl) rfl
    (fun f fn hf hfn => by
      obtain rfl : f = 3 := Option.some.inj ((show Tryd.prog.funcNamed Rows.pathValidsRow.func = some 3 by kernel_rfl).symm.trans hf) |>.symm
      obtain rfl : fn = Tryd.f3 := (Option.some.inj (Tryd.func3.symm.trans hfn)).symm
      exact ⟨by kernel_rfl, fun j t ht => by
        rw [Tryd.params3] at ht
        have hm : t ∈ [9] := by simpa using Array.mem_of_getElem? ht
        have hall : ([9].all fun u => !Tryd.prog.wantsStandIn u) = true := by kernel_rfl
        exact (show Tryd.prog.wantsStandIn t = false by simpa using List.all_eq_true.1 hall t hm)⟩)
    (by kernel_rfl)
#print axioms proved
end Go.Proofs.YtldlakafgjijnaaDoor.pathValids
