/- PathCompares returns true at every two strings (the card: the tables of unicode/utf8 are what the program text lays). Conditions: none of its own. -/
import Derived.Test.YtldlakafgjijnaaDoorPathLawD
import Derived.Test.YtldlakafgjijnaaDoorCards
import Derived.Test.YtldlakafgjijnaaDoorTie
import Derived.WalkKit
import Derived.ProofKit
import Derived.OpenShut
import Derived.ShutString
namespace Go.Proofs.YtldlakafgjijnaaDoor.pathCompares
open Go.ChangeShapes Go.WideShapes Go.ChangeAt Go.RowKit
open Go.ChangeMaps (open_string shut_string)
set_option linter.unusedVariables false

theorem own : ownKnob Tryd.prog.godebug = none := by kernel_rfl

set_option maxHeartbeats 4000000 in
theorem walk (a0 : ByteArray) (a1 : ByteArray) (w0 : a0.size ≤ maxLen) (w1 : a1.size ≤ maxLen) (w : World) (hm : MaxL w) :
    Calls Tryd.prog 6 #[.string a0, .string a1] w fun e w' => e = .returned (.bool true) ∧ Below w.heap.size w w' := by
  have HL0 := Lib.hid (fun w : World => long_any a0 w)
  have HL1 := Lib.hid (fun w : World => long_any a1 w)
  have HAw := Lib.hid (fun (w : World) (hm : MaxL w) => awake_any w hm)
  by_cases h0 : 400 < a0.size
  · have e0 : decide (400 < a0.size) = true := by simpa using h0
    rw [e0] at HL0
    clear e0
    go_enter Tryd.func6, Tryd.ntmps6
    go_wp2_with fail
    with_reducible refine (HL0.out _).mono ?_
    rintro e w' ⟨rfl, rfl⟩
    go_wp2_with fail
    with_reducible refine (HAw.out _ hm).mono ?_
    rintro e w9 ⟨rfl, hd9⟩
    go_wp2
    go_ret
    exact ⟨rfl, hd9.below _⟩
  have e0 : decide (400 < a0.size) = false := by simpa using h0
  rw [e0] at HL0
  clear e0
  have g0 := long_no h0
  by_cases h1 : 400 < a1.size
  · have e1 : decide (400 < a1.size) = true := by simpa using h1
    rw [e1] at HL1
    clear e1
    go_enter Tryd.func6, Tryd.ntmps6
    go_wp2_with fail
    with_reducible refine (HL0.out _).mono ?_
    rintro e w' ⟨rfl, rfl⟩
    go_wp2_with fail
    with_reducible refine (HL1.out _).mono ?_
    rintro e w' ⟨rfl, rfl⟩
    go_wp2_with fail
    with_reducible refine (HAw.out _ hm).mono ?_
    rintro e w9 ⟨rfl, hd9⟩
    go_wp2
    go_ret
    exact ⟨rfl, hd9.below _⟩
  have e1 : decide (400 < a1.size) = false := by simpa using h1
  rw [e1] at HL1
  clear e1
  have g1 := long_no h1
  have HC := Lib.hid (fun (w : World) (hm : MaxL w) => cmp_any a0 a1 w g0 g1 hm)
  have HP0 := Lib.hid (fun (w : World) (hm : MaxL w) => rpath_any a0 w g0 hm)
  have HP1 := Lib.hid (fun (w : World) (hm : MaxL w) => rpath_any a1 w g1 hm)
  cases q0 : Pm.valid a0.data.toList with
  | false =>
    have c1 : cmpVal a0.data.toList a1.data.toList = 0 := by unfold cmpVal; rw [q0]; rfl
    have c2 : cmpErr a0.data.toList a1.data.toList = 20 := by unfold cmpErr; rw [q0]; rfl
    rw [c1, c2] at HC
    rw [pathO_none q0] at HP0
    clear c1 c2 q0
    cases q1 : pathO a1.data.toList with
    | none =>
      rw [q1] at HP1
      clear q1
      go_enter Tryd.func6, Tryd.ntmps6
      go_wp2_with fail
      with_reducible refine (HL0.out _).mono ?_
      rintro e w' ⟨rfl, rfl⟩
      go_wp2_with fail
      with_reducible refine (HL1.out _).mono ?_
      rintro e w' ⟨rfl, rfl⟩
      go_wp2_with fail
      with_reducible refine (HC.out _ hm).mono ?_
      rintro e w1 ⟨rfl, hd1⟩
      have hm1 := hm.drew hd1
      go_wp2_with fail
      with_reducible refine (HP0.out _ hm1).mono ?_
      rintro e w2 ⟨rfl, hb2⟩
      have hm2 := hm1.keep hb2 hm1.size
      have hs2 := hb2.size
      go_wp2_with fail
      with_reducible refine (HP1.out _ hm2).mono ?_
      rintro e w3 ⟨rfl, hb3⟩
      have hm3 := hm2.keep hb3 hm2.size
      have hs3 := hb3.size
      go_wp2_with fail
      with_reducible refine (HAw.out _ hm3).mono ?_
      rintro e w9 ⟨rfl, hd9⟩
      go_wp2
      go_ret
      exact ⟨rfl, (((hd1.below w.heap.size).trans (hb2.mono (hd1.below w.heap.size).size)).trans (hb3.mono (Nat.le_trans (hd1.below w.heap.size).size hs2))).trans (hd9.below _)⟩
    | some l1 =>
      rw [q1] at HP1
      clear q1
      go_enter Tryd.func6, Tryd.ntmps6
      go_wp2_with fail
      with_reducible refine (HL0.out _).mono ?_
      rintro e w' ⟨rfl, rfl⟩
      go_wp2_with fail
      with_reducible refine (HL1.out _).mono ?_
      rintro e w' ⟨rfl, rfl⟩
      go_wp2_with fail
      with_reducible refine (HC.out _ hm).mono ?_
      rintro e w1 ⟨rfl, hd1⟩
      have hm1 := hm.drew hd1
      go_wp2_with fail
      with_reducible refine (HP0.out _ hm1).mono ?_
      rintro e w2 ⟨rfl, hb2⟩
      have hm2 := hm1.keep hb2 hm1.size
      have hs2 := hb2.size
      go_wp2_with fail
      with_reducible refine (HP1.out _ hm2).mono ?_
      rintro e w3 ⟨v3, rfl, A3, xs3, c3, rfl, hbx3, hc3, hcm3, hr3, hb3⟩
      have HX3 := Lib.hid hbx3
      have HCC3 := Lib.hid hc3
      have HCM3 := Lib.hid hcm3
      have HR3 := Lib.hid hr3
      clear hbx3 hc3 hcm3 hr3
      have hm3 := hm2.keep hb3 hm2.size
      have hs3 := hb3.size
      go_wp2_with fail
      with_reducible refine (HAw.out _ hm3).mono ?_
      rintro e w9 ⟨rfl, hd9⟩
      go_wp2
      go_ret
      exact ⟨rfl, (((hd1.below w.heap.size).trans (hb2.mono (hd1.below w.heap.size).size)).trans (hb3.mono (Nat.le_trans (hd1.below w.heap.size).size hs2))).trans (hd9.below _)⟩
  | true =>
    cases q1 : Pm.valid a1.data.toList with
    | false =>
      have c1 : cmpVal a0.data.toList a1.data.toList = 0 := by unfold cmpVal; rw [q0, q1]; rfl
      have c2 : cmpErr a0.data.toList a1.data.toList = 20 := by unfold cmpErr; rw [q0, q1]; rfl
      rw [c1, c2] at HC
      rw [pathO_none q1] at HP1
      obtain ⟨l, n, _, _, _, h4, _⟩ := Pm.valid_parts q0
      rw [pathO_some q0, h4] at HP0
      clear c1 c2 q0 q1 h4
      go_enter Tryd.func6, Tryd.ntmps6
      go_wp2_with fail
      with_reducible refine (HL0.out _).mono ?_
      rintro e w' ⟨rfl, rfl⟩
      go_wp2_with fail
      with_reducible refine (HL1.out _).mono ?_
      rintro e w' ⟨rfl, rfl⟩
      go_wp2_with fail
      with_reducible refine (HC.out _ hm).mono ?_
      rintro e w1 ⟨rfl, hd1⟩
      have hm1 := hm.drew hd1
      go_wp2_with fail
      with_reducible refine (HP0.out _ hm1).mono ?_
      rintro e w2 ⟨v2, rfl, A2, xs2, c2, rfl, hbx2, hc2, hcm2, hr2, hb2⟩
      have HX2 := Lib.hid hbx2
      have HCC2 := Lib.hid hc2
      have HCM2 := Lib.hid hcm2
      have HR2 := Lib.hid hr2
      clear hbx2 hc2 hcm2 hr2
      have hm2 := hm1.keep hb2 hm1.size
      have hs2 := hb2.size
      go_wp2_with fail
      with_reducible refine (HP1.out _ hm2).mono ?_
      rintro e w3 ⟨rfl, hb3⟩
      have hm3 := hm2.keep hb3 hm2.size
      have hs3 := hb3.size
      go_wp2_with fail
      with_reducible refine (HAw.out _ hm3).mono ?_
      rintro e w9 ⟨rfl, hd9⟩
      go_wp2
      go_ret
      exact ⟨rfl, (((hd1.below w.heap.size).trans (hb2.mono (hd1.below w.heap.size).size)).trans (hb3.mono (Nat.le_trans (hd1.below w.heap.size).size hs2))).trans (hd9.below _)⟩
    | true =>
      obtain ⟨l0, n0, _, _, _, h4, _⟩ := Pm.valid_parts q0
      obtain ⟨l1, n1, _, _, _, h5, _⟩ := Pm.valid_parts q1
      have c1 : cmpVal a0.data.toList a1.data.toList = Pm.cmpParts (l0 ++ [n0]) (l1 ++ [n1]) := by unfold cmpVal; rw [q0, q1, ← Pm.ord_parts h4 h5]; rfl
      have c2 : cmpErr a0.data.toList a1.data.toList = 0 := by unfold cmpErr; rw [q0, q1]; rfl
      rw [c1, c2] at HC
      rw [pathO_some q0, h4] at HP0
      rw [pathO_some q1, h5] at HP1
      clear c1 c2 q0 q1 h4 h5
      generalize l0 ++ [n0] = l at *
      generalize l1 ++ [n1] = m at *
      go_enter Tryd.func6, Tryd.ntmps6
      go_wp2_with fail
      with_reducible refine (HL0.out _).mono ?_
      rintro e w' ⟨rfl, rfl⟩
      go_wp2_with fail
      with_reducible refine (HL1.out _).mono ?_
      rintro e w' ⟨rfl, rfl⟩
      go_wp2_with fail
      with_reducible refine (HC.out _ hm).mono ?_
      rintro e w1 ⟨rfl, hd1⟩
      have hm1 := hm.drew hd1
      go_wp2_with fail
      with_reducible refine (HP0.out _ hm1).mono ?_
      rintro e w2 ⟨v2, rfl, A2, xs2, c2, rfl, hbx2, hc2, hcm2, hr2, hb2⟩
      have HX2 := Lib.hid hbx2
      have HCC2 := Lib.hid hc2
      have HCM2 := Lib.hid hcm2
      have HR2 := Lib.hid hr2
      clear hbx2 hc2 hcm2 hr2
      have hm2 := hm1.keep hb2 hm1.size
      have hs2 := hb2.size
      go_wp2_with fail
      with_reducible refine (HP1.out _ hm2).mono ?_
      rintro e w3 ⟨v3, rfl, A3, xs3, c3, rfl, hbx3, hc3, hcm3, hr3, hb3⟩
      have HX3 := Lib.hid hbx3
      have HCC3 := Lib.hid hc3
      have HCM3 := Lib.hid hcm3
      have HR3 := Lib.hid hr3
      clear hbx3 hc3 hcm3 hr3
      have hm3 := hm2.keep hb3 hm2.size
      have hs3 := hb3.size
      have HQ := Lib.hid (rcmp_any A2 A3 xs2 xs3 c2 c3 _ _ w3 ((HR2.out.keep hb3).more hs3) HR3.out (Nat.le_trans HCC2.out HCM2.out) (Nat.le_trans HCC3.out HCM3.out))
      rw [HX2.out, HX3.out] at HQ
      generalize Pm.cmpParts l m = v at *
      generalize xs2.length = n2 at *
      generalize xs3.length = n3 at *
      go_wp2_with fail
      with_reducible refine (HQ.out).mono ?_
      rintro e w4 ⟨rfl, hd4⟩
      go_wp2_with fail
      with_reducible refine (HAw.out _ (hm3.drew hd4)).mono ?_
      rintro e w9 ⟨rfl, hd9⟩
      go_wp2
      go_ret
      exact ⟨rfl, ((((hd1.below w.heap.size).trans (hb2.mono (hd1.below w.heap.size).size)).trans (hb3.mono (Nat.le_trans (hd1.below w.heap.size).size hs2))).trans (hd4.below _)).trans (hd9.below _)⟩

set_option maxRecDepth 100000 in
theorem lifted (os : Os) (started : os.Started) (H : Type) (enc : TypeId × Value → H) :
    ReturnsInHanded {} Tryd.checked os 6 .any (fun w args => (Rows.pathComparesSpec.pre enc Tryd.prog Tryd.f6 Rows.pathComparesRow.domain false w args ∧ laidMetH Tryd.prog Rows.pathComparesRow.laid w) ∧ sizedMet enc Tryd.prog Tryd.f6 (OpenSpec.ofChange Rows.pathComparesSpec) false w args)
      (Rows.pathComparesSpec.post enc Tryd.prog Tryd.f6 false true false false) := by
  refine doorWrap own started (by kernel_rfl) Tryd.func6
    (ChangeSpec.witness_shaped (enc := enc) (C := Tryd.checked) (os := os) (X := fun w _ => laidMetH Tryd.prog Rows.pathComparesRow.laid w) false (World.laidAll Tryd.prog os Rows.pathComparesRow.laid) #[.string ByteArray.empty, .string ByteArray.empty] 8 (World.laidAll_os _ _ _)
      (World.shaped_of_ZipB (by kernel_rfl) (by kernel_rfl)) (by kernel_rfl) (by kernel_rfl) (by kernel_rfl)
      (by rw [MakeChecks.laidMetH_plain _ _ _ (by kernel_rfl)]; exact laidMet_laidAll _ (by kernel_rfl) (by kernel_rfl))) ?_
  intro W base args ds gs before hval0 hW hsh
  have hval : ∀ (j : Nat) t v, Tryd.f6.params[j]? = some t → args[j]? = some v → Value.okWide Tryd.prog W .any base t v := hval0
  have hW' := hW
  obtain ⟨p, q, hA0, hV, rfl, hfz, hnd⟩ := hW
  have hA : DataW.TrodAll enc Tryd.prog W 0 (fun _ => true) true Tryd.f6.params.toList args.toList ds p := hA0
  rw [Tryd.params6] at hA hval
  obtain ⟨v0, vs0, d0, ds0, p0, q0, hargs, rfl, rfl, h0, r0⟩ := trodAll_cons hA
  obtain ⟨v1, vs1, d1, ds1, p1, q1, rfl, rfl, rfl, h1, r1⟩ := trodAll_cons r0
  obtain ⟨rfl, rfl, rfl⟩ := trodAll_nil r1
  obtain rfl : args = #[v0, v1] := by cases args; simp_all
  obtain ⟨rfl, rfl⟩ := trodVars_none hV
  obtain ⟨a0, rfl, rfl, rfl, w0⟩ := open_string Tryd.underlying9 (hval 0 9 v0 rfl rfl) h0
  obtain ⟨a1, rfl, rfl, rfl, w1⟩ := open_string Tryd.underlying9 (hval 1 9 v1 rfl rfl) h1
  clear hA0 hval0
  simp only [List.append_nil] at hW'
  refine (walk a0 a1 w0 w1 W (maxl_of W hsh)).mono fun e W' ⟨he, hg⟩ => ?_
  subst he
  exact ⟨_, rfl, _, _, _, [], [], [], hW', trodAll_mk1 (shut_bool Tryd.underlying4 _), (trodAll_cons_mk (shut_string Tryd.underlying9 w0) (trodAll_cons_mk (shut_string Tryd.underlying9 w1) trodAll_mk0)), rfl, hg.frame _, fun h => by cases h⟩

theorem over : Rows.pathComparesRow.holds Tryd.pinned (OpenSpec.ofChange Rows.pathComparesSpec) :=
  OpenClaim.holds_of_wide 6 Tryd.f6 rfl rfl rfl rfl rfl rfl rfl ⟨rfl, rfl, rfl, rfl, rfl⟩ rfl rfl rfl rfl rfl (by kernel_rfl) Tryd.func6 (by kernel_rfl)
    (of_decide_eq_true (by kernel_rfl)) (by unfold Func.isWrapper; first | (rw [if_pos (by decide +kernel)]; kernel_rfl) | (rw [if_neg (by decide +kernel)]; exact ⟨rfl, rfl⟩))
    (fun os started H enc _ => lifted os started H enc)

theorem proved : Rows.PathComparesCardSaid :=
  Claim7.holds_tied_plain_at .later [] [.data, .pinned] true (true, "9a165a810bc37f4b2a4642bfba06315b4b30fc4fa45d265726276bf940f1c38c") false over (fun _ h => by cases h) (by kernel_rfl) (fun _ h => by cases h) pathCompares_row_tie rfl ⟨rfl, rfl⟩ (by kernel_rfl) rfl
    (fun f fn hf hfn => by
      obtain rfl : f = 6 := Option.some.inj ((show Tryd.prog.funcNamed Rows.pathComparesRow.func = some 6 by kernel_rfl).symm.trans hf) |>.symm
      obtain rfl : fn = Tryd.f6 := (Option.some.inj (Tryd.func6.symm.trans hfn)).symm
      exact ⟨by kernel_rfl, fun j t ht => by
        rw [Tryd.params6] at ht
        have hm : t ∈ [9, 9] := by simpa using Array.mem_of_getElem? ht
        have hall : ([9, 9].all fun u => !Tryd.prog.wantsStandIn u) = true := by kernel_rfl
        exact (show Tryd.prog.wantsStandIn t = false by simpa using List.all_eq_true.1 hall t hm)⟩)
    (by kernel_rfl)
#print axioms proved
end Go.Proofs.YtldlakafgjijnaaDoor.pathCompares
