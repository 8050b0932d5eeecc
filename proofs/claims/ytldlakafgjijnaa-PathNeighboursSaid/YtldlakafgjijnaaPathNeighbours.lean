/- PathNeighbours returns true at every four strings. Conditions: none of its own. -/
import Derived.Test.YtldlakafgjijnaaPathLaw
import Derived.WalkKit
import Derived.ProofKit
import Derived.OpenShut
import Derived.ShutString
namespace Go.Proofs.Ytldlakafgjijnaa.pathNeighbours
open Go.ChangeShapes Go.WideShapes Go.ChangeAt Go.RowKit
open Go.ChangeMaps (open_string shut_string)
set_option linter.unusedVariables false

theorem own : ownKnob Try.prog.godebug = none := by kernel_rfl

theorem uerr_cases (d p : List UInt8) : underErr d p = 0 ∨ underErr d p = 20 := by
  unfold underErr
  split
  · exact .inl rfl
  · exact .inr rfl
theorem cerr_cases (a b : List UInt8) : cmpErr a b = 0 ∨ cmpErr a b = 20 := by
  unfold cmpErr
  split
  · exact .inl rfl
  · exact .inr rfl
/-- What stands between two paths of a directory lies in it. -/
theorem between (d a b c : List UInt8) (h1 : underErr d a = 0) (h2 : underErr d c = 0) (h3 : cmpErr a b = 0) (h4 : cmpErr b c = 0) (x : underVal d a = true) (y : underVal d c = true)
    (p : cmpVal a b ≤ 0) (q : cmpVal b c ≤ 0) : underErr d b = 0 ∧ underVal d b = true := by
  unfold cmpVal cmpErr underVal underErr at *
  split at h1
  · rename_i g1
    split at h2
    · rename_i g2
      split at h3
      · rename_i g3
        split at h4
        · rename_i g4
          rw [if_pos g3] at p
          rw [if_pos g4] at q
          simp only [Bool.and_eq_true] at g3 g4 x y
          have g5 : Pm.depth d ≠ 0 ∧ Pm.valid b = true := ⟨g1.1, g3.2⟩
          rw [if_pos g5, decide_eq_true g5, Bool.true_and]
          exact ⟨rfl, Pm.under_between x.2 y.2 p q⟩
        · omega
      · omega
    · omega
  · omega
set_option maxHeartbeats 4000000 in
theorem walk (a0 : ByteArray) (a1 : ByteArray) (a2 : ByteArray) (a3 : ByteArray) (w0 : a0.size ≤ maxLen) (w1 : a1.size ≤ maxLen) (w2 : a2.size ≤ maxLen) (w3 : a3.size ≤ maxLen) (w : World) (hm : MaxL w) :
    Calls Try.prog 5 #[.string a0, .string a1, .string a2, .string a3] w fun e w' => e = .returned (.bool true) ∧ Below w.heap.size w w' := by
  have HLd := Lib.hid (fun w : World => long_any a0 w)
  have HLa := Lib.hid (fun w : World => long_any a1 w)
  have HLb := Lib.hid (fun w : World => long_any a2 w)
  have HLc := Lib.hid (fun w : World => long_any a3 w)
  have HAw := Lib.hid (fun (w : World) (hm : MaxL w) => awake_any w hm)
  by_cases h0 : 400 < a0.size
  · have e0 : decide (400 < a0.size) = true := by simpa using h0
    rw [e0] at HLd
    clear e0
    go_enter Try.func5, Try.ntmps5
    go_wp2_with fail
    with_reducible refine (HLd.out _).mono ?_
    rintro e w' ⟨rfl, rfl⟩
    go_wp2_with fail
    with_reducible refine (HAw.out _ hm).mono ?_
    rintro e w9 ⟨rfl, hd9⟩
    go_wp2
    go_ret
    exact ⟨rfl, Drew.below _ hd9⟩
  have e0 : decide (400 < a0.size) = false := by simpa using h0
  rw [e0] at HLd
  clear e0
  have g0 := long_no h0
  by_cases h1 : 400 < a1.size
  · have e1 : decide (400 < a1.size) = true := by simpa using h1
    rw [e1] at HLa
    clear e1
    go_enter Try.func5, Try.ntmps5
    go_wp2_with fail
    with_reducible refine (HLd.out _).mono ?_
    rintro e w' ⟨rfl, rfl⟩
    go_wp2_with fail
    with_reducible refine (HLa.out _).mono ?_
    rintro e w' ⟨rfl, rfl⟩
    go_wp2_with fail
    with_reducible refine (HAw.out _ hm).mono ?_
    rintro e w9 ⟨rfl, hd9⟩
    go_wp2
    go_ret
    exact ⟨rfl, Drew.below _ hd9⟩
  have e1 : decide (400 < a1.size) = false := by simpa using h1
  rw [e1] at HLa
  clear e1
  have g1 := long_no h1
  by_cases h2 : 400 < a2.size
  · have e2 : decide (400 < a2.size) = true := by simpa using h2
    rw [e2] at HLb
    clear e2
    go_enter Try.func5, Try.ntmps5
    go_wp2_with fail
    with_reducible refine (HLd.out _).mono ?_
    rintro e w' ⟨rfl, rfl⟩
    go_wp2_with fail
    with_reducible refine (HLa.out _).mono ?_
    rintro e w' ⟨rfl, rfl⟩
    go_wp2_with fail
    with_reducible refine (HLb.out _).mono ?_
    rintro e w' ⟨rfl, rfl⟩
    go_wp2_with fail
    with_reducible refine (HAw.out _ hm).mono ?_
    rintro e w9 ⟨rfl, hd9⟩
    go_wp2
    go_ret
    exact ⟨rfl, Drew.below _ hd9⟩
  have e2 : decide (400 < a2.size) = false := by simpa using h2
  rw [e2] at HLb
  clear e2
  have g2 := long_no h2
  by_cases h3 : 400 < a3.size
  · have e3 : decide (400 < a3.size) = true := by simpa using h3
    rw [e3] at HLc
    clear e3
    go_enter Try.func5, Try.ntmps5
    go_wp2_with fail
    with_reducible refine (HLd.out _).mono ?_
    rintro e w' ⟨rfl, rfl⟩
    go_wp2_with fail
    with_reducible refine (HLa.out _).mono ?_
    rintro e w' ⟨rfl, rfl⟩
    go_wp2_with fail
    with_reducible refine (HLb.out _).mono ?_
    rintro e w' ⟨rfl, rfl⟩
    go_wp2_with fail
    with_reducible refine (HLc.out _).mono ?_
    rintro e w' ⟨rfl, rfl⟩
    go_wp2_with fail
    with_reducible refine (HAw.out _ hm).mono ?_
    rintro e w9 ⟨rfl, hd9⟩
    go_wp2
    go_ret
    exact ⟨rfl, Drew.below _ hd9⟩
  have e3 : decide (400 < a3.size) = false := by simpa using h3
  rw [e3] at HLc
  clear e3
  have g3 := long_no h3
  have HU1 := Lib.hid (fun (w : World) (hm : MaxL w) => under_any a0 a1 w g0 g1 hm)
  have HU2 := Lib.hid (fun (w : World) (hm : MaxL w) => under_any a0 a3 w g0 g3 hm)
  have HU3 := Lib.hid (fun (w : World) (hm : MaxL w) => under_any a0 a2 w g0 g2 hm)
  have HC1 := Lib.hid (fun (w : World) (hm : MaxL w) => cmp_any a1 a2 w g1 g2 hm)
  have HC2 := Lib.hid (fun (w : World) (hm : MaxL w) => cmp_any a2 a3 w g2 g3 hm)
  have HM := between a0.data.toList a1.data.toList a2.data.toList a3.data.toList
  have k1 := uerr_cases a0.data.toList a1.data.toList
  have k2 := uerr_cases a0.data.toList a3.data.toList
  have k3 := cerr_cases a1.data.toList a2.data.toList
  have k4 := cerr_cases a2.data.toList a3.data.toList
  generalize underErr a0.data.toList a1.data.toList = n1 at *
  generalize underVal a0.data.toList a1.data.toList = x at *
  generalize underErr a0.data.toList a3.data.toList = n2 at *
  generalize underVal a0.data.toList a3.data.toList = y at *
  generalize underErr a0.data.toList a2.data.toList = n5 at *
  generalize underVal a0.data.toList a2.data.toList = z at *
  generalize cmpErr a1.data.toList a2.data.toList = n3 at *
  generalize cmpVal a1.data.toList a2.data.toList = p at *
  generalize cmpErr a2.data.toList a3.data.toList = n4 at *
  generalize cmpVal a2.data.toList a3.data.toList = q at *
  rcases k1 with rfl | rfl
  rotate_left
  · clear HM k2 k3 k4
    go_enter Try.func5, Try.ntmps5
    go_wp2_with fail
    with_reducible refine (HLd.out _).mono ?_
    rintro e w' ⟨rfl, rfl⟩
    go_wp2_with fail
    with_reducible refine (HLa.out _).mono ?_
    rintro e w' ⟨rfl, rfl⟩
    go_wp2_with fail
    with_reducible refine (HLb.out _).mono ?_
    rintro e w' ⟨rfl, rfl⟩
    go_wp2_with fail
    with_reducible refine (HLc.out _).mono ?_
    rintro e w' ⟨rfl, rfl⟩
    go_wp2_with fail
    with_reducible refine (HU1.out _ hm).mono ?_
    rintro e w1 ⟨rfl, hd1⟩
    go_wp2_with fail
    with_reducible refine (HU2.out _ (hm.drew hd1)).mono ?_
    rintro e w2 ⟨rfl, hd2⟩
    go_wp2_with fail
    with_reducible refine (HC1.out _ ((hm.drew hd1).drew hd2)).mono ?_
    rintro e w3 ⟨rfl, hd3⟩
    go_wp2_with fail
    with_reducible refine (HC2.out _ (((hm.drew hd1).drew hd2).drew hd3)).mono ?_
    rintro e w4 ⟨rfl, hd4⟩
    go_wp2_with fail
    with_reducible refine (HAw.out _ ((((hm.drew hd1).drew hd2).drew hd3).drew hd4)).mono ?_
    rintro e w9 ⟨rfl, hd9⟩
    go_wp2
    go_ret
    exact ⟨rfl, Drew.below _ ((((hd1.trans hd2).trans hd3).trans hd4).trans hd9)⟩
  rcases k2 with rfl | rfl
  rotate_left
  · clear HM k3 k4
    go_enter Try.func5, Try.ntmps5
    go_wp2_with fail
    with_reducible refine (HLd.out _).mono ?_
    rintro e w' ⟨rfl, rfl⟩
    go_wp2_with fail
    with_reducible refine (HLa.out _).mono ?_
    rintro e w' ⟨rfl, rfl⟩
    go_wp2_with fail
    with_reducible refine (HLb.out _).mono ?_
    rintro e w' ⟨rfl, rfl⟩
    go_wp2_with fail
    with_reducible refine (HLc.out _).mono ?_
    rintro e w' ⟨rfl, rfl⟩
    go_wp2_with fail
    with_reducible refine (HU1.out _ hm).mono ?_
    rintro e w1 ⟨rfl, hd1⟩
    go_wp2_with fail
    with_reducible refine (HU2.out _ (hm.drew hd1)).mono ?_
    rintro e w2 ⟨rfl, hd2⟩
    go_wp2_with fail
    with_reducible refine (HC1.out _ ((hm.drew hd1).drew hd2)).mono ?_
    rintro e w3 ⟨rfl, hd3⟩
    go_wp2_with fail
    with_reducible refine (HC2.out _ (((hm.drew hd1).drew hd2).drew hd3)).mono ?_
    rintro e w4 ⟨rfl, hd4⟩
    go_wp2_with fail
    with_reducible refine (HAw.out _ ((((hm.drew hd1).drew hd2).drew hd3).drew hd4)).mono ?_
    rintro e w9 ⟨rfl, hd9⟩
    go_wp2
    go_ret
    exact ⟨rfl, Drew.below _ ((((hd1.trans hd2).trans hd3).trans hd4).trans hd9)⟩
  rcases k3 with rfl | rfl
  rotate_left
  · clear HM k4
    go_enter Try.func5, Try.ntmps5
    go_wp2_with fail
    with_reducible refine (HLd.out _).mono ?_
    rintro e w' ⟨rfl, rfl⟩
    go_wp2_with fail
    with_reducible refine (HLa.out _).mono ?_
    rintro e w' ⟨rfl, rfl⟩
    go_wp2_with fail
    with_reducible refine (HLb.out _).mono ?_
    rintro e w' ⟨rfl, rfl⟩
    go_wp2_with fail
    with_reducible refine (HLc.out _).mono ?_
    rintro e w' ⟨rfl, rfl⟩
    go_wp2_with fail
    with_reducible refine (HU1.out _ hm).mono ?_
    rintro e w1 ⟨rfl, hd1⟩
    go_wp2_with fail
    with_reducible refine (HU2.out _ (hm.drew hd1)).mono ?_
    rintro e w2 ⟨rfl, hd2⟩
    go_wp2_with fail
    with_reducible refine (HC1.out _ ((hm.drew hd1).drew hd2)).mono ?_
    rintro e w3 ⟨rfl, hd3⟩
    go_wp2_with fail
    with_reducible refine (HC2.out _ (((hm.drew hd1).drew hd2).drew hd3)).mono ?_
    rintro e w4 ⟨rfl, hd4⟩
    go_wp2_with fail
    with_reducible refine (HAw.out _ ((((hm.drew hd1).drew hd2).drew hd3).drew hd4)).mono ?_
    rintro e w9 ⟨rfl, hd9⟩
    go_wp2
    go_ret
    exact ⟨rfl, Drew.below _ ((((hd1.trans hd2).trans hd3).trans hd4).trans hd9)⟩
  rcases k4 with rfl | rfl
  rotate_left
  · clear HM
    go_enter Try.func5, Try.ntmps5
    go_wp2_with fail
    with_reducible refine (HLd.out _).mono ?_
    rintro e w' ⟨rfl, rfl⟩
    go_wp2_with fail
    with_reducible refine (HLa.out _).mono ?_
    rintro e w' ⟨rfl, rfl⟩
    go_wp2_with fail
    with_reducible refine (HLb.out _).mono ?_
    rintro e w' ⟨rfl, rfl⟩
    go_wp2_with fail
    with_reducible refine (HLc.out _).mono ?_
    rintro e w' ⟨rfl, rfl⟩
    go_wp2_with fail
    with_reducible refine (HU1.out _ hm).mono ?_
    rintro e w1 ⟨rfl, hd1⟩
    go_wp2_with fail
    with_reducible refine (HU2.out _ (hm.drew hd1)).mono ?_
    rintro e w2 ⟨rfl, hd2⟩
    go_wp2_with fail
    with_reducible refine (HC1.out _ ((hm.drew hd1).drew hd2)).mono ?_
    rintro e w3 ⟨rfl, hd3⟩
    go_wp2_with fail
    with_reducible refine (HC2.out _ (((hm.drew hd1).drew hd2).drew hd3)).mono ?_
    rintro e w4 ⟨rfl, hd4⟩
    go_wp2_with fail
    with_reducible refine (HAw.out _ ((((hm.drew hd1).drew hd2).drew hd3).drew hd4)).mono ?_
    rintro e w9 ⟨rfl, hd9⟩
    go_wp2
    go_ret
    exact ⟨rfl, Drew.below _ ((((hd1.trans hd2).trans hd3).trans hd4).trans hd9)⟩
  cases x
  · clear HM
    go_enter Try.func5, Try.ntmps5
    go_wp2_with fail
    with_reducible refine (HLd.out _).mono ?_
    rintro e w' ⟨rfl, rfl⟩
    go_wp2_with fail
    with_reducible refine (HLa.out _).mono ?_
    rintro e w' ⟨rfl, rfl⟩
    go_wp2_with fail
    with_reducible refine (HLb.out _).mono ?_
    rintro e w' ⟨rfl, rfl⟩
    go_wp2_with fail
    with_reducible refine (HLc.out _).mono ?_
    rintro e w' ⟨rfl, rfl⟩
    go_wp2_with fail
    with_reducible refine (HU1.out _ hm).mono ?_
    rintro e w1 ⟨rfl, hd1⟩
    go_wp2_with fail
    with_reducible refine (HU2.out _ (hm.drew hd1)).mono ?_
    rintro e w2 ⟨rfl, hd2⟩
    go_wp2_with fail
    with_reducible refine (HC1.out _ ((hm.drew hd1).drew hd2)).mono ?_
    rintro e w3 ⟨rfl, hd3⟩
    go_wp2_with fail
    with_reducible refine (HC2.out _ (((hm.drew hd1).drew hd2).drew hd3)).mono ?_
    rintro e w4 ⟨rfl, hd4⟩
    go_wp2_with fail
    with_reducible refine (HAw.out _ ((((hm.drew hd1).drew hd2).drew hd3).drew hd4)).mono ?_
    rintro e w9 ⟨rfl, hd9⟩
    go_wp2
    go_ret
    exact ⟨rfl, Drew.below _ ((((hd1.trans hd2).trans hd3).trans hd4).trans hd9)⟩
  cases y
  · clear HM
    go_enter Try.func5, Try.ntmps5
    go_wp2_with fail
    with_reducible refine (HLd.out _).mono ?_
    rintro e w' ⟨rfl, rfl⟩
    go_wp2_with fail
    with_reducible refine (HLa.out _).mono ?_
    rintro e w' ⟨rfl, rfl⟩
    go_wp2_with fail
    with_reducible refine (HLb.out _).mono ?_
    rintro e w' ⟨rfl, rfl⟩
    go_wp2_with fail
    with_reducible refine (HLc.out _).mono ?_
    rintro e w' ⟨rfl, rfl⟩
    go_wp2_with fail
    with_reducible refine (HU1.out _ hm).mono ?_
    rintro e w1 ⟨rfl, hd1⟩
    go_wp2_with fail
    with_reducible refine (HU2.out _ (hm.drew hd1)).mono ?_
    rintro e w2 ⟨rfl, hd2⟩
    go_wp2_with fail
    with_reducible refine (HC1.out _ ((hm.drew hd1).drew hd2)).mono ?_
    rintro e w3 ⟨rfl, hd3⟩
    go_wp2_with fail
    with_reducible refine (HC2.out _ (((hm.drew hd1).drew hd2).drew hd3)).mono ?_
    rintro e w4 ⟨rfl, hd4⟩
    go_wp2_with fail
    with_reducible refine (HAw.out _ ((((hm.drew hd1).drew hd2).drew hd3).drew hd4)).mono ?_
    rintro e w9 ⟨rfl, hd9⟩
    go_wp2
    go_ret
    exact ⟨rfl, Drew.below _ ((((hd1.trans hd2).trans hd3).trans hd4).trans hd9)⟩
  by_cases hp : 0 < p
  · clear HM
    go_enter Try.func5, Try.ntmps5
    go_wp2_with fail
    with_reducible refine (HLd.out _).mono ?_
    rintro e w' ⟨rfl, rfl⟩
    go_wp2_with fail
    with_reducible refine (HLa.out _).mono ?_
    rintro e w' ⟨rfl, rfl⟩
    go_wp2_with fail
    with_reducible refine (HLb.out _).mono ?_
    rintro e w' ⟨rfl, rfl⟩
    go_wp2_with fail
    with_reducible refine (HLc.out _).mono ?_
    rintro e w' ⟨rfl, rfl⟩
    go_wp2_with fail
    with_reducible refine (HU1.out _ hm).mono ?_
    rintro e w1 ⟨rfl, hd1⟩
    go_wp2_with fail
    with_reducible refine (HU2.out _ (hm.drew hd1)).mono ?_
    rintro e w2 ⟨rfl, hd2⟩
    go_wp2_with fail
    with_reducible refine (HC1.out _ ((hm.drew hd1).drew hd2)).mono ?_
    rintro e w3 ⟨rfl, hd3⟩
    go_wp2_with fail
    with_reducible refine (HC2.out _ (((hm.drew hd1).drew hd2).drew hd3)).mono ?_
    rintro e w4 ⟨rfl, hd4⟩
    go_wp2_with fail
    with_reducible refine (HAw.out _ ((((hm.drew hd1).drew hd2).drew hd3).drew hd4)).mono ?_
    rintro e w9 ⟨rfl, hd9⟩
    go_wp2
    go_ret
    exact ⟨rfl, Drew.below _ ((((hd1.trans hd2).trans hd3).trans hd4).trans hd9)⟩
  by_cases hq : 0 < q
  · clear HM
    have hp : p ≤ 0 := by omega
    go_enter Try.func5, Try.ntmps5
    go_wp2_with fail
    with_reducible refine (HLd.out _).mono ?_
    rintro e w' ⟨rfl, rfl⟩
    go_wp2_with fail
    with_reducible refine (HLa.out _).mono ?_
    rintro e w' ⟨rfl, rfl⟩
    go_wp2_with fail
    with_reducible refine (HLb.out _).mono ?_
    rintro e w' ⟨rfl, rfl⟩
    go_wp2_with fail
    with_reducible refine (HLc.out _).mono ?_
    rintro e w' ⟨rfl, rfl⟩
    go_wp2_with fail
    with_reducible refine (HU1.out _ hm).mono ?_
    rintro e w1 ⟨rfl, hd1⟩
    go_wp2_with fail
    with_reducible refine (HU2.out _ (hm.drew hd1)).mono ?_
    rintro e w2 ⟨rfl, hd2⟩
    go_wp2_with fail
    with_reducible refine (HC1.out _ ((hm.drew hd1).drew hd2)).mono ?_
    rintro e w3 ⟨rfl, hd3⟩
    go_wp2_with fail
    with_reducible refine (HC2.out _ (((hm.drew hd1).drew hd2).drew hd3)).mono ?_
    rintro e w4 ⟨rfl, hd4⟩
    go_wp2_with fail
    with_reducible refine (HAw.out _ ((((hm.drew hd1).drew hd2).drew hd3).drew hd4)).mono ?_
    rintro e w9 ⟨rfl, hd9⟩
    go_wp2
    go_ret
    exact ⟨rfl, Drew.below _ ((((hd1.trans hd2).trans hd3).trans hd4).trans hd9)⟩
  have hp : p ≤ 0 := by omega
  have hq : q ≤ 0 := by omega
  obtain ⟨rfl, rfl⟩ := HM rfl rfl rfl rfl rfl rfl hp hq
  clear HM
  go_enter Try.func5, Try.ntmps5
  go_wp2_with fail
  with_reducible refine (HLd.out _).mono ?_
  rintro e w' ⟨rfl, rfl⟩
  go_wp2_with fail
  with_reducible refine (HLa.out _).mono ?_
  rintro e w' ⟨rfl, rfl⟩
  go_wp2_with fail
  with_reducible refine (HLb.out _).mono ?_
  rintro e w' ⟨rfl, rfl⟩
  go_wp2_with fail
  with_reducible refine (HLc.out _).mono ?_
  rintro e w' ⟨rfl, rfl⟩
  go_wp2_with fail
  with_reducible refine (HU1.out _ hm).mono ?_
  rintro e w1 ⟨rfl, hd1⟩
  go_wp2_with fail
  with_reducible refine (HU2.out _ (hm.drew hd1)).mono ?_
  rintro e w2 ⟨rfl, hd2⟩
  go_wp2_with fail
  with_reducible refine (HC1.out _ ((hm.drew hd1).drew hd2)).mono ?_
  rintro e w3 ⟨rfl, hd3⟩
  go_wp2_with fail
  with_reducible refine (HC2.out _ (((hm.drew hd1).drew hd2).drew hd3)).mono ?_
  rintro e w4 ⟨rfl, hd4⟩
  go_wp2_with fail
  with_reducible refine (HU3.out _ ((((hm.drew hd1).drew hd2).drew hd3).drew hd4)).mono ?_
  rintro e w5 ⟨rfl, hd5⟩
  go_wp2_with fail
  with_reducible refine (HAw.out _ (((((hm.drew hd1).drew hd2).drew hd3).drew hd4).drew hd5)).mono ?_
  rintro e w9 ⟨rfl, hd9⟩
  go_wp2
  go_ret
  exact ⟨rfl, Drew.below _ (((((hd1.trans hd2).trans hd3).trans hd4).trans hd5).trans hd9)⟩

set_option maxRecDepth 100000 in
theorem lifted (os : Os) (started : os.Started) (H : Type) (enc : TypeId × Value → H) :
    ReturnsInHanded {} Try.checked os 5 .any (Rows.pathNeighboursSpec.pre6 enc Try.prog Try.f5 Rows.pathNeighboursRow.domain false) (Rows.pathNeighboursSpec.post enc Try.prog Try.f5 false true false false) := by
  refine returnsInHanded_of_change_shaped (C := Try.checked) own started (by kernel_rfl) Try.func5
    (ChangeSpec.witness6 (enc := enc) (C := Try.checked) false ⟨#[], #[.string ByteArray.empty, .string ByteArray.empty, .string ByteArray.empty, .string ByteArray.empty], []⟩ 8 (by kernel_rfl) (by kernel_rfl) (by kernel_rfl) (by kernel_rfl)) ?_
  intro W base args ds gs before hval0 hW hcnd _ hsh _
  have hval : ∀ (j : Nat) t v, Try.f5.params[j]? = some t → args[j]? = some v → Value.okWide Try.prog W .any base t v := hval0
  have hW' := hW
  obtain ⟨p, q, hA0, hV, rfl, hfz, hnd⟩ := hW
  have hA : DataW.TrodAll enc Try.prog W 0 (fun _ => true) true Try.f5.params.toList args.toList ds p := hA0
  rw [Try.params5] at hA hval
  obtain ⟨v0, vs0, d0, ds0, p0, q0, hargs, rfl, rfl, h0, r0⟩ := trodAll_cons hA
  obtain ⟨v1, vs1, d1, ds1, p1, q1, rfl, rfl, rfl, h1, r1⟩ := trodAll_cons r0
  obtain ⟨v2, vs2, d2, ds2, p2, q2, rfl, rfl, rfl, h2, r2⟩ := trodAll_cons r1
  obtain ⟨v3, vs3, d3, ds3, p3, q3, rfl, rfl, rfl, h3, r3⟩ := trodAll_cons r2
  obtain ⟨rfl, rfl, rfl⟩ := trodAll_nil r3
  obtain rfl : args = #[v0, v1, v2, v3] := by cases args; simp_all
  obtain ⟨rfl, rfl⟩ := trodVars_none hV
  obtain ⟨a0, rfl, rfl, rfl, w0⟩ := open_string Try.underlying9 (hval 0 9 v0 rfl rfl) h0
  obtain ⟨a1, rfl, rfl, rfl, w1⟩ := open_string Try.underlying9 (hval 1 9 v1 rfl rfl) h1
  obtain ⟨a2, rfl, rfl, rfl, w2⟩ := open_string Try.underlying9 (hval 2 9 v2 rfl rfl) h2
  obtain ⟨a3, rfl, rfl, rfl, w3⟩ := open_string Try.underlying9 (hval 3 9 v3 rfl rfl) h3
  clear hA0 hval0
  simp only [List.append_nil] at hW'
  refine (walk a0 a1 a2 a3 w0 w1 w2 w3 W (maxl_of W hsh)).mono fun e W' ⟨he, hg⟩ => ?_
  subst he
  exact ⟨_, rfl, _, _, _, [], [], [], hW', trodAll_mk1 (shut_bool Try.underlying4 _), (trodAll_cons_mk (shut_string Try.underlying9 w0) (trodAll_cons_mk (shut_string Try.underlying9 w1) (trodAll_cons_mk (shut_string Try.underlying9 w2) (trodAll_cons_mk (shut_string Try.underlying9 w3) trodAll_mk0)))), rfl, hg.frame _, fun h => by cases h⟩

theorem over : Rows.pathNeighboursRow.holds Try.pinned (OpenSpec.ofChange Rows.pathNeighboursSpec) :=
  OpenClaim.holds_of_wide 5 Try.f5 rfl rfl rfl rfl rfl rfl rfl ⟨rfl, rfl, rfl, rfl, rfl⟩ rfl rfl rfl rfl rfl (by kernel_rfl) Try.func5 (by kernel_rfl)
    (of_decide_eq_true (by kernel_rfl)) (by unfold Func.isWrapper; first | (rw [if_pos (by decide +kernel)]; kernel_rfl) | (rw [if_neg (by decide +kernel)]; exact ⟨rfl, rfl⟩))
    (fun os started H enc _ => lifted os started H enc)

theorem proved : Rows.PathNeighboursSaid :=
  over
#print axioms proved
end Go.Proofs.Ytldlakafgjijnaa.pathNeighbours
