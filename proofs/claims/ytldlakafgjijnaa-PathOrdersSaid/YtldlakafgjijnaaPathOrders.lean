/- PathOrders returns true at every three strings. Conditions: none of its own. -/
import Derived.Test.YtldlakafgjijnaaPathLaw
import Derived.WalkKit
import Derived.ProofKit
import Derived.OpenShut
import Derived.ShutString
namespace Go.Proofs.Ytldlakafgjijnaa.pathOrders
open Go.ChangeShapes Go.WideShapes Go.ChangeAt Go.RowKit
open Go.ChangeMaps (open_string shut_string)
set_option linter.unusedVariables false

theorem own : ownKnob Try.prog.godebug = none := by kernel_rfl

set_option maxHeartbeats 4000000 in
theorem walk (a0 : ByteArray) (a1 : ByteArray) (a2 : ByteArray) (w0 : a0.size ≤ maxLen) (w1 : a1.size ≤ maxLen) (w2 : a2.size ≤ maxLen) (w : World) (hm : MaxL w) :
    Calls Try.prog 4 #[.string a0, .string a1, .string a2] w fun e w' => e = .returned (.bool true) ∧ Below w.heap.size w w' := by
  have HLa := Lib.hid (fun w : World => long_any a0 w)
  have HLb := Lib.hid (fun w : World => long_any a1 w)
  have HLc := Lib.hid (fun w : World => long_any a2 w)
  have HVa := Lib.hid (fun (w : World) (hs : a0.size < 4294967281) (hm : MaxL w) => valid_any a0 w hs hm)
  have HVb := Lib.hid (fun (w : World) (hs : a1.size < 4294967281) (hm : MaxL w) => valid_any a1 w hs hm)
  have HVc := Lib.hid (fun (w : World) (hs : a2.size < 4294967281) (hm : MaxL w) => valid_any a2 w hs hm)
  have HAw := Lib.hid (fun (w : World) (hm : MaxL w) => awake_any w hm)
  by_cases h0 : 400 < a0.size
  · have e0 : decide (400 < a0.size) = true := by simpa using h0
    rw [e0] at HLa
    clear e0
    go_enter Try.func4, Try.ntmps4
    go_wp2_with fail
    with_reducible refine (HLa.out _).mono ?_
    rintro e w' ⟨rfl, rfl⟩
    go_wp2_with fail
    with_reducible refine (HAw.out _ hm).mono ?_
    rintro e w9 ⟨rfl, hd9⟩
    go_wp2
    go_ret
    exact ⟨rfl, Drew.below _ hd9⟩
  have e0 : decide (400 < a0.size) = false := by simpa using h0
  rw [e0] at HLa
  clear e0
  have g0 := long_no h0
  by_cases h1 : 400 < a1.size
  · have e1 : decide (400 < a1.size) = true := by simpa using h1
    rw [e1] at HLb
    clear e1
    go_enter Try.func4, Try.ntmps4
    go_wp2_with fail
    with_reducible refine (HLa.out _).mono ?_
    rintro e w' ⟨rfl, rfl⟩
    go_wp2_with fail
    with_reducible refine (HLb.out _).mono ?_
    rintro e w' ⟨rfl, rfl⟩
    go_wp2_with fail
    with_reducible refine (HAw.out _ hm).mono ?_
    rintro e w9 ⟨rfl, hd9⟩
    go_wp2
    go_ret
    exact ⟨rfl, Drew.below _ hd9⟩
  have e1 : decide (400 < a1.size) = false := by simpa using h1
  rw [e1] at HLb
  clear e1
  have g1 := long_no h1
  by_cases h2 : 400 < a2.size
  · have e2 : decide (400 < a2.size) = true := by simpa using h2
    rw [e2] at HLc
    clear e2
    go_enter Try.func4, Try.ntmps4
    go_wp2_with fail
    with_reducible refine (HLa.out _).mono ?_
    rintro e w' ⟨rfl, rfl⟩
    go_wp2_with fail
    with_reducible refine (HLb.out _).mono ?_
    rintro e w' ⟨rfl, rfl⟩
    go_wp2_with fail
    with_reducible refine (HLc.out _).mono ?_
    rintro e w' ⟨rfl, rfl⟩
    go_wp2_with fail
    with_reducible refine (HAw.out _ hm).mono ?_
    rintro e w9 ⟨rfl, hd9⟩
    go_wp2
    go_ret
    exact ⟨rfl, Drew.below _ hd9⟩
  have e2 : decide (400 < a2.size) = false := by simpa using h2
  rw [e2] at HLc
  clear e2
  have g2 := long_no h2
  cases v0 : Pm.valid a0.data.toList with
  | false =>
    rw [v0] at HVa
    clear v0
    go_enter Try.func4, Try.ntmps4
    go_wp2_with fail
    with_reducible refine (HLa.out _).mono ?_
    rintro e w' ⟨rfl, rfl⟩
    go_wp2_with fail
    with_reducible refine (HLb.out _).mono ?_
    rintro e w' ⟨rfl, rfl⟩
    go_wp2_with fail
    with_reducible refine (HLc.out _).mono ?_
    rintro e w' ⟨rfl, rfl⟩
    go_wp2_with fail
    with_reducible refine (HVa.out _ g0 hm).mono ?_
    rintro e w1 ⟨rfl, hd1⟩
    go_wp2_with fail
    with_reducible refine (HAw.out _ (hm.drew hd1)).mono ?_
    rintro e w9 ⟨rfl, hd9⟩
    go_wp2
    go_ret
    exact ⟨rfl, Drew.below _ (hd1.trans hd9)⟩
  | true =>
    rw [v0] at HVa
    cases v1 : Pm.valid a1.data.toList with
    | false =>
      rw [v1] at HVb
      clear v1
      go_enter Try.func4, Try.ntmps4
      go_wp2_with fail
      with_reducible refine (HLa.out _).mono ?_
      rintro e w' ⟨rfl, rfl⟩
      go_wp2_with fail
      with_reducible refine (HLb.out _).mono ?_
      rintro e w' ⟨rfl, rfl⟩
      go_wp2_with fail
      with_reducible refine (HLc.out _).mono ?_
      rintro e w' ⟨rfl, rfl⟩
      go_wp2_with fail
      with_reducible refine (HVa.out _ g0 hm).mono ?_
      rintro e w1 ⟨rfl, hd1⟩
      go_wp2_with fail
      with_reducible refine (HVb.out _ g1 (hm.drew hd1)).mono ?_
      rintro e w2 ⟨rfl, hd2⟩
      go_wp2_with fail
      with_reducible refine (HAw.out _ ((hm.drew hd1).drew hd2)).mono ?_
      rintro e w9 ⟨rfl, hd9⟩
      go_wp2
      go_ret
      exact ⟨rfl, Drew.below _ ((hd1.trans hd2).trans hd9)⟩
    | true =>
      rw [v1] at HVb
      cases v2 : Pm.valid a2.data.toList with
      | false =>
        rw [v2] at HVc
        clear v2
        go_enter Try.func4, Try.ntmps4
        go_wp2_with fail
        with_reducible refine (HLa.out _).mono ?_
        rintro e w' ⟨rfl, rfl⟩
        go_wp2_with fail
        with_reducible refine (HLb.out _).mono ?_
        rintro e w' ⟨rfl, rfl⟩
        go_wp2_with fail
        with_reducible refine (HLc.out _).mono ?_
        rintro e w' ⟨rfl, rfl⟩
        go_wp2_with fail
        with_reducible refine (HVa.out _ g0 hm).mono ?_
        rintro e w1 ⟨rfl, hd1⟩
        go_wp2_with fail
        with_reducible refine (HVb.out _ g1 (hm.drew hd1)).mono ?_
        rintro e w2 ⟨rfl, hd2⟩
        go_wp2_with fail
        with_reducible refine (HVc.out _ g2 ((hm.drew hd1).drew hd2)).mono ?_
        rintro e w3 ⟨rfl, hd3⟩
        go_wp2_with fail
        with_reducible refine (HAw.out _ (((hm.drew hd1).drew hd2).drew hd3)).mono ?_
        rintro e w9 ⟨rfl, hd9⟩
        go_wp2
        go_ret
        exact ⟨rfl, Drew.below _ (((hd1.trans hd2).trans hd3).trans hd9)⟩
      | true =>
        rw [v2] at HVc
        have HC0 := Lib.hid (fun (w : World) (hm : MaxL w) => cmp_any a0 a1 w g0 g1 hm)
        have c0 : cmpVal a0.data.toList a1.data.toList = Pm.ord a0.data.toList a1.data.toList := by unfold cmpVal; rw [v0, v1]; rfl
        have d0 : cmpErr a0.data.toList a1.data.toList = 0 := by unfold cmpErr; rw [v0, v1]; rfl
        rw [c0, d0] at HC0
        clear c0 d0
        have HC1 := Lib.hid (fun (w : World) (hm : MaxL w) => cmp_any a1 a0 w g1 g0 hm)
        have c1 : cmpVal a1.data.toList a0.data.toList = Pm.ord a1.data.toList a0.data.toList := by unfold cmpVal; rw [v1, v0]; rfl
        have d1 : cmpErr a1.data.toList a0.data.toList = 0 := by unfold cmpErr; rw [v1, v0]; rfl
        rw [c1, d1] at HC1
        clear c1 d1
        have HC2 := Lib.hid (fun (w : World) (hm : MaxL w) => cmp_any a1 a2 w g1 g2 hm)
        have c2 : cmpVal a1.data.toList a2.data.toList = Pm.ord a1.data.toList a2.data.toList := by unfold cmpVal; rw [v1, v2]; rfl
        have d2 : cmpErr a1.data.toList a2.data.toList = 0 := by unfold cmpErr; rw [v1, v2]; rfl
        rw [c2, d2] at HC2
        clear c2 d2
        have HC3 := Lib.hid (fun (w : World) (hm : MaxL w) => cmp_any a0 a2 w g0 g2 hm)
        have c3 : cmpVal a0.data.toList a2.data.toList = Pm.ord a0.data.toList a2.data.toList := by unfold cmpVal; rw [v0, v2]; rfl
        have d3 : cmpErr a0.data.toList a2.data.toList = 0 := by unfold cmpErr; rw [v0, v2]; rfl
        rw [c3, d3] at HC3
        clear c3 d3
        have rx := Pm.ord_range a0.data.toList a1.data.toList
        have rz := Pm.ord_range a1.data.toList a2.data.toList
        have ry := Pm.ord_neg a1.data.toList a0.data.toList
        have rw_ := Pm.ord_range a0.data.toList a2.data.toList
        have t1 := @Pm.ord_trans a0.data.toList a1.data.toList a2.data.toList
        have q1 := Pm.ord_eq a0.data.toList a1.data.toList
        have q2 := Pm.ord_eq a1.data.toList a2.data.toList
        have q3 := Pm.ord_eq a0.data.toList a2.data.toList
        have n1 := Pm.ord_neg a0.data.toList a1.data.toList
        have n2 := Pm.ord_neg a1.data.toList a2.data.toList
        have q4 : Pm.ord a0.data.toList a2.data.toList = 0 → Pm.ord a1.data.toList a2.data.toList = - Pm.ord a0.data.toList a1.data.toList := by
          intro h
          rw [← Pm.ord_zero h, Pm.ord_neg]
        have q5 : Pm.ord a0.data.toList a1.data.toList = 0 → Pm.ord a0.data.toList a2.data.toList = Pm.ord a1.data.toList a2.data.toList := by
          intro h
          rw [Pm.ord_zero h]
        have hne : Pm.ord a0.data.toList a1.data.toList ≠ 0 → a0 ≠ a1 := by
          rintro h rfl
          exact h (Pm.ord_self _)
        have heq : Pm.ord a0.data.toList a1.data.toList = 0 → a0 = a1 := fun h => ba_ext (Pm.ord_zero h)
        clear q1 q2 q3 n1 n2 v0 v1 v2
        generalize Pm.ord a0.data.toList a1.data.toList = x at *
        generalize Pm.ord a1.data.toList a0.data.toList = y at *
        generalize Pm.ord a1.data.toList a2.data.toList = z at *
        generalize Pm.ord a0.data.toList a2.data.toList = v at *
        rcases rx with rfl | rfl | rfl
        · have hy : y = 1 := by omega
          have ha : (a0.toList == a1.toList) = false := by rw [beq_eq_false_iff_ne, Lib.toList_data, Lib.toList_data]; exact fun h => hne (by omega) (ba_ext h)
          subst hy
          rcases rz with rfl | rfl | rfl
          · skip
            have hv : v = -1 := by omega
            subst hv
            clear hne heq q4 q5 t1 rw_ ry
            go_enter Try.func4, Try.ntmps4
            go_wp2_with fail
            with_reducible refine (HLa.out _).mono ?_
            rintro e w' ⟨rfl, rfl⟩
            go_wp2_with fail
            with_reducible refine (HLb.out _).mono ?_
            rintro e w' ⟨rfl, rfl⟩
            go_wp2_with fail
            with_reducible refine (HLc.out _).mono ?_
            rintro e w' ⟨rfl, rfl⟩
            go_wp2_with fail
            with_reducible refine (HVa.out _ g0 hm).mono ?_
            rintro e w1 ⟨rfl, hd1⟩
            go_wp2_with fail
            with_reducible refine (HVb.out _ g1 (hm.drew hd1)).mono ?_
            rintro e w2 ⟨rfl, hd2⟩
            go_wp2_with fail
            with_reducible refine (HVc.out _ g2 ((hm.drew hd1).drew hd2)).mono ?_
            rintro e w3 ⟨rfl, hd3⟩
            go_wp2_with fail
            with_reducible refine (HC0.out _ (((hm.drew hd1).drew hd2).drew hd3)).mono ?_
            rintro e w4 ⟨rfl, hd4⟩
            go_wp2_with fail
            with_reducible refine (HC1.out _ ((((hm.drew hd1).drew hd2).drew hd3).drew hd4)).mono ?_
            rintro e w5 ⟨rfl, hd5⟩
            go_wp2_with fail
            with_reducible refine (HC2.out _ (((((hm.drew hd1).drew hd2).drew hd3).drew hd4).drew hd5)).mono ?_
            rintro e w6 ⟨rfl, hd6⟩
            go_wp2_with fail
            with_reducible refine (HC3.out _ ((((((hm.drew hd1).drew hd2).drew hd3).drew hd4).drew hd5).drew hd6)).mono ?_
            rintro e w7 ⟨rfl, hd7⟩
            go_wp2_with fail
            with_reducible refine (HAw.out _ (((((((hm.drew hd1).drew hd2).drew hd3).drew hd4).drew hd5).drew hd6).drew hd7)).mono ?_
            rintro e w9 ⟨rfl, hd9⟩
            go_wp2
            go_ret
            exact ⟨rfl, Drew.below _ (((((((hd1.trans hd2).trans hd3).trans hd4).trans hd5).trans hd6).trans hd7).trans hd9)⟩
          · skip
            have hv : v = -1 := by omega
            subst hv
            clear hne heq q4 q5 t1 rw_ ry
            go_enter Try.func4, Try.ntmps4
            go_wp2_with fail
            with_reducible refine (HLa.out _).mono ?_
            rintro e w' ⟨rfl, rfl⟩
            go_wp2_with fail
            with_reducible refine (HLb.out _).mono ?_
            rintro e w' ⟨rfl, rfl⟩
            go_wp2_with fail
            with_reducible refine (HLc.out _).mono ?_
            rintro e w' ⟨rfl, rfl⟩
            go_wp2_with fail
            with_reducible refine (HVa.out _ g0 hm).mono ?_
            rintro e w1 ⟨rfl, hd1⟩
            go_wp2_with fail
            with_reducible refine (HVb.out _ g1 (hm.drew hd1)).mono ?_
            rintro e w2 ⟨rfl, hd2⟩
            go_wp2_with fail
            with_reducible refine (HVc.out _ g2 ((hm.drew hd1).drew hd2)).mono ?_
            rintro e w3 ⟨rfl, hd3⟩
            go_wp2_with fail
            with_reducible refine (HC0.out _ (((hm.drew hd1).drew hd2).drew hd3)).mono ?_
            rintro e w4 ⟨rfl, hd4⟩
            go_wp2_with fail
            with_reducible refine (HC1.out _ ((((hm.drew hd1).drew hd2).drew hd3).drew hd4)).mono ?_
            rintro e w5 ⟨rfl, hd5⟩
            go_wp2_with fail
            with_reducible refine (HC2.out _ (((((hm.drew hd1).drew hd2).drew hd3).drew hd4).drew hd5)).mono ?_
            rintro e w6 ⟨rfl, hd6⟩
            go_wp2_with fail
            with_reducible refine (HC3.out _ ((((((hm.drew hd1).drew hd2).drew hd3).drew hd4).drew hd5).drew hd6)).mono ?_
            rintro e w7 ⟨rfl, hd7⟩
            go_wp2_with fail
            with_reducible refine (HAw.out _ (((((((hm.drew hd1).drew hd2).drew hd3).drew hd4).drew hd5).drew hd6).drew hd7)).mono ?_
            rintro e w9 ⟨rfl, hd9⟩
            go_wp2
            go_ret
            exact ⟨rfl, Drew.below _ (((((((hd1.trans hd2).trans hd3).trans hd4).trans hd5).trans hd6).trans hd7).trans hd9)⟩
          · skip
            clear hne heq q4 q5 t1 rw_ ry
            go_enter Try.func4, Try.ntmps4
            go_wp2_with fail
            with_reducible refine (HLa.out _).mono ?_
            rintro e w' ⟨rfl, rfl⟩
            go_wp2_with fail
            with_reducible refine (HLb.out _).mono ?_
            rintro e w' ⟨rfl, rfl⟩
            go_wp2_with fail
            with_reducible refine (HLc.out _).mono ?_
            rintro e w' ⟨rfl, rfl⟩
            go_wp2_with fail
            with_reducible refine (HVa.out _ g0 hm).mono ?_
            rintro e w1 ⟨rfl, hd1⟩
            go_wp2_with fail
            with_reducible refine (HVb.out _ g1 (hm.drew hd1)).mono ?_
            rintro e w2 ⟨rfl, hd2⟩
            go_wp2_with fail
            with_reducible refine (HVc.out _ g2 ((hm.drew hd1).drew hd2)).mono ?_
            rintro e w3 ⟨rfl, hd3⟩
            go_wp2_with fail
            with_reducible refine (HC0.out _ (((hm.drew hd1).drew hd2).drew hd3)).mono ?_
            rintro e w4 ⟨rfl, hd4⟩
            go_wp2_with fail
            with_reducible refine (HC1.out _ ((((hm.drew hd1).drew hd2).drew hd3).drew hd4)).mono ?_
            rintro e w5 ⟨rfl, hd5⟩
            go_wp2_with fail
            with_reducible refine (HC2.out _ (((((hm.drew hd1).drew hd2).drew hd3).drew hd4).drew hd5)).mono ?_
            rintro e w6 ⟨rfl, hd6⟩
            go_wp2_with fail
            with_reducible refine (HC3.out _ ((((((hm.drew hd1).drew hd2).drew hd3).drew hd4).drew hd5).drew hd6)).mono ?_
            rintro e w7 ⟨rfl, hd7⟩
            go_wp2_with fail
            with_reducible refine (HAw.out _ (((((((hm.drew hd1).drew hd2).drew hd3).drew hd4).drew hd5).drew hd6).drew hd7)).mono ?_
            rintro e w9 ⟨rfl, hd9⟩
            go_wp2
            go_ret
            exact ⟨rfl, Drew.below _ (((((((hd1.trans hd2).trans hd3).trans hd4).trans hd5).trans hd6).trans hd7).trans hd9)⟩
        · have hy : y = 0 := by omega
          have hv : v = z := q5 rfl
          obtain rfl : a0 = a1 := heq rfl
          subst hy hv
          rcases rz with rfl | rfl | rfl
          · skip
            clear hne heq q4 q5 t1 rw_ ry
            go_enter Try.func4, Try.ntmps4
            go_wp2_with fail
            with_reducible refine (HLa.out _).mono ?_
            rintro e w' ⟨rfl, rfl⟩
            go_wp2_with fail
            with_reducible refine (HLb.out _).mono ?_
            rintro e w' ⟨rfl, rfl⟩
            go_wp2_with fail
            with_reducible refine (HLc.out _).mono ?_
            rintro e w' ⟨rfl, rfl⟩
            go_wp2_with fail
            with_reducible refine (HVa.out _ g0 hm).mono ?_
            rintro e w1 ⟨rfl, hd1⟩
            go_wp2_with fail
            with_reducible refine (HVb.out _ g1 (hm.drew hd1)).mono ?_
            rintro e w2 ⟨rfl, hd2⟩
            go_wp2_with fail
            with_reducible refine (HVc.out _ g2 ((hm.drew hd1).drew hd2)).mono ?_
            rintro e w3 ⟨rfl, hd3⟩
            go_wp2_with fail
            with_reducible refine (HC0.out _ (((hm.drew hd1).drew hd2).drew hd3)).mono ?_
            rintro e w4 ⟨rfl, hd4⟩
            go_wp2_with fail
            with_reducible refine (HC1.out _ ((((hm.drew hd1).drew hd2).drew hd3).drew hd4)).mono ?_
            rintro e w5 ⟨rfl, hd5⟩
            go_wp2_with fail
            with_reducible refine (HC2.out _ (((((hm.drew hd1).drew hd2).drew hd3).drew hd4).drew hd5)).mono ?_
            rintro e w6 ⟨rfl, hd6⟩
            go_wp2_with fail
            with_reducible refine (HC3.out _ ((((((hm.drew hd1).drew hd2).drew hd3).drew hd4).drew hd5).drew hd6)).mono ?_
            rintro e w7 ⟨rfl, hd7⟩
            go_wp2_with fail
            with_reducible refine (HAw.out _ (((((((hm.drew hd1).drew hd2).drew hd3).drew hd4).drew hd5).drew hd6).drew hd7)).mono ?_
            rintro e w9 ⟨rfl, hd9⟩
            go_wp2
            go_ret
            exact ⟨rfl, Drew.below _ (((((((hd1.trans hd2).trans hd3).trans hd4).trans hd5).trans hd6).trans hd7).trans hd9)⟩
          · skip
            clear hne heq q4 q5 t1 rw_ ry
            go_enter Try.func4, Try.ntmps4
            go_wp2_with fail
            with_reducible refine (HLa.out _).mono ?_
            rintro e w' ⟨rfl, rfl⟩
            go_wp2_with fail
            with_reducible refine (HLb.out _).mono ?_
            rintro e w' ⟨rfl, rfl⟩
            go_wp2_with fail
            with_reducible refine (HLc.out _).mono ?_
            rintro e w' ⟨rfl, rfl⟩
            go_wp2_with fail
            with_reducible refine (HVa.out _ g0 hm).mono ?_
            rintro e w1 ⟨rfl, hd1⟩
            go_wp2_with fail
            with_reducible refine (HVb.out _ g1 (hm.drew hd1)).mono ?_
            rintro e w2 ⟨rfl, hd2⟩
            go_wp2_with fail
            with_reducible refine (HVc.out _ g2 ((hm.drew hd1).drew hd2)).mono ?_
            rintro e w3 ⟨rfl, hd3⟩
            go_wp2_with fail
            with_reducible refine (HC0.out _ (((hm.drew hd1).drew hd2).drew hd3)).mono ?_
            rintro e w4 ⟨rfl, hd4⟩
            go_wp2_with fail
            with_reducible refine (HC1.out _ ((((hm.drew hd1).drew hd2).drew hd3).drew hd4)).mono ?_
            rintro e w5 ⟨rfl, hd5⟩
            go_wp2_with fail
            with_reducible refine (HC2.out _ (((((hm.drew hd1).drew hd2).drew hd3).drew hd4).drew hd5)).mono ?_
            rintro e w6 ⟨rfl, hd6⟩
            go_wp2_with fail
            with_reducible refine (HC3.out _ ((((((hm.drew hd1).drew hd2).drew hd3).drew hd4).drew hd5).drew hd6)).mono ?_
            rintro e w7 ⟨rfl, hd7⟩
            go_wp2_with fail
            with_reducible refine (HAw.out _ (((((((hm.drew hd1).drew hd2).drew hd3).drew hd4).drew hd5).drew hd6).drew hd7)).mono ?_
            rintro e w9 ⟨rfl, hd9⟩
            go_wp2
            go_ret
            exact ⟨rfl, Drew.below _ (((((((hd1.trans hd2).trans hd3).trans hd4).trans hd5).trans hd6).trans hd7).trans hd9)⟩
          · skip
            clear hne heq q4 q5 t1 rw_ ry
            go_enter Try.func4, Try.ntmps4
            go_wp2_with fail
            with_reducible refine (HLa.out _).mono ?_
            rintro e w' ⟨rfl, rfl⟩
            go_wp2_with fail
            with_reducible refine (HLb.out _).mono ?_
            rintro e w' ⟨rfl, rfl⟩
            go_wp2_with fail
            with_reducible refine (HLc.out _).mono ?_
            rintro e w' ⟨rfl, rfl⟩
            go_wp2_with fail
            with_reducible refine (HVa.out _ g0 hm).mono ?_
            rintro e w1 ⟨rfl, hd1⟩
            go_wp2_with fail
            with_reducible refine (HVb.out _ g1 (hm.drew hd1)).mono ?_
            rintro e w2 ⟨rfl, hd2⟩
            go_wp2_with fail
            with_reducible refine (HVc.out _ g2 ((hm.drew hd1).drew hd2)).mono ?_
            rintro e w3 ⟨rfl, hd3⟩
            go_wp2_with fail
            with_reducible refine (HC0.out _ (((hm.drew hd1).drew hd2).drew hd3)).mono ?_
            rintro e w4 ⟨rfl, hd4⟩
            go_wp2_with fail
            with_reducible refine (HC1.out _ ((((hm.drew hd1).drew hd2).drew hd3).drew hd4)).mono ?_
            rintro e w5 ⟨rfl, hd5⟩
            go_wp2_with fail
            with_reducible refine (HC2.out _ (((((hm.drew hd1).drew hd2).drew hd3).drew hd4).drew hd5)).mono ?_
            rintro e w6 ⟨rfl, hd6⟩
            go_wp2_with fail
            with_reducible refine (HC3.out _ ((((((hm.drew hd1).drew hd2).drew hd3).drew hd4).drew hd5).drew hd6)).mono ?_
            rintro e w7 ⟨rfl, hd7⟩
            go_wp2_with fail
            with_reducible refine (HAw.out _ (((((((hm.drew hd1).drew hd2).drew hd3).drew hd4).drew hd5).drew hd6).drew hd7)).mono ?_
            rintro e w9 ⟨rfl, hd9⟩
            go_wp2
            go_ret
            exact ⟨rfl, Drew.below _ (((((((hd1.trans hd2).trans hd3).trans hd4).trans hd5).trans hd6).trans hd7).trans hd9)⟩
        · have hy : y = -1 := by omega
          have ha : (a0.toList == a1.toList) = false := by rw [beq_eq_false_iff_ne, Lib.toList_data, Lib.toList_data]; exact fun h => hne (by omega) (ba_ext h)
          subst hy
          clear hne heq q4 q5 t1 rw_ ry rz
          go_enter Try.func4, Try.ntmps4
          go_wp2_with fail
          with_reducible refine (HLa.out _).mono ?_
          rintro e w' ⟨rfl, rfl⟩
          go_wp2_with fail
          with_reducible refine (HLb.out _).mono ?_
          rintro e w' ⟨rfl, rfl⟩
          go_wp2_with fail
          with_reducible refine (HLc.out _).mono ?_
          rintro e w' ⟨rfl, rfl⟩
          go_wp2_with fail
          with_reducible refine (HVa.out _ g0 hm).mono ?_
          rintro e w1 ⟨rfl, hd1⟩
          go_wp2_with fail
          with_reducible refine (HVb.out _ g1 (hm.drew hd1)).mono ?_
          rintro e w2 ⟨rfl, hd2⟩
          go_wp2_with fail
          with_reducible refine (HVc.out _ g2 ((hm.drew hd1).drew hd2)).mono ?_
          rintro e w3 ⟨rfl, hd3⟩
          go_wp2_with fail
          with_reducible refine (HC0.out _ (((hm.drew hd1).drew hd2).drew hd3)).mono ?_
          rintro e w4 ⟨rfl, hd4⟩
          go_wp2_with fail
          with_reducible refine (HC1.out _ ((((hm.drew hd1).drew hd2).drew hd3).drew hd4)).mono ?_
          rintro e w5 ⟨rfl, hd5⟩
          go_wp2_with fail
          with_reducible refine (HC2.out _ (((((hm.drew hd1).drew hd2).drew hd3).drew hd4).drew hd5)).mono ?_
          rintro e w6 ⟨rfl, hd6⟩
          go_wp2_with fail
          with_reducible refine (HC3.out _ ((((((hm.drew hd1).drew hd2).drew hd3).drew hd4).drew hd5).drew hd6)).mono ?_
          rintro e w7 ⟨rfl, hd7⟩
          go_wp2_with fail
          with_reducible refine (HAw.out _ (((((((hm.drew hd1).drew hd2).drew hd3).drew hd4).drew hd5).drew hd6).drew hd7)).mono ?_
          rintro e w9 ⟨rfl, hd9⟩
          go_wp2
          go_ret
          exact ⟨rfl, Drew.below _ (((((((hd1.trans hd2).trans hd3).trans hd4).trans hd5).trans hd6).trans hd7).trans hd9)⟩

set_option maxRecDepth 100000 in
theorem lifted (os : Os) (started : os.Started) (H : Type) (enc : TypeId × Value → H) :
    ReturnsInHanded {} Try.checked os 4 .any (Rows.pathOrdersSpec.pre6 enc Try.prog Try.f4 Rows.pathOrdersRow.domain false) (Rows.pathOrdersSpec.post enc Try.prog Try.f4 false true false false) := by
  refine returnsInHanded_of_change_shaped (C := Try.checked) own started (by kernel_rfl) Try.func4
    (ChangeSpec.witness6 (enc := enc) (C := Try.checked) false ⟨#[], #[.string ByteArray.empty, .string ByteArray.empty, .string ByteArray.empty], []⟩ 8 (by kernel_rfl) (by kernel_rfl) (by kernel_rfl) (by kernel_rfl)) ?_
  intro W base args ds gs before hval0 hW hcnd _ hsh _
  have hval : ∀ (j : Nat) t v, Try.f4.params[j]? = some t → args[j]? = some v → Value.okWide Try.prog W .any base t v := hval0
  have hW' := hW
  obtain ⟨p, q, hA0, hV, rfl, hfz, hnd⟩ := hW
  have hA : DataW.TrodAll enc Try.prog W 0 (fun _ => true) true Try.f4.params.toList args.toList ds p := hA0
  rw [Try.params4] at hA hval
  obtain ⟨v0, vs0, d0, ds0, p0, q0, hargs, rfl, rfl, h0, r0⟩ := trodAll_cons hA
  obtain ⟨v1, vs1, d1, ds1, p1, q1, rfl, rfl, rfl, h1, r1⟩ := trodAll_cons r0
  obtain ⟨v2, vs2, d2, ds2, p2, q2, rfl, rfl, rfl, h2, r2⟩ := trodAll_cons r1
  obtain ⟨rfl, rfl, rfl⟩ := trodAll_nil r2
  obtain rfl : args = #[v0, v1, v2] := by cases args; simp_all
  obtain ⟨rfl, rfl⟩ := trodVars_none hV
  obtain ⟨a0, rfl, rfl, rfl, w0⟩ := open_string Try.underlying9 (hval 0 9 v0 rfl rfl) h0
  obtain ⟨a1, rfl, rfl, rfl, w1⟩ := open_string Try.underlying9 (hval 1 9 v1 rfl rfl) h1
  obtain ⟨a2, rfl, rfl, rfl, w2⟩ := open_string Try.underlying9 (hval 2 9 v2 rfl rfl) h2
  clear hA0 hval0
  simp only [List.append_nil] at hW'
  refine (walk a0 a1 a2 w0 w1 w2 W (maxl_of W hsh)).mono fun e W' ⟨he, hg⟩ => ?_
  subst he
  exact ⟨_, rfl, _, _, _, [], [], [], hW', trodAll_mk1 (shut_bool Try.underlying4 _), (trodAll_cons_mk (shut_string Try.underlying9 w0) (trodAll_cons_mk (shut_string Try.underlying9 w1) (trodAll_cons_mk (shut_string Try.underlying9 w2) trodAll_mk0))), rfl, hg.frame _, fun h => by cases h⟩

theorem over : Rows.pathOrdersRow.holds Try.pinned (OpenSpec.ofChange Rows.pathOrdersSpec) :=
  OpenClaim.holds_of_wide 4 Try.f4 rfl rfl rfl rfl rfl rfl rfl ⟨rfl, rfl, rfl, rfl, rfl⟩ rfl rfl rfl rfl rfl (by kernel_rfl) Try.func4 (by kernel_rfl)
    (of_decide_eq_true (by kernel_rfl)) (by unfold Func.isWrapper; first | (rw [if_pos (by decide +kernel)]; kernel_rfl) | (rw [if_neg (by decide +kernel)]; exact ⟨rfl, rfl⟩))
    (fun os started H enc _ => lifted os started H enc)

theorem proved : Rows.PathOrdersSaid :=
  over
#print axioms proved
end Go.Proofs.Ytldlakafgjijnaa.pathOrders
