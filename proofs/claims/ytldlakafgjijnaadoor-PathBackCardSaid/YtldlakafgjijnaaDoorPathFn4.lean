/- The contracts of Compare, Under, long, awake. -/
import Derived.Test.YtldlakafgjijnaaDoorPathFn3
namespace Go.Proofs.YtldlakafgjijnaaDoor
open Go.RowKit

def Gives2 (w : World) (x : Int) (n : Nat) (e : Ending) (w' : World) : Prop := e = .returned (.tuple #[.int .i64 x, .int .i64 (n : Int)]) ∧ Drew w w'
def GivesB2 (w : World) (x : Bool) (n : Nat) (e : Ending) (w' : World) : Prop := e = .returned (.tuple #[.bool x, .int .i64 (n : Int)]) ∧ Drew w w'
def cmpVal (a b : List UInt8) : Int := if Pm.valid a && Pm.valid b then Pm.ord a b else 0
def cmpErr (a b : List UInt8) : Nat := if Pm.valid a && Pm.valid b then 0 else 20

theorem cmp_any (a b : ByteArray) (w : World) (ha : a.size < 4294967281) (hb : b.size < 4294967281) (hm : MaxL w) :
    Calls Tryd.prog 22 #[.string a, .string b] w (Gives2 w (cmpVal a.data.toList b.data.toList) (cmpErr a.data.toList b.data.toList)) := by
  have HVa := Lib.hid (fun (w : World) (hm : MaxL w) => valid_any a w ha hm)
  have HVb := Lib.hid (fun (w : World) (hm : MaxL w) => valid_any b w hb hm)
  have HO := Lib.hid (fun (w : World) => order_any a b w (by unfold maxLen; omega))
  unfold cmpVal cmpErr
  generalize Pm.ord a.data.toList b.data.toList = o at HO
  generalize Pm.valid a.data.toList = va at HVa
  generalize Pm.valid b.data.toList = vb at HVb
  cases va with
  | false =>
    go_enter Tryd.func22, Tryd.ntmps22
    go_wp2_with fail
    with_reducible refine (HVa.out _ hm).mono ?_
    rintro e w1 ⟨rfl, hd1⟩
    go_wp2
    go_ret2
    exact ⟨rfl, hd1⟩
  | true =>
    cases vb with
    | false =>
      go_enter Tryd.func22, Tryd.ntmps22
      go_wp2_with fail
      with_reducible refine (HVa.out _ hm).mono ?_
      rintro e w1 ⟨rfl, hd1⟩
      go_wp2_with fail
      with_reducible refine (HVb.out _ (hm.drew hd1)).mono ?_
      rintro e w2 ⟨rfl, hd2⟩
      go_wp2
      go_ret2
      exact ⟨rfl, hd1.trans hd2⟩
    | true =>
      go_enter Tryd.func22, Tryd.ntmps22
      go_wp2_with fail
      with_reducible refine (HVa.out _ hm).mono ?_
      rintro e w1 ⟨rfl, hd1⟩
      go_wp2_with fail
      with_reducible refine (HVb.out _ (hm.drew hd1)).mono ?_
      rintro e w2 ⟨rfl, hd2⟩
      go_wp2_with fail
      with_reducible refine (HO.out _).mono ?_
      rintro e w3 ⟨rfl, hd3⟩
      go_wp2
      go_ret2
      exact ⟨rfl, (hd1.trans hd2).trans hd3⟩

def underErr (d p : List UInt8) : Nat := if Pm.depth d ≠ 0 ∧ Pm.valid p = true then 0 else 20
def underVal (d p : List UInt8) : Bool := decide (Pm.depth d ≠ 0 ∧ Pm.valid p = true) && Pm.under d p

theorem under_any (d p : ByteArray) (w : World) (hd : d.size < 4294967281) (hp : p.size < 4294967281) (hm : MaxL w) :
    Calls Tryd.prog 24 #[.string d, .string p] w (GivesB2 w (underVal d.data.toList p.data.toList) (underErr d.data.toList p.data.toList)) := by
  have HD := Lib.hid (depth_any d w hd hm)
  have HV := Lib.hid (fun (w : World) (hm : MaxL w) => valid_any p w hp hm)
  have HT := Lib.hid (Pm.trim_under d.data.toList p.data.toList)
  have HC := Lib.hid (fun (w : World) => cutp_any p d w)
  unfold underVal underErr
  unfold DepthRes at HD
  generalize Pm.depth d.data.toList = n at HD
  generalize Pm.valid p.data.toList = v at HV
  generalize Pm.under d.data.toList p.data.toList = u at HT
  generalize Lib.trimPrefix p.data.toList d.data.toList = r at HT HC
  generalize Lib.hasPrefix p.data.toList d.data.toList = f at HT HC
  by_cases hn : n = 0
  · subst hn
    go_enter Tryd.func24, Tryd.ntmps24
    go_wp2_with fail
    with_reducible refine HD.out.mono ?_
    rintro e w1 ⟨rfl, hd1⟩
    go_wp2
    go_ret2
    exact ⟨rfl, hd1⟩
  · have t1 : ((n : Int) == 0) = false := by rw [beq_eq_false_iff_ne]; omega
    cases v with
    | false =>
      have e1 : decide (n ≠ 0 ∧ false = true) = false := by simp
      have e2 : (if n ≠ 0 ∧ false = true then 0 else 20) = 20 := by simp
      rw [e1, e2]
      clear e1 e2
      go_enter Tryd.func24, Tryd.ntmps24
      go_wp2_with fail
      with_reducible refine HD.out.mono ?_
      rintro e w1 ⟨rfl, hd1⟩
      go_wp2_with fail
      with_reducible refine (HV.out _ (hm.drew hd1)).mono ?_
      rintro e w2 ⟨rfl, hd2⟩
      go_wp2
      go_ret2
      exact ⟨rfl, hd1.trans hd2⟩
    | true =>
      have e1 : decide (n ≠ 0 ∧ true = true) = true := by simp [hn]
      have e2 : (if n ≠ 0 ∧ true = true then 0 else 20) = 0 := by simp [hn]
      rw [e1, e2, Bool.true_and]
      clear e1 e2 hn
      cases f with
      | false =>
        have hu : u = false := by have := HT.out; simpa using this.symm
        subst hu
        go_enter Tryd.func24, Tryd.ntmps24
        go_wp2_with fail
        with_reducible refine HD.out.mono ?_
        rintro e w1 ⟨rfl, hd1⟩
        go_wp2_with fail
        with_reducible refine (HV.out _ (hm.drew hd1)).mono ?_
        rintro e w2 ⟨rfl, hd2⟩
        go_wp2_with fail
        with_reducible refine (HC.out _).mono ?_
        rintro e w3 ⟨rfl, rfl⟩
        go_wp2
        go_ret2
        exact ⟨rfl, hd1.trans hd2⟩
      | true =>
        cases r with
        | nil =>
          have hu : u = false := by have := HT.out; simpa using this.symm
          subst hu
          go_enter Tryd.func24, Tryd.ntmps24
          go_wp2_with fail
          with_reducible refine HD.out.mono ?_
          rintro e w1 ⟨rfl, hd1⟩
          go_wp2_with fail
          with_reducible refine (HV.out _ (hm.drew hd1)).mono ?_
          rintro e w2 ⟨rfl, hd2⟩
          go_wp2_with fail
          with_reducible refine (HC.out _).mono ?_
          rintro e w3 ⟨rfl, rfl⟩
          go_wp2
          go_ret2
          exact ⟨rfl, hd1.trans hd2⟩
        | cons c r =>
          have hu : u = (c == 47) := by have := HT.out; simpa using this.symm
          obtain ⟨R, hR⟩ : ∃ R : ByteArray, R = ⟨(c :: r).toArray⟩ := ⟨_, rfl⟩
          rw [← hR] at HC
          have hp0 : 0 < R.size := by rw [hR, size_mk]; simp
          have hc : R[0] = c := by subst hR; rfl
          have h1 : R.toList.isEmpty = false := by rw [Lib.toList_data, hR]; rfl
          have h2 : ¬ R.toList = [] := by rw [Lib.toList_data, hR]; simp
          have h3 : (!R.toList.isEmpty) = true := by rw [h1]; rfl
          clear hR HT
          by_cases h47 : c = 47
          · have hu2 : u = true := by rw [hu, h47]; rfl
            have t2 : ((R[0].toNat : Int) == 47) = true := by rw [hc, h47]; rfl
            clear hu hc h47
            subst hu2
            go_enter Tryd.func24, Tryd.ntmps24
            go_wp2_with fail
            with_reducible refine HD.out.mono ?_
            rintro e w1 ⟨rfl, hd1⟩
            go_wp2_with fail
            with_reducible refine (HV.out _ (hm.drew hd1)).mono ?_
            rintro e w2 ⟨rfl, hd2⟩
            go_wp2_with fail
            with_reducible refine (HC.out _).mono ?_
            rintro e w3 ⟨rfl, rfl⟩
            go_wp2
            go_ret2
            exact ⟨rfl, hd1.trans hd2⟩
          · have hu2 : u = false := by rw [hu]; simpa using h47
            have t2 : ((R[0].toNat : Int) == 47) = false := by
              rw [hc, beq_eq_false_iff_ne]
              intro h
              exact h47 (UInt8.toNat_inj.1 (by have : (47 : UInt8).toNat = 47 := rfl; omega))
            clear hu hc h47
            subst hu2
            go_enter Tryd.func24, Tryd.ntmps24
            go_wp2_with fail
            with_reducible refine HD.out.mono ?_
            rintro e w1 ⟨rfl, hd1⟩
            go_wp2_with fail
            with_reducible refine (HV.out _ (hm.drew hd1)).mono ?_
            rintro e w2 ⟨rfl, hd2⟩
            go_wp2_with fail
            with_reducible refine (HC.out _).mono ?_
            rintro e w3 ⟨rfl, rfl⟩
            go_wp2
            go_ret2
            exact ⟨rfl, hd1.trans hd2⟩

theorem long_any (s : ByteArray) (w : World) : Calls Tryd.prog 9 #[.string s] w fun e w' => e = .returned (.bool (decide (400 < s.size))) ∧ w = w' := by
  have H := Lib.hid (show decide (400 < s.size) = decide (400 < s.size) from rfl)
  go_enter Tryd.func9, Tryd.ntmps9
  go_wp2
  go_ret
  exact ⟨ret_bool (by rw [decide_eq_decide]; omega), rfl⟩

theorem cval : cmpVal [47, 47, 97, 47, 98] [47, 47, 97, 43, 47, 98] = -1 := by decide +kernel
theorem cerr : cmpErr [47, 47, 97, 47, 98] [47, 47, 97, 43, 47, 98] = 0 := by decide +kernel
theorem val1 : Pm.valid [47, 47, 97, 47, 98, 46, 112, 115, 100] = true := by decide +kernel
theorem val2 : Pm.valid [47, 47, 97] = false := by decide +kernel
theorem awake_any (w : World) (hm : MaxL w) : Calls Tryd.prog 10 #[] w (GivesB w true) := by
  have HC := Lib.hid (fun (w : World) (hm : MaxL w) => cmp_any ⟨#[47, 47, 97, 47, 98]⟩ ⟨#[47, 47, 97, 43, 47, 98]⟩ w (by decide) (by decide) hm)
  rw [cval, cerr] at HC
  have H1 := Lib.hid (fun (w : World) (hm : MaxL w) => valid_any ⟨#[47, 47, 97, 47, 98, 46, 112, 115, 100]⟩ w (by decide) hm)
  rw [val1] at H1
  have H2 := Lib.hid (fun (w : World) (hm : MaxL w) => valid_any ⟨#[47, 47, 97]⟩ w (by decide) hm)
  rw [val2] at H2
  go_enter Tryd.func10, Tryd.ntmps10
  go_wp2_with fail
  with_reducible refine (HC.out _ hm).mono ?_
  rintro e w1 ⟨rfl, hd1⟩
  go_wp2_with fail
  with_reducible refine (H1.out _ (hm.drew hd1)).mono ?_
  rintro e w2 ⟨rfl, hd2⟩
  go_wp2_with fail
  with_reducible refine (H2.out _ ((hm.drew hd1).drew hd2)).mono ?_
  rintro e w3 ⟨rfl, hd3⟩
  go_wp2
  go_ret
  exact ⟨rfl, (hd1.trans hd2).trans hd3⟩
end Go.Proofs.YtldlakafgjijnaaDoor
