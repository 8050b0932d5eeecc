/- The contracts of the program's formOf, areParts, Check. -/
import Derived.Test.YthgcnlhlhipllaaGreatDoorPatFn2
import Derived.Test.YthgcnlhlhipllaaGreatDoorMathAll
namespace Go.Proofs.YthgcnlhlhipllaaGreatDoor
open Go.RowKit

theorem cuts_any (s p : ByteArray) (w : World) (hs : s.size ≤ maxLen) :
    Calls Tryz.prog 175 #[.string s, .string p] w fun e w' => e = .returned (.tuple #[.string ⟨(Lib.trimSuffix s.data.toList p.data.toList).toArray⟩, .bool (Lib.hasSuffix s.data.toList p.data.toList)]) ∧ w = w' := by
  unfold maxLen at hs
  refine (Tryz.strings_CutSuffix s p w (by omega)).mono ?_
  rintro e w' ⟨rfl, rfl⟩
  exact ⟨rfl, rfl⟩
theorem triml_any (s : ByteArray) (w : World) :
    Calls Tryz.prog 145 #[.string s, .string ⟨#[46]⟩] w fun e w' => e = .returned (.string ⟨(Lib.trimLeftB s.data.toList 46).toArray⟩) ∧ w = w' := by
  refine (Tryz.strings_TrimLeft_one s 46 (by decide) w).mono ?_
  rintro e w' ⟨rfl, rfl⟩
  exact ⟨rfl, rfl⟩

theorem formOf_any (s : ByteArray) (w : World) (hs : s.size ≤ maxLen) : Calls Tryz.prog 97 #[.string s] w fun e w' => e = .returned (.int .i64 (Pt.formN s.data.toList : Int)) ∧ w = w' := by
  have HP := Lib.hid (fun w : World => cutp_any s ⟨#[42]⟩ w)
  have e0 : (ByteArray.mk #[42]).data.toList = [42] := rfl
  rw [e0] at HP
  clear e0
  cases hp : Lib.hasPrefix s.data.toList [42] with
  | false =>
    have hf := Pt.form_plain hp
    have ht : Lib.trimPrefix s.data.toList [42] = s.data.toList := by unfold Lib.trimPrefix; rw [hp]; rfl
    rw [hp, ht] at HP
    have HC := Lib.hid (fun w : World => comp_any s w hs)
    rw [hf]
    generalize Pm.comp s.data.toList = c at HC
    clear hp ht hf hs
    cases c with
    | false =>
      go_enter Tryz.func97, Tryz.ntmps97
      go_wp2_with fail
      with_reducible refine (HP.out _).mono ?_
      rintro e w' ⟨rfl, rfl⟩
      go_wp2_with fail
      with_reducible refine (HC.out _).mono ?_
      rintro e w' ⟨rfl, rfl⟩
      go_wp2
      go_ret
      exact ⟨rfl, rfl⟩
    | true =>
      go_enter Tryz.func97, Tryz.ntmps97
      go_wp2_with fail
      with_reducible refine (HP.out _).mono ?_
      rintro e w' ⟨rfl, rfl⟩
      go_wp2_with fail
      with_reducible refine (HC.out _).mono ?_
      rintro e w' ⟨rfl, rfl⟩
      go_wp2
      go_ret
      exact ⟨rfl, rfl⟩
  | true =>
    have hx := Pt.prefix_cons hp
    have ht : Lib.trimPrefix s.data.toList [42] = s.data.toList.drop 1 := by unfold Lib.trimPrefix; rw [hp]; rfl
    rw [hp, ht] at HP
    have hf : Pt.formN s.data.toList = if (s.data.toList.drop 1).all Pm.nb = true then 2 else 0 := by rw [hx, Pt.form_star]; rfl
    have hl : (s.data.toList.drop 1).length ≤ maxLen := by
      rw [List.length_drop, ← Lib.size_eq]
      omega
    rw [hf]
    generalize s.data.toList.drop 1 = r at HP hl
    have HT := Lib.hid (fun w : World => triml_any ⟨r.toArray⟩ w)
    have e1 : (ByteArray.mk r.toArray).data.toList = r := rfl
    rw [e1] at HT
    have hn := Pt.trim_nb r
    have hl2 : (Lib.trimLeftB r 46).length ≤ maxLen := Nat.le_trans (Pt.trim_len r) hl
    generalize Lib.trimLeftB r 46 = t at HT hn hl2
    obtain ⟨T, hT⟩ : ∃ T : ByteArray, T = ⟨t.toArray⟩ := ⟨_, rfl⟩
    have hTd : T.data.toList = t := by rw [hT]
    rw [← hT] at HT
    have HC := Lib.hid (fun w : World => comp_any T w (by rw [Lib.size_eq, hTd]; exact hl2))
    rw [hTd] at HC
    generalize List.all r Pm.nb = v at hn
    clear hp ht hf hs e1 hl hl2 hx hT
    by_cases h0 : t = []
    · have hv : v = true := hn.1 (.inl h0)
      subst hv
      have t1 : T.toList = [] := by rw [Lib.toList_data, hTd, h0]
      have t2 : (!T.toList.isEmpty) = false := by rw [t1]; rfl
      have t3 : T.toList.isEmpty = true := by rw [t1]; rfl
      clear hn h0 hTd
      go_enter Tryz.func97, Tryz.ntmps97
      go_wp2_with fail
      with_reducible refine (HP.out _).mono ?_
      rintro e w' ⟨rfl, rfl⟩
      go_wp2_with fail
      with_reducible refine (HT.out _).mono ?_
      rintro e w' ⟨rfl, rfl⟩
      go_wp2
      go_ret
      exact ⟨rfl, rfl⟩
    · have h1 : T.toList ≠ [] := by rw [Lib.toList_data, hTd]; exact h0
      have t3 : T.toList.isEmpty = false := by simpa using h1
      have t2 : (!T.toList.isEmpty) = true := by rw [t3]; rfl
      have hv : v = Pm.comp t := by
        have := hn
        cases v with
        | false =>
          cases hc : Pm.comp t with
          | false => rfl
          | true => exact absurd (hn.1 (.inr hc)) (by simp)
        | true =>
          rcases hn.2 rfl with h | h
          · exact absurd h h0
          · exact h.symm
      rw [hv]
      generalize Pm.comp t = c at HC
      clear hn h0 hTd hv
      cases c with
      | false =>
        go_enter Tryz.func97, Tryz.ntmps97
        go_wp2_with fail
        with_reducible refine (HP.out _).mono ?_
        rintro e w' ⟨rfl, rfl⟩
        go_wp2_with fail
        with_reducible refine (HT.out _).mono ?_
        rintro e w' ⟨rfl, rfl⟩
        go_wp2_with fail
        with_reducible refine (HC.out _).mono ?_
        rintro e w' ⟨rfl, rfl⟩
        go_wp2
        go_ret
        exact ⟨rfl, rfl⟩
      | true =>
        go_enter Tryz.func97, Tryz.ntmps97
        go_wp2_with fail
        with_reducible refine (HP.out _).mono ?_
        rintro e w' ⟨rfl, rfl⟩
        go_wp2_with fail
        with_reducible refine (HT.out _).mono ?_
        rintro e w' ⟨rfl, rfl⟩
        go_wp2_with fail
        with_reducible refine (HC.out _).mono ?_
        rintro e w' ⟨rfl, rfl⟩
        go_wp2
        go_ret
        exact ⟨rfl, rfl⟩

theorem formN_int (x : List UInt8) : (((Pt.formN x : Int) == 0) = !Pt.part x) := by
  rw [Pt.part_form]
  rcases Pt.form_le x with h | h | h <;> rw [h] <;> rfl

theorem areParts_any (A : Option Addr) (xs : List ByteArray) (c : Nat) (w : World) (hr : RdS w w.heap.size A xs) (hc : xs.length ≤ c) (hcm : c ≤ maxLen) (hx : ∀ x ∈ xs, x.size ≤ maxLen) :
    Calls Tryz.prog 98 #[.slice A xs.length c] w fun e w' => e = .returned (.bool ((bs xs).all Pt.part)) ∧ w = w' := by
  unfold maxLen at hcm
  have HX := Lib.hid hx
  have HR := Lib.hid hr
  have HA := Lib.hid (show ((bs xs).drop 0).all Pt.part = (bs xs).all Pt.part by simp)
  generalize (bs xs).all Pt.part = b at HA ⊢
  obtain ⟨n, hn⟩ : ∃ n, n = xs.length := ⟨_, rfl⟩
  rw [← hn] at hc ⊢
  have HN := Lib.hid hn
  have hnm : (n : Int) ≤ 9223372036854775807 := by omega
  clear hn hr hx
  go_enter Tryz.func98, Tryz.ntmps98
  go_wp2
  go_loop [7] (fun i => ∃ k : Nat, k ≤ n ∧ i = .int .i64 k ∧ ((bs xs).drop k).all Pt.part = b) (fun i => n - (intOf i).toNat)
  case atStart => exact ⟨0, by omega, rfl, HA.out⟩
  case round =>
    obtain ⟨k, hkn, rfl, hall⟩ := hrel
    have HB := Lib.hid hall
    clear hall
    by_cases hlt : k < n
    · have hlx : k < xs.length := by rw [← HN.out]; exact hlt
      obtain ⟨g, o, rfl, hg, hcell0⟩ := HR.out.cells (by omega)
      have hcell := hcell0 k hlx
      have hsz : xs[k].size ≤ maxLen := HX.out _ (List.getElem_mem hlx)
      have HD := Lib.hid (part_drop hlx)
      clear hcell0
      generalize xs[k] = x at hcell hsz HD
      have HF := Lib.hid (fun w : World => formOf_any x w hsz)
      have hz := formN_int x.data.toList
      clear hsz
      cases hv : Pt.part x.data.toList with
      | true =>
        rw [hv] at HD hz
        generalize Pt.formN x.data.toList = f at HF hz
        go_wp2_with fail
        with_reducible refine (HF.out _).mono ?_
        rintro e w' ⟨rfl, rfl⟩
        go_wp2
        go_round
        case rel => exact ⟨k + 1, by omega, by go_num, by have := HD.out; rw [HB.out] at this; simpa using this.symm⟩
        case measure => simp [intOf]; omega
      | false =>
        rw [hv] at HD hz
        have hb : b = false := by have := HD.out; rw [HB.out] at this; simpa using this
        subst hb
        generalize Pt.formN x.data.toList = f at HF hz
        go_wp2_with fail
        with_reducible refine (HF.out _).mono ?_
        rintro e w' ⟨rfl, rfl⟩
        go_wp2
        go_ret
        exact ⟨rfl, rfl⟩
    · have hb : b = true := by
        rw [← HB.out, List.drop_of_length_le (by rw [bs_length, ← HN.out]; omega)]
        rfl
      subst hb
      go_wp2
      go_ret
      exact ⟨rfl, rfl⟩
end Go.Proofs.YthgcnlhlhipllaaGreatDoor
