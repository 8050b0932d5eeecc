/- The contracts of the program's formOf, areParts, Check. The contracts of the program's Check, Kinds, wildcards, textOf, Format, Literal. The contracts of the program's narrowing, narrowings. The contract of the program's Parse. -/
import Derived.Test.YtembmegllpkmfaaGreatDoorPatFnA
import Derived.Test.YtembmegllpkmfaaGreatDoorMathAll
import Derived.Test.YtembmegllpkmfaaGreatDoorPatFnB
namespace Go.Proofs.YtembmegllpkmfaaGreatDoor
open Go.RowKit

theorem cuts_any (s p : ByteArray) (w : World) (hs : s.size ≤ maxLen) :
    Calls Tryz.prog 154 #[.string s, .string p] w fun e w' => e = .returned (.tuple #[.string ⟨(Lib.trimSuffix s.data.toList p.data.toList).toArray⟩, .bool (Lib.hasSuffix s.data.toList p.data.toList)]) ∧ w = w' := by
  unfold maxLen at hs
  refine (Tryz.strings_CutSuffix s p w (by omega)).mono ?_
  rintro e w' ⟨rfl, rfl⟩
  exact ⟨rfl, rfl⟩
theorem triml_any (s : ByteArray) (w : World) :
    Calls Tryz.prog 137 #[.string s, .string ⟨#[46]⟩] w fun e w' => e = .returned (.string ⟨(Lib.trimLeftB s.data.toList 46).toArray⟩) ∧ w = w' := by
  refine (Tryz.strings_TrimLeft_one s 46 (by decide) w).mono ?_
  rintro e w' ⟨rfl, rfl⟩
  exact ⟨rfl, rfl⟩

theorem formOf_any (s : ByteArray) (w : World) (hs : s.size ≤ maxLen) : Calls Tryz.prog 106 #[.string s] w fun e w' => e = .returned (.int .i64 (Pt.formN s.data.toList : Int)) ∧ w = w' := by
  have HP := Lib.hid (fun w : World => cutp_any s ⟨#[42]⟩ w)
  have e0 : (ByteArray.mk #[42]).data.toList = [42] := rfl
  rw [e0] at HP
  clear e0
  cases hp : Lib.hasPrefix s.data.toList [42] with
  | false =>
    have hf := Pt.form_plain hp
    have ht : Lib.trimPrefix s.data.toList [42] = s.data.toList := by unfold Lib.trimPrefix; rw [hp]; rfl
    rw [hp, ht] at HP
    have HC := Lib.hid (fun w : World => comp_any s w hs)
    rw [hf]
    generalize Pm.comp s.data.toList = c at HC
    clear hp ht hf hs
    cases c with
    | false =>
      go_enter Tryz.func106, Tryz.ntmps106
      go_wp2_with fail
      with_reducible refine (HP.out _).mono ?_
      rintro e w' ⟨rfl, rfl⟩
      go_wp2_with fail
      with_reducible refine (HC.out _).mono ?_
      rintro e w' ⟨rfl, rfl⟩
      go_wp2
      go_ret
      exact ⟨rfl, rfl⟩
    | true =>
      go_enter Tryz.func106, Tryz.ntmps106
      go_wp2_with fail
      with_reducible refine (HP.out _).mono ?_
      rintro e w' ⟨rfl, rfl⟩
      go_wp2_with fail
      with_reducible refine (HC.out _).mono ?_
      rintro e w' ⟨rfl, rfl⟩
      go_wp2
      go_ret
      exact ⟨rfl, rfl⟩
  | true =>
    have hx := Pt.prefix_cons hp
    have ht : Lib.trimPrefix s.data.toList [42] = s.data.toList.drop 1 := by unfold Lib.trimPrefix; rw [hp]; rfl
    rw [hp, ht] at HP
    have hf : Pt.formN s.data.toList = if (s.data.toList.drop 1).all Pm.nb = true then 2 else 0 := by rw [hx, Pt.form_star]; rfl
    have hl : (s.data.toList.drop 1).length ≤ maxLen := by
      rw [List.length_drop, ← Lib.size_eq]
      omega
    rw [hf]
    generalize s.data.toList.drop 1 = r at HP hl
    have HT := Lib.hid (fun w : World => triml_any ⟨r.toArray⟩ w)
    have e1 : (ByteArray.mk r.toArray).data.toList = r := rfl
    rw [e1] at HT
    have hn := Pt.trim_nb r
    have hl2 : (Lib.trimLeftB r 46).length ≤ maxLen := Nat.le_trans (Pt.trim_len r) hl
    generalize Lib.trimLeftB r 46 = t at HT hn hl2
    obtain ⟨T, hT⟩ : ∃ T : ByteArray, T = ⟨t.toArray⟩ := ⟨_, rfl⟩
    have hTd : T.data.toList = t := by rw [hT]
    rw [← hT] at HT
    have HC := Lib.hid (fun w : World => comp_any T w (by rw [Lib.size_eq, hTd]; exact hl2))
    rw [hTd] at HC
    generalize List.all r Pm.nb = v at hn
    clear hp ht hf hs e1 hl hl2 hx hT
    by_cases h0 : t = []
    · have hv : v = true := hn.1 (.inl h0)
      subst hv
      have t1 : T.toList = [] := by rw [Lib.toList_data, hTd, h0]
      have t2 : (!T.toList.isEmpty) = false := by rw [t1]; rfl
      have t3 : T.toList.isEmpty = true := by rw [t1]; rfl
      clear hn h0 hTd
      go_enter Tryz.func106, Tryz.ntmps106
      go_wp2_with fail
      with_reducible refine (HP.out _).mono ?_
      rintro e w' ⟨rfl, rfl⟩
      go_wp2_with fail
      with_reducible refine (HT.out _).mono ?_
      rintro e w' ⟨rfl, rfl⟩
      go_wp2
      go_ret
      exact ⟨rfl, rfl⟩
    · have h1 : T.toList ≠ [] := by rw [Lib.toList_data, hTd]; exact h0
      have t3 : T.toList.isEmpty = false := by simpa using h1
      have t2 : (!T.toList.isEmpty) = true := by rw [t3]; rfl
      have hv : v = Pm.comp t := by
        have := hn
        cases v with
        | false =>
          cases hc : Pm.comp t with
          | false => rfl
          | true => exact absurd (hn.1 (.inr hc)) (by simp)
        | true =>
          rcases hn.2 rfl with h | h
          · exact absurd h h0
          · exact h.symm
      rw [hv]
      generalize Pm.comp t = c at HC
      clear hn h0 hTd hv
      cases c with
      | false =>
        go_enter Tryz.func106, Tryz.ntmps106
        go_wp2_with fail
        with_reducible refine (HP.out _).mono ?_
        rintro e w' ⟨rfl, rfl⟩
        go_wp2_with fail
        with_reducible refine (HT.out _).mono ?_
        rintro e w' ⟨rfl, rfl⟩
        go_wp2_with fail
        with_reducible refine (HC.out _).mono ?_
        rintro e w' ⟨rfl, rfl⟩
        go_wp2
        go_ret
        exact ⟨rfl, rfl⟩
      | true =>
        go_enter Tryz.func106, Tryz.ntmps106
        go_wp2_with fail
        with_reducible refine (HP.out _).mono ?_
        rintro e w' ⟨rfl, rfl⟩
        go_wp2_with fail
        with_reducible refine (HT.out _).mono ?_
        rintro e w' ⟨rfl, rfl⟩
        go_wp2_with fail
        with_reducible refine (HC.out _).mono ?_
        rintro e w' ⟨rfl, rfl⟩
        go_wp2
        go_ret
        exact ⟨rfl, rfl⟩

theorem formN_int (x : List UInt8) : (((Pt.formN x : Int) == 0) = !Pt.part x) := by
  rw [Pt.part_form]
  rcases Pt.form_le x with h | h | h <;> rw [h] <;> rfl

theorem areParts_any (A : Option Addr) (xs : List ByteArray) (c : Nat) (w : World) (hr : RdS w w.heap.size A xs) (hc : xs.length ≤ c) (hcm : c ≤ maxLen) (hx : ∀ x ∈ xs, x.size ≤ maxLen) :
    Calls Tryz.prog 107 #[.slice A xs.length c] w fun e w' => e = .returned (.bool ((bs xs).all Pt.part)) ∧ w = w' := by
  unfold maxLen at hcm
  have HX := Lib.hid hx
  have HR := Lib.hid hr
  have HA := Lib.hid (show ((bs xs).drop 0).all Pt.part = (bs xs).all Pt.part by simp)
  generalize (bs xs).all Pt.part = b at HA ⊢
  obtain ⟨n, hn⟩ : ∃ n, n = xs.length := ⟨_, rfl⟩
  rw [← hn] at hc ⊢
  have HN := Lib.hid hn
  have hnm : (n : Int) ≤ 9223372036854775807 := by omega
  clear hn hr hx
  go_enter Tryz.func107, Tryz.ntmps107
  go_wp2
  go_loop [7] (fun i => ∃ k : Nat, k ≤ n ∧ i = .int .i64 k ∧ ((bs xs).drop k).all Pt.part = b) (fun i => n - (intOf i).toNat)
  case atStart => exact ⟨0, by omega, rfl, HA.out⟩
  case round =>
    obtain ⟨k, hkn, rfl, hall⟩ := hrel
    have HB := Lib.hid hall
    clear hall
    by_cases hlt : k < n
    · have hlx : k < xs.length := by rw [← HN.out]; exact hlt
      obtain ⟨g, o, rfl, hg, hcell0⟩ := HR.out.cells (by omega)
      have hcell := hcell0 k hlx
      have hsz : xs[k].size ≤ maxLen := HX.out _ (List.getElem_mem hlx)
      have HD := Lib.hid (part_drop hlx)
      clear hcell0
      generalize xs[k] = x at hcell hsz HD
      have HF := Lib.hid (fun w : World => formOf_any x w hsz)
      have hz := formN_int x.data.toList
      clear hsz
      cases hv : Pt.part x.data.toList with
      | true =>
        rw [hv] at HD hz
        generalize Pt.formN x.data.toList = f at HF hz
        go_wp2_with fail
        with_reducible refine (HF.out _).mono ?_
        rintro e w' ⟨rfl, rfl⟩
        go_wp2
        go_round
        case rel => exact ⟨k + 1, by omega, by go_num, by have := HD.out; rw [HB.out] at this; simpa using this.symm⟩
        case measure => simp [intOf]; omega
      | false =>
        rw [hv] at HD hz
        have hb : b = false := by have := HD.out; rw [HB.out] at this; simpa using this
        subst hb
        generalize Pt.formN x.data.toList = f at HF hz
        go_wp2_with fail
        with_reducible refine (HF.out _).mono ?_
        rintro e w' ⟨rfl, rfl⟩
        go_wp2
        go_ret
        exact ⟨rfl, rfl⟩
    · have hb : b = true := by
        rw [← HB.out, List.drop_of_length_le (by rw [bs_length, ← HN.out]; omega)]
        rfl
      subst hb
      go_wp2
      go_ret
      exact ⟨rfl, rfl⟩
end Go.Proofs.YtembmegllpkmfaaGreatDoor

namespace Go.Proofs.YtembmegllpkmfaaGreatDoor
open Go.RowKit

theorem check_any (A : Option Addr) (xs : List ByteArray) (c : Nat) (b : Bool) (p : Pt.Pat) (w : World) (hp : PatR w A xs c b p) : Calls Tryz.prog 59 #[patV A xs.length c b] w (GivesN w (Pt.check p)) := by
  have hform : Pt.check p = if Pt.form p then (if p.parts.length ≤ 12 then 0 else 31) else 30 := rfl
  have hf : Pt.form p = ((decide (2 ≤ p.parts.length) || (decide (p.parts.length = 1) && p.rest)) && Pm.comp (p.parts.headD []) && p.parts.tail.all Pt.part) := rfl
  rw [hp.len, ← hp.rest, ← hp.parts] at hf
  rw [hp.len] at hform
  generalize Pt.check p = ck at hform
  generalize Pt.form p = fm at hf hform
  have hcm := hp.cm
  have hle := hp.le
  have hcmi : (c : Int) ≤ 9223372036854775807 := by unfold maxLen at hcm; omega
  have halloc : Below w.heap.size w (w.alloc (.cells #[.slice A xs.length c, .bool b] 24)) := (Below.refl _ _).alloc (Nat.le_refl _) _
  by_cases h0 : xs.length = 0
  · have hfm : fm = false := by rw [hf, h0]; simp
    subst hfm
    have hck : ck = 30 := by rw [hform]; rfl
    subst hck
    rw [h0]
    clear hf hform hp h0 hle halloc
    go_enter Tryz.func59, Tryz.ntmps59
    go_wp2
    go_ret
    exact ⟨rfl, (Below.refl _ _).alloc (Nat.le_refl _) _⟩
  · by_cases h1 : xs.length = 1 ∧ b = false
    · obtain ⟨h1, rfl⟩ := h1
      have hfm : fm = false := by rw [hf, h1]; simp
      subst hfm
      have hck : ck = 30 := by rw [hform]; rfl
      subst hck
      rw [h1]
      clear hf hform hp h0 h1 hle halloc
      go_enter Tryz.func59, Tryz.ntmps59
      go_wp2
      go_ret
      exact ⟨rfl, (Below.refl _ _).alloc (Nat.le_refl _) _⟩
    · have hcase : (xs.length = 1 ∧ b = true) ∨ ((xs.length : Int) == 1) = false := by
        by_cases h2 : xs.length = 1
        · left
          refine ⟨h2, ?_⟩
          cases b with
          | true => rfl
          | false => exact absurd ⟨h2, rfl⟩ h1
        · right
          rw [beq_eq_false_iff_ne]
          omega
      have HPA := Lib.hid (areParts_any A xs c (w.alloc (.cells #[.slice A xs.length c, .bool b] 24)) ((hp.rd.keep halloc).more halloc.size) hp.le hp.cm hp.sz)
      obtain ⟨g, o, hA, hg, hcell⟩ := hp.rd.cells (by omega)
      subst hA
      have hc0 := hcell 0 (by omega)
      rw [Nat.add_zero] at hc0
      have hsz0 := hp.sz _ (List.getElem_mem (show 0 < xs.length by omega))
      have HF0 := Lib.hid (fun w : World => formOf_any xs[0] w hsz0)
      rw [bs_head (by omega)] at hf
      have hlen2 : (decide (2 ≤ xs.length) || (decide (xs.length = 1) && b)) = true := by
        rcases hcase with ⟨h2, h3⟩ | h2
        · rw [h2, h3]
          rfl
        · rw [beq_eq_false_iff_ne] at h2
          rw [decide_eq_true (by omega : 2 ≤ xs.length)]
          rfl
      rw [hlen2, Bool.true_and] at hf
      have hall : (bs xs).all Pt.part = (Pt.part xs[0].data.toList && (bs xs).tail.all Pt.part) := by
        have := part_drop (xs := xs) (k := 0) (by omega)
        simpa using this
      generalize hb0 : xs[0] = x0 at *
      obtain ⟨n, hn⟩ : ∃ n, n = xs.length := ⟨_, rfl⟩
      rw [← hn] at h0 hform hle hcase HPA halloc ⊢
      have hn1 : ((n : Int) == 0) = false := by rw [beq_eq_false_iff_ne]; omega
      have hnc : (n : Int) ≤ (c : Int) := by omega
      have hn0 : (0 : Int) < (n : Int) := by omega
      have HAL := Lib.hid halloc
      clear hcell hp hsz0 hlen2 hn hb0 halloc h1 h0 hcm
      cases hcx : Pm.comp x0.data.toList with
      | false =>
        rw [hcx] at hf
        have hfm : fm = false := by rw [hf]; rfl
        subst hfm
        have hck : ck = 30 := by rw [hform]; rfl
        subst hck
        have hne : ((Pt.formN x0.data.toList : Int) == 1) = false := by
          rw [beq_eq_false_iff_ne]
          intro h
          have := Pt.form_one_iff.1 (show Pt.formN x0.data.toList = 1 by omega)
          rw [hcx] at this
          cases this
        have hne2 : ((Pt.formN x0.data.toList : Int) != 1) = true := by rw [bne, hne]; rfl
        generalize Pt.formN x0.data.toList = f at *
        clear hf hform hcx hall HPA
        rcases hcase with ⟨rfl, rfl⟩ | h1n
        all_goals
          go_enter Tryz.func59, Tryz.ntmps59
          go_wp2_with fail
          with_reducible refine (HF0.out _).mono ?_
          rintro e w' ⟨rfl, rfl⟩
          go_wp2
          go_ret
          exact ⟨rfl, HAL.out⟩
      | true =>
        rw [hcx, Bool.true_and] at hf
        rw [Pt.part_comp hcx, Bool.true_and] at hall
        rw [hall, ← hf] at HPA
        rw [Pt.form_one_iff.2 hcx] at HF0
        clear hcx hall hf
        cases fm with
        | false =>
          have hck : ck = 30 := by rw [hform]; rfl
          subst hck
          clear hform
          rcases hcase with ⟨rfl, rfl⟩ | h1n
          all_goals
            go_enter Tryz.func59, Tryz.ntmps59
            go_wp2_with fail
            with_reducible refine (HF0.out _).mono ?_
            rintro e w' ⟨rfl, rfl⟩
            go_wp2_with fail
            with_reducible refine HPA.out.mono ?_
            rintro e w' ⟨rfl, rfl⟩
            go_wp2
            go_ret
            exact ⟨rfl, HAL.out⟩
        | true =>
          by_cases h12 : n ≤ 12
          · have hck : ck = 0 := by rw [hform, if_pos h12]; rfl
            subst hck
            have h12i : ¬ (12 : Int) < (n : Int) := by omega
            clear hform
            rcases hcase with ⟨rfl, rfl⟩ | h1n
            all_goals
              go_enter Tryz.func59, Tryz.ntmps59
              go_wp2_with fail
              with_reducible refine (HF0.out _).mono ?_
              rintro e w' ⟨rfl, rfl⟩
              go_wp2_with fail
              with_reducible refine HPA.out.mono ?_
              rintro e w' ⟨rfl, rfl⟩
              go_wp2
              go_ret
              exact ⟨rfl, HAL.out⟩
          · have hck : ck = 31 := by rw [hform, if_neg h12]; rfl
            subst hck
            have h12i : (12 : Int) < (n : Int) := by omega
            clear hform
            rcases hcase with ⟨rfl, rfl⟩ | h1n
            · omega
            · go_enter Tryz.func59, Tryz.ntmps59
              go_wp2_with fail
              with_reducible refine (HF0.out _).mono ?_
              rintro e w' ⟨rfl, rfl⟩
              go_wp2_with fail
              with_reducible refine HPA.out.mono ?_
              rintro e w' ⟨rfl, rfl⟩
              go_wp2
              go_ret
              exact ⟨rfl, HAL.out⟩
end Go.Proofs.YtembmegllpkmfaaGreatDoor

namespace Go.Proofs.YtembmegllpkmfaaGreatDoor
open Go.RowKit

set_option maxHeartbeats 1000000 in
theorem narrowing_any (x y : ByteArray) (w : World) (hx : x.size ≤ maxLen) (hy : y.size ≤ maxLen) : Calls Tryz.prog 121 #[.string x, .string y] w (CapRes w (Pt.narrO x.data.toList y.data.toList)) := by
  have HF := Lib.hid (fun w : World => formOf_any x w hx)
  have ho : Pt.narrO x.data.toList y.data.toList = match Pt.star x.data.toList with
    | some s => if Lib.hasSuffix y.data.toList s = true ∧ y.data.toList.take (y.data.toList.length - s.length) ≠ [] then some (y.data.toList.take (y.data.toList.length - s.length)) else none
    | none => if Pm.comp x.data.toList = true ∧ x.data.toList = y.data.toList then some [] else none := rfl
  generalize Pt.narrO x.data.toList y.data.toList = o at ho
  cases hs : Pt.star x.data.toList with
  | none =>
    rw [hs] at ho
    simp only at ho
    have hf : Pt.formN x.data.toList = if Pm.comp x.data.toList = true then 1 else 0 := by
      unfold Pt.formN Pt.isStar
      rw [hs]
      rfl
    rw [hf] at HF
    cases hc : Pm.comp x.data.toList with
    | false =>
      rw [hc] at HF ho
      simp only [Bool.false_eq_true, if_false, false_and] at HF ho
      subst ho
      clear hs hf hc hx hy
      go_enter Tryz.func121, Tryz.ntmps121
      go_wp2_with fail
      with_reducible refine (HF.out _).mono ?_
      rintro e w' ⟨rfl, rfl⟩
      go_wp2
      go_ret2
      exact ⟨[], rfl, fun y hy => (by cases hy), rfl⟩
    | true =>
      rw [hc] at HF ho
      simp only [if_true, true_and] at HF ho
      by_cases he : x.data.toList = y.data.toList
      · rw [if_pos he] at ho
        subst ho
        have t1 : (x.toList == y.toList) = true := by rw [Lib.toList_data, Lib.toList_data, he]; simp
        clear hs hf hc hx hy he
        go_enter Tryz.func121, Tryz.ntmps121
        go_wp2_with fail
        with_reducible refine (HF.out _).mono ?_
        rintro e w' ⟨rfl, rfl⟩
        go_wp2
        go_ret2
        exact ⟨[], rfl, fun y hy => by injection hy, rfl⟩
      · rw [if_neg he] at ho
        subst ho
        have t1 : (x.toList == y.toList) = false := by rw [beq_eq_false_iff_ne, Lib.toList_data, Lib.toList_data]; exact he
        clear hs hf hc hx hy he
        go_enter Tryz.func121, Tryz.ntmps121
        go_wp2_with fail
        with_reducible refine (HF.out _).mono ?_
        rintro e w' ⟨rfl, rfl⟩
        go_wp2
        go_ret2
        exact ⟨[], rfl, fun y hy => (by cases hy), rfl⟩
  | some s =>
    rw [hs] at ho
    simp only at ho
    rw [Pt.form_two_iff.2 ⟨s, hs⟩] at HF
    have hxs := (Pt.star_some.1 hs).1
    have hsz : x.size = s.length + 1 := by rw [Lib.size_eq, hxs, List.length_cons]
    have HE := Lib.hid (show x.extract 1 x.size = ⟨s.toArray⟩ from ba_ext (by rw [extract_drop, hxs]; rfl))
    have hk : x.extract 1 x.size = ⟨s.toArray⟩ := HE.out
    have h1i : (1 : Int) ≤ (x.size : Int) := by omega
    have HS := Lib.hid (fun w : World => cuts_any y ⟨s.toArray⟩ w hy)
    have e1 : (ByteArray.mk s.toArray).data.toList = s := rfl
    rw [e1] at HS
    clear e1
    cases hsuf : Lib.hasSuffix y.data.toList s with
    | false =>
      rw [hsuf] at HS ho
      simp only [Bool.false_eq_true, false_and, if_false] at ho
      subst ho
      generalize Lib.trimSuffix y.data.toList s = t at HS
      clear hs hxs hsuf hx hy hsz
      go_enter Tryz.func121, Tryz.ntmps121
      go_wp2_with fail
      with_reducible refine (HF.out _).mono ?_
      rintro e w' ⟨rfl, rfl⟩
      go_wp2_with fail
      with_reducible refine (HS.out _).mono ?_
      rintro e w' ⟨rfl, rfl⟩
      go_wp2
      go_ret2
      exact ⟨t, rfl, fun y hy => (by cases hy), rfl⟩
    | true =>
      have ht : Lib.trimSuffix y.data.toList s = y.data.toList.take (y.data.toList.length - s.length) := by unfold Lib.trimSuffix; rw [hsuf]; rfl
      rw [hsuf, ht] at HS
      rw [hsuf] at ho
      simp only [true_and] at ho
      generalize y.data.toList.take (y.data.toList.length - s.length) = t at HS ho
      clear hs hxs hsuf hx hy hsz ht
      obtain ⟨T, hT⟩ : ∃ T : ByteArray, T = ⟨t.toArray⟩ := ⟨_, rfl⟩
      have hTd : T.data.toList = t := by rw [hT]
      rw [← hT] at HS
      by_cases h0 : t = []
      · rw [if_neg (by simpa using h0)] at ho
        subst ho
        have t1 : T.toList = [] := by rw [Lib.toList_data, hTd, h0]
        have t2 : (!T.toList.isEmpty) = false := by rw [t1]; rfl
        have t3 : T.toList.isEmpty = true := by rw [t1]; rfl
        have HT := Lib.hid hT
        clear h0 hTd hT
        go_enter Tryz.func121, Tryz.ntmps121
        go_wp2_with fail
        with_reducible refine (HF.out _).mono ?_
        rintro e w' ⟨rfl, rfl⟩
        go_wp2_with fail
        with_reducible refine (HS.out _).mono ?_
        rintro e w' ⟨rfl, rfl⟩
        go_wp2
        go_ret2
        exact ⟨t, by rw [HT.out]; rfl, fun y hy => (by cases hy), rfl⟩
      · rw [if_pos h0] at ho
        subst ho
        have h1 : T.toList ≠ [] := by rw [Lib.toList_data, hTd]; exact h0
        have t3 : T.toList.isEmpty = false := by simpa using h1
        have t2 : (!T.toList.isEmpty) = true := by rw [t3]; rfl
        have HT := Lib.hid hT
        clear h0 hTd hT
        go_enter Tryz.func121, Tryz.ntmps121
        go_wp2_with fail
        with_reducible refine (HF.out _).mono ?_
        rintro e w' ⟨rfl, rfl⟩
        go_wp2_with fail
        with_reducible refine (HS.out _).mono ?_
        rintro e w' ⟨rfl, rfl⟩
        go_wp2
        go_ret2
        exact ⟨t, by rw [HT.out]; rfl, fun y hy => by injection hy, rfl⟩

theorem nr_step {ps cs : List (List UInt8)} {k : Nat} (h1 : k < ps.length) (h2 : k < cs.length) : Pt.narrsOf (ps.drop k) (cs.drop k) = match Pt.narrO ps[k] cs[k] with
    | none => none
    | some u => (Pt.narrsOf (ps.drop (k + 1)) (cs.drop (k + 1))).map fun r => if u = [] then r else u :: r := by
  rw [List.drop_eq_getElem_cons h1, List.drop_eq_getElem_cons h2, Pt.narrsOf_cons]
  cases Pt.narrO ps[k] cs[k] <;> rfl

/-- What narrowings hands back: no texts, or texts in memory of the call's own. -/
def GivesNr (w : World) (o : Option (List (List UInt8))) (e : Ending) (w' : World) : Prop :=
  match o with
  | none => e = .returned (.tuple #[.slice none 0 0, .bool false]) ∧ Below w.heap.size w w'
  | some l => ∃ v xs, e = .returned (.tuple #[v, .bool true]) ∧ OwnS w' w.heap.size v xs ∧ bs xs = l ∧ Below w.heap.size w w'

set_option maxHeartbeats 4000000 in
theorem narrowings_any (A : Option Addr) (xs : List ByteArray) (c : Nat) (b : Bool) (p : Pt.Pat) (B : Option Addr) (ys : List ByteArray) (d : Nat) (b' : Bool) (w : World) (hp : PatR w A xs c b p) (hq : RdS w w.heap.size B ys) (hd : ys.length ≤ d) (hdm : d ≤ maxLen)
    (hsy : ∀ y ∈ ys, y.size ≤ maxLen) (hN : xs.length ≤ 1000) :
    Calls Tryz.prog 133 #[patV A xs.length c b, .slice B ys.length d, .bool b'] w (GivesNr w (Pt.narr p ⟨bs ys, b'⟩)) := by
  have hnr : Pt.narr p ⟨bs ys, b'⟩ = if Pt.counts ⟨bs ys, b'⟩ p then Pt.narrsOf p.parts (bs ys) else none := rfl
  have hct : Pt.counts ⟨bs ys, b'⟩ p = (decide (xs.length ≤ ys.length) && (if b then decide (xs.length < ys.length) || b' else !b' && decide (ys.length = xs.length))) := by
    unfold Pt.counts
    rw [hp.len, ← hp.rest]
    simp only [bs_length]
  rw [hct] at hnr
  generalize Pt.narr p ⟨bs ys, b'⟩ = o at hnr ⊢
  have halloc : Below w.heap.size w (w.alloc (.cells #[.slice A xs.length c, .bool b] 24)) := (Below.refl _ _).alloc (Nat.le_refl _) _
  have HAL := Lib.hid halloc
  obtain ⟨n, hn⟩ : ∃ n, n = xs.length := ⟨_, rfl⟩
  obtain ⟨m, hm⟩ : ∃ m, m = ys.length := ⟨_, rfl⟩
  rw [← hn, ← hm] at hnr
  rw [← hn] at HAL
  have hdi : (d : Int) ≤ 9223372036854775807 := by unfold maxLen at hdm; omega
  have hcm := hp.cm
  have hle := hp.le
  have hci : (c : Int) ≤ 9223372036854775807 := by unfold maxLen at hcm; omega
  rw [← hm] at hd
  rw [← hn] at hle hN
  have HRD := Lib.hid hp.rd
  have HPP := Lib.hid hp.parts
  have HXS := Lib.hid hp.sz
  have HRY := Lib.hid hq
  have HYS := Lib.hid hsy
  have HNX := Lib.hid hn
  have HMY := Lib.hid hm
  have hcase : (decide (n ≤ m) && (if b then decide (n < m) || b' else !b' && decide (m = n))) = false ∨ (decide (n ≤ m) && (if b then decide (n < m) || b' else !b' && decide (m = n))) = true := by
    cases (decide (n ≤ m) && (if b then decide (n < m) || b' else !b' && decide (m = n))) <;> simp
  rw [← hn, ← hm]
  clear hct halloc hp hq hsy hn hm
  rcases hcase with hbad | hgood
  · rw [hbad] at hnr
    simp only [Bool.false_eq_true, if_false] at hnr
    subst hnr
    rcases Nat.lt_trichotomy m n with h | rfl | h
    · have g1 : (m : Int) - (n : Int) < 0 := by omega
      clear hbad
      go_enter Tryz.func133, Tryz.ntmps133
      go_wp2
      go_ret2
      exact ⟨rfl, HAL.out⟩
    · have g1 : ¬ (m : Int) - (m : Int) < 0 := by omega
      have g2 : ((m : Int) - (m : Int) == 0) = true := by rw [beq_iff_eq]; omega
      have g3 : ¬ (0 : Int) < (m : Int) - (m : Int) := by omega
      cases b <;> cases b' <;> first | (exfalso; simp at hbad; done) | skip
      all_goals
        clear hbad
        go_enter Tryz.func133, Tryz.ntmps133
        go_wp2
        go_ret2
        exact ⟨rfl, HAL.out⟩
    · have g1 : ¬ (m : Int) - (n : Int) < 0 := by omega
      have g2 : ((m : Int) - (n : Int) == 0) = false := by rw [beq_eq_false_iff_ne]; omega
      have g3 : (0 : Int) < (m : Int) - (n : Int) := by omega
      cases b <;> cases b' <;> first | (exfalso; simp at hbad; omega) | skip
      all_goals
        clear hbad
        go_enter Tryz.func133, Tryz.ntmps133
        go_wp2
        go_ret2
        exact ⟨rfl, HAL.out⟩
  · rw [hgood] at hnr
    simp only [if_true] at hnr
    have HO := Lib.hid hnr
    have hnm : n ≤ m := by
      rw [Bool.and_eq_true, decide_eq_true_eq] at hgood
      exact hgood.1
    have main : (b = false ∧ b' = false ∧ m = n) ∨ (b = true ∧ b' = true ∧ m = n) ∨ (b = true ∧ n < m) := by
      cases b <;> cases b' <;> simp at hgood
      · exact .inl ⟨rfl, rfl, by omega⟩
      · exact .inr (.inr ⟨rfl, by omega⟩)
      · rcases Nat.lt_or_ge n m with h | h
        · exact .inr (.inr ⟨rfl, h⟩)
        · exact .inr (.inl ⟨rfl, rfl, by omega⟩)
    clear hgood hnr
    have g1 : ¬ (m : Int) - (n : Int) < 0 := by omega
    have main2 : (b = false ∧ b' = false ∧ ((m : Int) - (n : Int) == 0) = true ∧ ¬ (0 : Int) < (m : Int) - (n : Int)) ∨ (b = true ∧ b' = true ∧ ((m : Int) - (n : Int) == 0) = true ∧ ¬ (0 : Int) < (m : Int) - (n : Int)) ∨ (b = true ∧ ((m : Int) - (n : Int) == 0) = false ∧ (0 : Int) < (m : Int) - (n : Int)) := by
      rcases main with ⟨h1, h2, h3⟩ | ⟨h1, h2, h3⟩ | ⟨h1, h3⟩
      · exact .inl ⟨h1, h2, by rw [beq_iff_eq]; omega, by omega⟩
      · exact .inr (.inl ⟨h1, h2, by rw [beq_iff_eq]; omega, by omega⟩)
      · exact .inr (.inr ⟨h1, by rw [beq_eq_false_iff_ne]; omega, by omega⟩)
    clear main
    rcases main2 with ⟨rfl, rfl, g2, g3⟩ | ⟨rfl, rfl, g2, g3⟩ | ⟨rfl, g2, g3⟩
    all_goals
      go_enter Tryz.func133, Tryz.ntmps133
      go_wp2
      go_loopw [9, 49] (fun out i wr => ∃ (k : Nat) (cs : List ByteArray), k ≤ n ∧ i = .int .i64 k ∧ OwnS wr w.heap.size out cs ∧ cs.length ≤ k ∧ Below w.heap.size w wr ∧ Pt.narrsOf p.parts (bs ys) = (Pt.narrsOf (p.parts.drop k) ((bs ys).drop k)).map (fun r => bs cs ++ r)) (fun _ i _ => n - (intOf i).toNat)
      case atStart => exact ⟨0, [], by omega, rfl, OwnS.empty _ _, by simp, HAL.out, by simp [bs]⟩
      case round =>
        obtain ⟨k, cs, hkn, rfl, hown, hcsk, hbr, hcap⟩ := hrel
        have hzr := hbr.size
        have HOWN := Lib.hid hown
        have HBR := Lib.hid hbr
        have HCAP := Lib.hid hcap
        clear hown hbr hcap
        by_cases hlt : k < n
        · have hlx : k < xs.length := by rw [← HNX.out]; exact hlt
          have hly : k < ys.length := by rw [← HMY.out]; omega
          obtain ⟨g, og, rfl, hg, hcell⟩ := HRD.out.cells (by omega)
          obtain ⟨g', og', rfl, hg', hcell'⟩ := HRY.out.cells (by omega)
          have e1 := (HBR.out.cell (p := ⟨g, og + k, none⟩) hg).trans (hcell k hlx)
          have e2 := (HBR.out.cell (p := ⟨g', og' + k, none⟩) hg').trans (hcell' k hly)
          have HST := Lib.hid (nr_step (ps := p.parts) (cs := bs ys) (k := k) (by rw [← HPP.out, bs_length]; exact hlx) (by rw [bs_length]; exact hly))
          have ep : p.parts[k]'(by rw [← HPP.out, bs_length]; exact hlx) = xs[k].data.toList := by
            rw [← bs_get xs k hlx]
            simp only [HPP.out]
          have el : (bs ys)[k]'(by rw [bs_length]; exact hly) = ys[k].data.toList := bs_get ys k hly
          have hsx := HXS.out _ (List.getElem_mem hlx)
          have hsy := HYS.out _ (List.getElem_mem hly)
          rw [ep, el] at HST
          clear hcell hcell' ep el
          generalize xs[k] = x at *
          generalize ys[k] = y at *
          have HNa := Lib.hid (fun w : World => narrowing_any x y w hsx hsy)
          clear hsx hsy
          cases hca : Pt.narrO x.data.toList y.data.toList with
          | none =>
            rw [hca] at HNa HST
            have hon : o = none := by rw [HO.out, HCAP.out, HST.out]; rfl
            subst hon
            go_wp2_with fail
            with_reducible refine (HNa.out _).mono ?_
            rintro e w' ⟨q, rfl, _, rfl⟩
            go_wp2
            go_ret2
            exact ⟨rfl, HBR.out⟩
          | some z =>
            rw [hca] at HNa HST
            by_cases hz0 : z = []
            · go_wp2_with fail
              with_reducible refine (HNa.out _).mono ?_
              rintro e w' ⟨q, rfl, hq, rfl⟩
              have hqz : q = z := hq z rfl
              subst hqz
              obtain ⟨T, hT⟩ : ∃ T : ByteArray, T = ⟨q.toArray⟩ := ⟨_, rfl⟩
              have t1 : T.toList = [] := by rw [hT, Lib.toList_data, hz0]
              have t2 : (!T.toList.isEmpty) = false := by rw [t1]; rfl
              have t3 : T.toList.isEmpty = true := by rw [t1]; rfl
              rw [← hT]
              have HZ0 := Lib.hid hz0
              clear hq hT hz0
              go_wp2
              go_roundw
              case rel =>
                refine ⟨k + 1, cs, by omega, by go_num, HOWN.out, by omega, HBR.out, ?_⟩
                rw [HCAP.out, HST.out, HZ0.out]
                simp
              case measure => simp [intOf]; omega
            · go_wp2_with fail
              with_reducible refine (HNa.out _).mono ?_
              rintro e w' ⟨q, rfl, hq, rfl⟩
              have hqz : q = z := hq z rfl
              subst hqz
              obtain ⟨T, hT⟩ : ∃ T : ByteArray, T = ⟨q.toArray⟩ := ⟨_, rfl⟩
              have hTd : T.data.toList = q := by rw [hT]
              have h1 : T.toList ≠ [] := by rw [Lib.toList_data, hTd]; exact hz0
              have t3 : T.toList.isEmpty = false := by simpa using h1
              have t2 : (!T.toList.isEmpty) = true := by rw [t3]; rfl
              rw [← hT]
              have HTD := Lib.hid hTd
              have HZ0 := Lib.hid hz0
              clear hq hT hz0 hTd
              go_wp2_with (refine wpList_append_ss rfl _ _ rfl w.heap.size _ cs rfl (HOWN.out.below ((Below.refl _ _).alloc (Nat.le_refl _) _)) (some ⟨wr.heap.size, 0, none⟩) [T] 1 rfl (new_one wr T _) (fun h => by cases h) (by simp; omega) (by simp; omega) ?_; intro v' w' hown' hb')
              have HO2 := Lib.hid hown'
              have HB3 := Lib.hid (show Below w.heap.size wr w' from ((Below.refl _ _).alloc hzr _).trans hb')
              clear hown' hb'
              go_wp2
              go_roundw
              case rel =>
                refine ⟨k + 1, cs ++ [T], by omega, by go_num, HO2.out, by simp; omega, HBR.out.trans HB3.out, ?_⟩
                rw [HCAP.out, HST.out, bs_append]
                have hz := HZ0.out
                have ht := HTD.out
                simp [bs, Function.comp_def, hz, ht]
              case measure => simp [intOf]; omega
        · obtain rfl : k = n := by omega
          have hcap : Pt.narrsOf p.parts (bs ys) = some (bs cs) := by
            rw [HCAP.out, List.drop_of_length_le (show p.parts.length ≤ k by rw [← HPP.out, bs_length, ← HNX.out]; omega)]
            simp [Pt.narrsOf]
          have hoc : o = some (bs cs) := by rw [HO.out, hcap]
          subst hoc
          go_wp2
          go_ret2
          exact ⟨_, cs, rfl, HOWN.out, rfl, HBR.out⟩
end Go.Proofs.YtembmegllpkmfaaGreatDoor

namespace Go.Proofs.YtembmegllpkmfaaGreatDoor
open Go.RowKit

end Go.Proofs.YtembmegllpkmfaaGreatDoor
