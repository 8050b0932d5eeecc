/- The contracts of the program's narrowing, narrowings. -/
import Derived.Test.YthgcnlhlhipllaaGreatDoorPatGo2
import Derived.Test.YthgcnlhlhipllaaGreatDoorPatFn6
namespace Go.Proofs.YthgcnlhlhipllaaGreatDoor
open Go.RowKit

set_option maxHeartbeats 1000000 in
theorem narrowing_any (x y : ByteArray) (w : World) (hx : x.size ≤ maxLen) (hy : y.size ≤ maxLen) : Calls Tryz.prog 150 #[.string x, .string y] w (CapRes w (Pt.narrO x.data.toList y.data.toList)) := by
  have HF := Lib.hid (fun w : World => formOf_any x w hx)
  have ho : Pt.narrO x.data.toList y.data.toList = match Pt.star x.data.toList with
    | some s => if Lib.hasSuffix y.data.toList s = true ∧ y.data.toList.take (y.data.toList.length - s.length) ≠ [] then some (y.data.toList.take (y.data.toList.length - s.length)) else none
    | none => if Pm.comp x.data.toList = true ∧ x.data.toList = y.data.toList then some [] else none := rfl
  generalize Pt.narrO x.data.toList y.data.toList = o at ho
  cases hs : Pt.star x.data.toList with
  | none =>
    rw [hs] at ho
    simp only at ho
    have hf : Pt.formN x.data.toList = if Pm.comp x.data.toList = true then 1 else 0 := by
      unfold Pt.formN Pt.isStar
      rw [hs]
      rfl
    rw [hf] at HF
    cases hc : Pm.comp x.data.toList with
    | false =>
      rw [hc] at HF ho
      simp only [Bool.false_eq_true, if_false, false_and] at HF ho
      subst ho
      clear hs hf hc hx hy
      go_enter Tryz.func150, Tryz.ntmps150
      go_wp2_with fail
      with_reducible refine (HF.out _).mono ?_
      rintro e w' ⟨rfl, rfl⟩
      go_wp2
      go_ret2
      exact ⟨[], rfl, fun y hy => (by cases hy), rfl⟩
    | true =>
      rw [hc] at HF ho
      simp only [if_true, true_and] at HF ho
      by_cases he : x.data.toList = y.data.toList
      · rw [if_pos he] at ho
        subst ho
        have t1 : (x.toList == y.toList) = true := by rw [Lib.toList_data, Lib.toList_data, he]; simp
        clear hs hf hc hx hy he
        go_enter Tryz.func150, Tryz.ntmps150
        go_wp2_with fail
        with_reducible refine (HF.out _).mono ?_
        rintro e w' ⟨rfl, rfl⟩
        go_wp2
        go_ret2
        exact ⟨[], rfl, fun y hy => by injection hy, rfl⟩
      · rw [if_neg he] at ho
        subst ho
        have t1 : (x.toList == y.toList) = false := by rw [beq_eq_false_iff_ne, Lib.toList_data, Lib.toList_data]; exact he
        clear hs hf hc hx hy he
        go_enter Tryz.func150, Tryz.ntmps150
        go_wp2_with fail
        with_reducible refine (HF.out _).mono ?_
        rintro e w' ⟨rfl, rfl⟩
        go_wp2
        go_ret2
        exact ⟨[], rfl, fun y hy => (by cases hy), rfl⟩
  | some s =>
    rw [hs] at ho
    simp only at ho
    rw [Pt.form_two_iff.2 ⟨s, hs⟩] at HF
    have hxs := (Pt.star_some.1 hs).1
    have hsz : x.size = s.length + 1 := by rw [Lib.size_eq, hxs, List.length_cons]
    have HE := Lib.hid (show x.extract 1 x.size = ⟨s.toArray⟩ from ba_ext (by rw [extract_drop, hxs]; rfl))
    have hk : x.extract 1 x.size = ⟨s.toArray⟩ := HE.out
    have h1i : (1 : Int) ≤ (x.size : Int) := by omega
    have HS := Lib.hid (fun w : World => cuts_any y ⟨s.toArray⟩ w hy)
    have e1 : (ByteArray.mk s.toArray).data.toList = s := rfl
    rw [e1] at HS
    clear e1
    cases hsuf : Lib.hasSuffix y.data.toList s with
    | false =>
      rw [hsuf] at HS ho
      simp only [Bool.false_eq_true, false_and, if_false] at ho
      subst ho
      generalize Lib.trimSuffix y.data.toList s = t at HS
      clear hs hxs hsuf hx hy hsz
      go_enter Tryz.func150, Tryz.ntmps150
      go_wp2_with fail
      with_reducible refine (HF.out _).mono ?_
      rintro e w' ⟨rfl, rfl⟩
      go_wp2_with fail
      with_reducible refine (HS.out _).mono ?_
      rintro e w' ⟨rfl, rfl⟩
      go_wp2
      go_ret2
      exact ⟨t, rfl, fun y hy => (by cases hy), rfl⟩
    | true =>
      have ht : Lib.trimSuffix y.data.toList s = y.data.toList.take (y.data.toList.length - s.length) := by unfold Lib.trimSuffix; rw [hsuf]; rfl
      rw [hsuf, ht] at HS
      rw [hsuf] at ho
      simp only [true_and] at ho
      generalize y.data.toList.take (y.data.toList.length - s.length) = t at HS ho
      clear hs hxs hsuf hx hy hsz ht
      obtain ⟨T, hT⟩ : ∃ T : ByteArray, T = ⟨t.toArray⟩ := ⟨_, rfl⟩
      have hTd : T.data.toList = t := by rw [hT]
      rw [← hT] at HS
      by_cases h0 : t = []
      · rw [if_neg (by simpa using h0)] at ho
        subst ho
        have t1 : T.toList = [] := by rw [Lib.toList_data, hTd, h0]
        have t2 : (!T.toList.isEmpty) = false := by rw [t1]; rfl
        have t3 : T.toList.isEmpty = true := by rw [t1]; rfl
        have HT := Lib.hid hT
        clear h0 hTd hT
        go_enter Tryz.func150, Tryz.ntmps150
        go_wp2_with fail
        with_reducible refine (HF.out _).mono ?_
        rintro e w' ⟨rfl, rfl⟩
        go_wp2_with fail
        with_reducible refine (HS.out _).mono ?_
        rintro e w' ⟨rfl, rfl⟩
        go_wp2
        go_ret2
        exact ⟨t, by rw [HT.out]; rfl, fun y hy => (by cases hy), rfl⟩
      · rw [if_pos h0] at ho
        subst ho
        have h1 : T.toList ≠ [] := by rw [Lib.toList_data, hTd]; exact h0
        have t3 : T.toList.isEmpty = false := by simpa using h1
        have t2 : (!T.toList.isEmpty) = true := by rw [t3]; rfl
        have HT := Lib.hid hT
        clear h0 hTd hT
        go_enter Tryz.func150, Tryz.ntmps150
        go_wp2_with fail
        with_reducible refine (HF.out _).mono ?_
        rintro e w' ⟨rfl, rfl⟩
        go_wp2_with fail
        with_reducible refine (HS.out _).mono ?_
        rintro e w' ⟨rfl, rfl⟩
        go_wp2
        go_ret2
        exact ⟨t, by rw [HT.out]; rfl, fun y hy => by injection hy, rfl⟩

theorem nr_step {ps cs : List (List UInt8)} {k : Nat} (h1 : k < ps.length) (h2 : k < cs.length) : Pt.narrsOf (ps.drop k) (cs.drop k) = match Pt.narrO ps[k] cs[k] with
    | none => none
    | some u => (Pt.narrsOf (ps.drop (k + 1)) (cs.drop (k + 1))).map fun r => if u = [] then r else u :: r := by
  rw [List.drop_eq_getElem_cons h1, List.drop_eq_getElem_cons h2, Pt.narrsOf_cons]
  cases Pt.narrO ps[k] cs[k] <;> rfl

/-- What narrowings hands back: no texts, or texts in memory of the call's own. -/
def GivesNr (w : World) (o : Option (List (List UInt8))) (e : Ending) (w' : World) : Prop :=
  match o with
  | none => e = .returned (.tuple #[.slice none 0 0, .bool false]) ∧ Below w.heap.size w w'
  | some l => ∃ v xs, e = .returned (.tuple #[v, .bool true]) ∧ OwnS w' w.heap.size v xs ∧ bs xs = l ∧ Below w.heap.size w w'

set_option maxHeartbeats 4000000 in
theorem narrowings_any (A : Option Addr) (xs : List ByteArray) (c : Nat) (b : Bool) (p : Pt.Pat) (B : Option Addr) (ys : List ByteArray) (d : Nat) (b' : Bool) (w : World) (hp : PatR w A xs c b p) (hq : RdS w w.heap.size B ys) (hd : ys.length ≤ d) (hdm : d ≤ maxLen)
    (hsy : ∀ y ∈ ys, y.size ≤ maxLen) (hN : xs.length ≤ 1000) :
    Calls Tryz.prog 133 #[patV A xs.length c b, .slice B ys.length d, .bool b'] w (GivesNr w (Pt.narr p ⟨bs ys, b'⟩)) := by
  have hnr : Pt.narr p ⟨bs ys, b'⟩ = if Pt.counts ⟨bs ys, b'⟩ p then Pt.narrsOf p.parts (bs ys) else none := rfl
  have hct : Pt.counts ⟨bs ys, b'⟩ p = (decide (xs.length ≤ ys.length) && (if b then decide (xs.length < ys.length) || b' else !b' && decide (ys.length = xs.length))) := by
    unfold Pt.counts
    rw [hp.len, ← hp.rest]
    simp only [bs_length]
  rw [hct] at hnr
  generalize Pt.narr p ⟨bs ys, b'⟩ = o at hnr ⊢
  have halloc : Below w.heap.size w (w.alloc (.cells #[.slice A xs.length c, .bool b] 24)) := (Below.refl _ _).alloc (Nat.le_refl _) _
  have HAL := Lib.hid halloc
  obtain ⟨n, hn⟩ : ∃ n, n = xs.length := ⟨_, rfl⟩
  obtain ⟨m, hm⟩ : ∃ m, m = ys.length := ⟨_, rfl⟩
  rw [← hn, ← hm] at hnr
  rw [← hn] at HAL
  have hdi : (d : Int) ≤ 9223372036854775807 := by unfold maxLen at hdm; omega
  have hcm := hp.cm
  have hle := hp.le
  have hci : (c : Int) ≤ 9223372036854775807 := by unfold maxLen at hcm; omega
  rw [← hm] at hd
  rw [← hn] at hle hN
  have HRD := Lib.hid hp.rd
  have HPP := Lib.hid hp.parts
  have HXS := Lib.hid hp.sz
  have HRY := Lib.hid hq
  have HYS := Lib.hid hsy
  have HNX := Lib.hid hn
  have HMY := Lib.hid hm
  have hcase : (decide (n ≤ m) && (if b then decide (n < m) || b' else !b' && decide (m = n))) = false ∨ (decide (n ≤ m) && (if b then decide (n < m) || b' else !b' && decide (m = n))) = true := by
    cases (decide (n ≤ m) && (if b then decide (n < m) || b' else !b' && decide (m = n))) <;> simp
  rw [← hn, ← hm]
  clear hct halloc hp hq hsy hn hm
  rcases hcase with hbad | hgood
  · rw [hbad] at hnr
    simp only [Bool.false_eq_true, if_false] at hnr
    subst hnr
    rcases Nat.lt_trichotomy m n with h | rfl | h
    · have g1 : (m : Int) - (n : Int) < 0 := by omega
      clear hbad
      go_enter Tryz.func133, Tryz.ntmps133
      go_wp2
      go_ret2
      exact ⟨rfl, HAL.out⟩
    · have g1 : ¬ (m : Int) - (m : Int) < 0 := by omega
      have g2 : ((m : Int) - (m : Int) == 0) = true := by rw [beq_iff_eq]; omega
      have g3 : ¬ (0 : Int) < (m : Int) - (m : Int) := by omega
      cases b <;> cases b' <;> first | (exfalso; simp at hbad; done) | skip
      all_goals
        clear hbad
        go_enter Tryz.func133, Tryz.ntmps133
        go_wp2
        go_ret2
        exact ⟨rfl, HAL.out⟩
    · have g1 : ¬ (m : Int) - (n : Int) < 0 := by omega
      have g2 : ((m : Int) - (n : Int) == 0) = false := by rw [beq_eq_false_iff_ne]; omega
      have g3 : (0 : Int) < (m : Int) - (n : Int) := by omega
      cases b <;> cases b' <;> first | (exfalso; simp at hbad; omega) | skip
      all_goals
        clear hbad
        go_enter Tryz.func133, Tryz.ntmps133
        go_wp2
        go_ret2
        exact ⟨rfl, HAL.out⟩
  · rw [hgood] at hnr
    simp only [if_true] at hnr
    have HO := Lib.hid hnr
    have hnm : n ≤ m := by
      rw [Bool.and_eq_true, decide_eq_true_eq] at hgood
      exact hgood.1
    have main : (b = false ∧ b' = false ∧ m = n) ∨ (b = true ∧ b' = true ∧ m = n) ∨ (b = true ∧ n < m) := by
      cases b <;> cases b' <;> simp at hgood
      · exact .inl ⟨rfl, rfl, by omega⟩
      · exact .inr (.inr ⟨rfl, by omega⟩)
      · rcases Nat.lt_or_ge n m with h | h
        · exact .inr (.inr ⟨rfl, h⟩)
        · exact .inr (.inl ⟨rfl, rfl, by omega⟩)
    clear hgood hnr
    have g1 : ¬ (m : Int) - (n : Int) < 0 := by omega
    have main2 : (b = false ∧ b' = false ∧ ((m : Int) - (n : Int) == 0) = true ∧ ¬ (0 : Int) < (m : Int) - (n : Int)) ∨ (b = true ∧ b' = true ∧ ((m : Int) - (n : Int) == 0) = true ∧ ¬ (0 : Int) < (m : Int) - (n : Int)) ∨ (b = true ∧ ((m : Int) - (n : Int) == 0) = false ∧ (0 : Int) < (m : Int) - (n : Int)) := by
      rcases main with ⟨h1, h2, h3⟩ | ⟨h1, h2, h3⟩ | ⟨h1, h3⟩
      · exact .inl ⟨h1, h2, by rw [beq_iff_eq]; omega, by omega⟩
      · exact .inr (.inl ⟨h1, h2, by rw [beq_iff_eq]; omega, by omega⟩)
      · exact .inr (.inr ⟨h1, by rw [beq_eq_false_iff_ne]; omega, by omega⟩)
    clear main
    rcases main2 with ⟨rfl, rfl, g2, g3⟩ | ⟨rfl, rfl, g2, g3⟩ | ⟨rfl, g2, g3⟩
    all_goals
      go_enter Tryz.func133, Tryz.ntmps133
      go_wp2
      go_loopw [9, 49] (fun out i wr => ∃ (k : Nat) (cs : List ByteArray), k ≤ n ∧ i = .int .i64 k ∧ OwnS wr w.heap.size out cs ∧ cs.length ≤ k ∧ Below w.heap.size w wr ∧ Pt.narrsOf p.parts (bs ys) = (Pt.narrsOf (p.parts.drop k) ((bs ys).drop k)).map (fun r => bs cs ++ r)) (fun _ i _ => n - (intOf i).toNat)
      case atStart => exact ⟨0, [], by omega, rfl, OwnS.empty _ _, by simp, HAL.out, by simp [bs]⟩
      case round =>
        obtain ⟨k, cs, hkn, rfl, hown, hcsk, hbr, hcap⟩ := hrel
        have hzr := hbr.size
        have HOWN := Lib.hid hown
        have HBR := Lib.hid hbr
        have HCAP := Lib.hid hcap
        clear hown hbr hcap
        by_cases hlt : k < n
        · have hlx : k < xs.length := by rw [← HNX.out]; exact hlt
          have hly : k < ys.length := by rw [← HMY.out]; omega
          obtain ⟨g, og, rfl, hg, hcell⟩ := HRD.out.cells (by omega)
          obtain ⟨g', og', rfl, hg', hcell'⟩ := HRY.out.cells (by omega)
          have e1 := (HBR.out.cell (p := ⟨g, og + k, none⟩) hg).trans (hcell k hlx)
          have e2 := (HBR.out.cell (p := ⟨g', og' + k, none⟩) hg').trans (hcell' k hly)
          have HST := Lib.hid (nr_step (ps := p.parts) (cs := bs ys) (k := k) (by rw [← HPP.out, bs_length]; exact hlx) (by rw [bs_length]; exact hly))
          have ep : p.parts[k]'(by rw [← HPP.out, bs_length]; exact hlx) = xs[k].data.toList := by
            rw [← bs_get xs k hlx]
            simp only [HPP.out]
          have el : (bs ys)[k]'(by rw [bs_length]; exact hly) = ys[k].data.toList := bs_get ys k hly
          have hsx := HXS.out _ (List.getElem_mem hlx)
          have hsy := HYS.out _ (List.getElem_mem hly)
          rw [ep, el] at HST
          clear hcell hcell' ep el
          generalize xs[k] = x at *
          generalize ys[k] = y at *
          have HNa := Lib.hid (fun w : World => narrowing_any x y w hsx hsy)
          clear hsx hsy
          cases hca : Pt.narrO x.data.toList y.data.toList with
          | none =>
            rw [hca] at HNa HST
            have hon : o = none := by rw [HO.out, HCAP.out, HST.out]; rfl
            subst hon
            go_wp2_with fail
            with_reducible refine (HNa.out _).mono ?_
            rintro e w' ⟨q, rfl, _, rfl⟩
            go_wp2
            go_ret2
            exact ⟨rfl, HBR.out⟩
          | some z =>
            rw [hca] at HNa HST
            by_cases hz0 : z = []
            · go_wp2_with fail
              with_reducible refine (HNa.out _).mono ?_
              rintro e w' ⟨q, rfl, hq, rfl⟩
              have hqz : q = z := hq z rfl
              subst hqz
              obtain ⟨T, hT⟩ : ∃ T : ByteArray, T = ⟨q.toArray⟩ := ⟨_, rfl⟩
              have t1 : T.toList = [] := by rw [hT, Lib.toList_data, hz0]
              have t2 : (!T.toList.isEmpty) = false := by rw [t1]; rfl
              have t3 : T.toList.isEmpty = true := by rw [t1]; rfl
              rw [← hT]
              have HZ0 := Lib.hid hz0
              clear hq hT hz0
              go_wp2
              go_roundw
              case rel =>
                refine ⟨k + 1, cs, by omega, by go_num, HOWN.out, by omega, HBR.out, ?_⟩
                rw [HCAP.out, HST.out, HZ0.out]
                simp
              case measure => simp [intOf]; omega
            · go_wp2_with fail
              with_reducible refine (HNa.out _).mono ?_
              rintro e w' ⟨q, rfl, hq, rfl⟩
              have hqz : q = z := hq z rfl
              subst hqz
              obtain ⟨T, hT⟩ : ∃ T : ByteArray, T = ⟨q.toArray⟩ := ⟨_, rfl⟩
              have hTd : T.data.toList = q := by rw [hT]
              have h1 : T.toList ≠ [] := by rw [Lib.toList_data, hTd]; exact hz0
              have t3 : T.toList.isEmpty = false := by simpa using h1
              have t2 : (!T.toList.isEmpty) = true := by rw [t3]; rfl
              rw [← hT]
              have HTD := Lib.hid hTd
              have HZ0 := Lib.hid hz0
              clear hq hT hz0 hTd
              go_wp2_with (refine wpList_append_ss rfl _ _ rfl w.heap.size _ cs rfl (HOWN.out.below ((Below.refl _ _).alloc (Nat.le_refl _) _)) (some ⟨wr.heap.size, 0, none⟩) [T] 1 rfl (new_one wr T _) (fun h => by cases h) (by simp; omega) (by simp; omega) ?_; intro v' w' hown' hb')
              have HO2 := Lib.hid hown'
              have HB3 := Lib.hid (show Below w.heap.size wr w' from ((Below.refl _ _).alloc hzr _).trans hb')
              clear hown' hb'
              go_wp2
              go_roundw
              case rel =>
                refine ⟨k + 1, cs ++ [T], by omega, by go_num, HO2.out, by simp; omega, HBR.out.trans HB3.out, ?_⟩
                rw [HCAP.out, HST.out, bs_append]
                have hz := HZ0.out
                have ht := HTD.out
                simp [bs, Function.comp_def, hz, ht]
              case measure => simp [intOf]; omega
        · obtain rfl : k = n := by omega
          have hcap : Pt.narrsOf p.parts (bs ys) = some (bs cs) := by
            rw [HCAP.out, List.drop_of_length_le (show p.parts.length ≤ k by rw [← HPP.out, bs_length, ← HNX.out]; omega)]
            simp [Pt.narrsOf]
          have hoc : o = some (bs cs) := by rw [HO.out, hcap]
          subst hoc
          go_wp2
          go_ret2
          exact ⟨_, cs, rfl, HOWN.out, rfl, HBR.out⟩
end Go.Proofs.YthgcnlhlhipllaaGreatDoor
