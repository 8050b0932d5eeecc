/- The contracts of the reference's Same and Match. The contract of the reference's Match. The contract of the reference's Within. The contract of the reference's Parse. -/
import Derived.Test.YtembmegllpkmfaaGreatDoorPatFnA
import Derived.Test.YtembmegllpkmfaaGreatDoorPathOwnAll
namespace Go.Proofs.YtembmegllpkmfaaGreatDoor
open Go.RowKit

def samePat (b b' : Bool) (xs ys : List ByteArray) : Bool := (b == b') && decide (xs = ys)
theorem rsame_any (A B : Option Addr) (xs ys : List ByteArray) (c d BA BB : Nat) (b b' : Bool) (w : World) (ha : RdS w BA A xs) (hb : RdS w BB B ys) (hBA : BA ≤ w.heap.size) (hBB : BB ≤ w.heap.size) (h1 : xs.length ≤ maxLen) (hc : xs.length ≤ c) (hd : ys.length ≤ d) (h2 : ys.length ≤ maxLen) :
    Calls Tryz.prog 45 #[patV A xs.length c b, patV B ys.length d b'] w (GivesBB w (samePat b b' xs ys)) := by
  unfold maxLen at h1 h2
  unfold samePat
  have hal : ∀ n m, Below w.heap.size w ((w.alloc (.cells #[.slice A n c, .bool b] 24)).alloc (.cells #[.slice B m d, .bool b'] 24)) := fun n m => ((Below.refl _ _).alloc (Nat.le_refl _) _).alloc (by simp) _
  have HAL := Lib.hid hal
  clear hal
  by_cases hbb : b = b'
  · subst hbb
    by_cases hl : xs.length = ys.length
    · have he : (b == b) = true := by simp
      rw [he, Bool.true_and]
      by_cases h0 : xs.length = 0
      · have e1 : xs = [] := List.eq_nil_of_length_eq_zero h0
        have e2 : ys = [] := List.eq_nil_of_length_eq_zero (by omega)
        subst e1 e2
        clear ha hb hl h0
        go_enter Tryz.func45, Tryz.ntmps45
        go_wp2
        go_loop [24] (fun i => i = .int .i64 (0 : Nat)) (fun _ => 0)
        case atStart => rfl
        case round =>
          obtain rfl := hrel
          go_wp2
          go_ret
          exact ⟨rfl, HAL.out 0 0⟩
      · obtain ⟨g, o, rfl, hg, hca⟩ := ha.cells (by omega)
        obtain ⟨g', o', rfl, hg', hcb⟩ := hb.cells (by omega)
        have HA := Lib.hid hca
        have HB := Lib.hid hcb
        obtain ⟨n, hn⟩ : ∃ n, n = xs.length := ⟨_, rfl⟩
        have hn2 : ys.length = n := by omega
        rw [hn2] at hd h2 ⊢
        rw [← hn] at hc h1 ⊢
        have HN := Lib.hid hn
        have HN2 := Lib.hid hn2
        have hgw : g < w.heap.size := by omega
        have hgw' : g' < w.heap.size := by omega
        obtain ⟨v, hv⟩ : ∃ v, v = decide (xs = ys) := ⟨_, rfl⟩
        rw [← hv]
        have HV := Lib.hid hv
        clear hca hcb ha hb hl h0 hn hn2 hv he hg hg'
        go_enter Tryz.func45, Tryz.ntmps45
        go_wp2
        go_loop [24] (fun i => ∃ k : Nat, k ≤ n ∧ i = .int .i64 k ∧ xs.take k = ys.take k) (fun i => n - (intOf i).toNat)
        case atStart => exact ⟨0, by omega, rfl, by simp⟩
        case round =>
          obtain ⟨k, hkn, rfl, htk⟩ := hrel
          have HT := Lib.hid htk
          clear htk
          by_cases hlt : k < n
          · have l1 : k < xs.length := by rw [← HN.out]; exact hlt
            have l2 : k < ys.length := by rw [HN2.out]; exact hlt
            have c1 := HA.out k l1
            have c2 := HB.out k l2
            have HS := Lib.hid (take_eq_succ l1 l2 HT.out)
            by_cases he : xs[k] = ys[k]
            · have HT2 := Lib.hid (HS.out.2 he)
              have t1 : (xs[k].toList == ys[k].toList) = true := by rw [he]; simp
              have t2 : (xs[k].toList != ys[k].toList) = false := by rw [he]; simp
              clear HS
              have HE := Lib.hid he
              clear he
              generalize xs[k] = x at *
              generalize ys[k] = y at *
              go_wp2
              go_round
              case rel => exact ⟨k + 1, by omega, by go_num, HT2.out⟩
              case measure => simp [intOf]; omega
            · have hv : v = false := by
                rw [HV.out, decide_eq_false_iff_not]
                rintro rfl
                exact he rfl
              subst hv
              have hne : xs[k].toList ≠ ys[k].toList := by
                rw [Lib.toList_data, Lib.toList_data]
                exact fun h => he (ba_ext h)
              have t1 : (xs[k].toList == ys[k].toList) = false := by rw [beq_eq_false_iff_ne]; exact hne
              have t2 : (xs[k].toList != ys[k].toList) = true := by simpa using hne
              clear HS he hne
              generalize xs[k] = x at *
              generalize ys[k] = y at *
              go_wp2
              go_ret
              exact ⟨rfl, HAL.out n n⟩
          · have hv : v = true := by
              rw [HV.out, decide_eq_true_iff]
              have := HT.out
              rwa [List.take_of_length_le (by rw [← HN.out]; omega), List.take_of_length_le (by rw [HN2.out]; omega)] at this
            subst hv
            go_wp2
            go_ret
            exact ⟨rfl, HAL.out n n⟩
    · have hv : decide (xs = ys) = false := by
        rw [decide_eq_false_iff_not]
        rintro rfl
        exact hl rfl
      rw [hv, Bool.and_false]
      have t1 : ((xs.length : Int) == (ys.length : Int)) = false := by rw [beq_eq_false_iff_ne]; omega
      have t2 : ((xs.length : Int) != (ys.length : Int)) = true := by simpa using (show (xs.length : Int) ≠ ys.length by omega)
      clear hv hl ha hb
      generalize xs.length = n at *
      generalize ys.length = m at *
      go_enter Tryz.func45, Tryz.ntmps45
      go_wp2
      go_ret
      exact ⟨rfl, HAL.out n m⟩
  · have he : (b == b') = false := by rw [beq_eq_false_iff_ne]; exact hbb
    have he2 : (b != b') = true := by simpa using hbb
    rw [he, Bool.false_and]
    clear ha hb
    generalize xs.length = n at *
    generalize ys.length = m at *
    cases b <;> cases b' <;> first | exact absurd rfl hbb | skip
    all_goals
      clear hbb he he2
      go_enter Tryz.func45, Tryz.ntmps45
      go_wp2
      go_ret
      exact ⟨rfl, HAL.out n m⟩
end Go.Proofs.YtembmegllpkmfaaGreatDoor

namespace Go.Proofs.YtembmegllpkmfaaGreatDoor
open Go.RowKit

theorem bcell {W w1 : World} (hb : Below W.heap.size W w1) : (∀ b o, b < W.heap.size → w1.cell? ⟨b, o, none⟩ = W.cell? ⟨b, o, none⟩) ∧ (∀ b o, b < W.heap.size → w1.frozen? ⟨b, o, none⟩ = W.frozen? ⟨b, o, none⟩) :=
  ⟨fun b o h => hb.cell (p := ⟨b, o, none⟩) h, fun b o h => hb.frozen (p := ⟨b, o, none⟩) h⟩
theorem pathO_eq (p : List UInt8) : pathO p = Pt.pathO p := rfl
theorem RdS.drop {w : World} {B : Nat} {g o : Nat} {xs : List ByteArray} (h : RdS w B (some ⟨g, o, none⟩) xs) (k : Nat) : RdS w B (some ⟨g, o + k, none⟩) (xs.drop k) := by
  rcases h with rfl | ⟨g', o', hA, hg, hc⟩
  · left; simp
  · injection hA with hA
    injection hA with h1 h2
    subst h1 h2
    refine .inr ⟨g, o + k, rfl, hg, fun j hj => ?_⟩
    simp only [List.length_drop] at hj
    rw [List.getElem_drop, Nat.add_assoc]
    exact hc (k + j) (by omega)
theorem bs_dropN (xs : List ByteArray) (k : Nat) : bs (xs.drop k) = (bs xs).drop k := by simp [bs]
theorem bs_append (xs ys : List ByteArray) : bs (xs ++ ys) = bs xs ++ bs ys := by simp [bs]
theorem join_drop_le : ∀ (k : Nat) (l : List (List UInt8)), (Lib.join (l.drop k) [47]).length ≤ (Lib.join l [47]).length
  | 0, l => by simp
  | k + 1, [] => by simp
  | k + 1, [x] => by simp [Lib.join_nil]
  | k + 1, x :: y :: r => by
    rw [List.drop_succ_cons, Pm.lib_join_cons]
    have := join_drop_le k (y :: r)
    simp only [List.length_append, List.length_cons]
    omega
theorem caps_step {ps cs : List (List UInt8)} {k : Nat} (h1 : k < ps.length) (h2 : k < cs.length) : Pt.capsOf (ps.drop k) (cs.drop k) = match Pt.capture ps[k] cs[k] with
    | none => none
    | some y => (Pt.capsOf (ps.drop (k + 1)) (cs.drop (k + 1))).map fun r => if Pt.isStar ps[k] then y :: r else r := by
  rw [List.drop_eq_getElem_cons h1, List.drop_eq_getElem_cons h2, Pt.capsOf_cons]
  cases Pt.capture ps[k] cs[k] <;> rfl
/-- The box of a pattern, behind calls that leave it alone. -/
theorem box_cells {w w' : World} {v0 v1 : Value} {t : TypeId} (h : Below (w.alloc (.cells #[v0, v1] t)).heap.size (w.alloc (.cells #[v0, v1] t)) w') :
    w'.cell? ⟨w.heap.size, 0, none⟩ = some v0 ∧ w'.cell? ⟨w.heap.size, 1, none⟩ = some v1 := by
  constructor
  · rw [h.cell (p := ⟨w.heap.size, 0, none⟩) (by simp), cell_of_row _ _ _ _ _ (0, 0) (heap_alloc_new w _)]
    rfl
  · rw [h.cell (p := ⟨w.heap.size, 1, none⟩) (by simp), cell_of_row _ _ _ _ _ (0, 0) (heap_alloc_new w _)]
    rfl

set_option maxHeartbeats 4000000 in
theorem rmatch_any (A : Option Addr) (xs : List ByteArray) (c : Nat) (b : Bool) (p : Pt.Pat) (s : ByteArray) (w : World) (hp : PatR w A xs c b p) (hs : s.size < 4294967281) (hm : MaxL w) :
    Calls Tryz.prog 102 #[patV A xs.length c b, .string s] w (GivesP w (Pt.matchP p s.data.toList)) := by
  obtain ⟨W0, hW0⟩ : ∃ W0, W0 = w.alloc (.cells #[.slice A xs.length c, .bool b] 24) := ⟨_, rfl⟩
  have halloc : Below w.heap.size w W0 := by rw [hW0]; exact (Below.refl _ _).alloc (Nat.le_refl _) _
  have hp0 := hp.keep halloc
  have hm0 := hm.keep halloc hm.size
  have HP := Lib.hid (rpath_any s W0 hs hm0)
  have hmp : Pt.matchP p s.data.toList = if Pt.check p = 0 then
    match Pt.pathO s.data.toList with
    | none => none
    | some l => if Pt.fits p l.length then (Pt.capsOf p.parts l).map fun r => if p.rest then r ++ [Lib.join (l.drop p.parts.length) [47]] else r else none
    else none := rfl
  generalize Pt.matchP p s.data.toList = o at hmp
  cases ho : Pt.pathO s.data.toList with
  | none =>
    have hon : o = none := by rw [hmp, ho]; simp
    subst hon
    rw [pathO_eq, ho] at HP
    have HCk := Lib.hid (fun (w' : World) (hb : Below W0.heap.size W0 w') => rcheck_any A xs c b p w' (hp0.keep hb))
    generalize Pt.check p = ck at HCk
    generalize xs.length = n at *
    subst hW0
    have HAL := Lib.hid halloc
    clear hmp ho hp hp0 halloc hs
    by_cases h0 : ck = 0
    · subst h0
      go_enter Tryz.func102, Tryz.ntmps102
      go_wp2_with fail
      with_reducible refine HP.out.mono ?_
      rintro e w1 ⟨rfl, hb⟩
      obtain ⟨c0, c1⟩ := box_cells hb
      have hz : w.heap.size < w1.heap.size := by have := hb.size; simp at this; omega
      have HB := Lib.hid hb
      clear hb
      go_wp2_with fail
      with_reducible refine (HCk.out _ HB.out).mono ?_
      rintro e w2 ⟨rfl, hb2⟩
      have HB2 := Lib.hid hb2
      clear hb2
      go_wp2
      go_ret2
      exact ⟨rfl, (HAL.out.trans (HB.out.mono (by simp))).trans (HB2.out.mono (by omega))⟩
    · have t1 : ((ck : Int) == 0) = false := by rw [beq_eq_false_iff_ne]; omega
      have t2 : ((ck : Int) != 0) = true := by simpa using (show (ck : Int) ≠ 0 by omega)
      go_enter Tryz.func102, Tryz.ntmps102
      go_wp2_with fail
      with_reducible refine HP.out.mono ?_
      rintro e w1 ⟨rfl, hb⟩
      obtain ⟨c0, c1⟩ := box_cells hb
      have hz : w.heap.size < w1.heap.size := by have := hb.size; simp at this; omega
      have HB := Lib.hid hb
      clear hb
      go_wp2_with fail
      with_reducible refine (HCk.out _ HB.out).mono ?_
      rintro e w2 ⟨rfl, hb2⟩
      have HB2 := Lib.hid hb2
      clear hb2
      go_wp2
      go_ret2
      exact ⟨rfl, (HAL.out.trans (HB.out.mono (by simp))).trans (HB2.out.mono (by omega))⟩
  | some l =>
    rw [pathO_eq, ho] at HP
    have HCk := Lib.hid (fun (w' : World) (hb : Below W0.heap.size W0 w') => rcheck_any A xs c b p w' (hp0.keep hb))
    have hfit : Pt.fits p l.length = if b then decide (xs.length < l.length) else decide (l.length = xs.length) := by
      unfold Pt.fits
      rw [← hp.rest, hp.len]
    obtain ⟨m, hml⟩ : ∃ m, m = l.length := ⟨_, rfl⟩
    rw [← hml] at hfit
    have HML := Lib.hid hml
    by_cases hbad : Pt.check p ≠ 0 ∨ Pt.fits p m = false
    · have hon : o = none := by
        rw [hmp, ho]
        rcases hbad with h | h
        · rw [if_neg h]
        · simp [← hml, h]
      subst hon
      obtain ⟨n, hn⟩ : ∃ n, n = xs.length := ⟨_, rfl⟩
      have hcases : Pt.check p ≠ 0 ∨ (Pt.check p = 0 ∧ m < n) ∨ (Pt.check p = 0 ∧ b = false ∧ n < m) ∨ (Pt.check p = 0 ∧ b = true ∧ m = n) := by
        by_cases hk : Pt.check p = 0
        · rcases hbad with h | h
          · exact absurd hk h
          · rw [hfit, ← hn] at h
            cases b with
            | false => simp at h; right; rcases Nat.lt_or_ge m n with h1 | h1 <;> simp [hk] <;> omega
            | true => simp at h; right; rcases Nat.lt_or_ge m n with h1 | h1 <;> simp [hk] <;> omega
        · exact .inl hk
      rw [← hn] at hW0 ⊢
      have hmx : (m : Int) ≤ 9223372036854775807 := by
        have := (Pt.pathO_some.1 ho).1
        have h2 := segs_le (Lib.join l [47])
        rw [Pm.segs_join l (by rintro rfl; simp [Pt.pathO_some] at ho) fun x hx => Pm.comp_slash ((Pt.pathO_some.1 ho).2.2 x hx)] at h2
        have h3 := congrArg List.length this
        rw [← Lib.size_eq] at h3
        unfold Pm.join at h3
        simp only [List.length_cons] at h3
        omega
      have hnx : (n : Int) ≤ 9223372036854775807 := by
        have := hp.le
        have := hp.cm
        unfold maxLen at this
        omega
      generalize Pt.check p = ck at HCk hcases
      have hckle : (0 : Int) ≤ (ck : Int) := by omega
      rw [← hn] at HCk
      subst hW0
      have HAL := Lib.hid halloc
      clear hmp ho hp hp0 halloc hs hfit hbad hml hn
      rcases hcases with h | ⟨rfl, h⟩ | ⟨rfl, rfl, h⟩ | ⟨rfl, rfl, rfl⟩
      · have t1 : ((ck : Int) == 0) = false := by rw [beq_eq_false_iff_ne]; omega
        have t2 : ((ck : Int) != 0) = true := by simpa using (show (ck : Int) ≠ 0 by omega)
        clear h
        go_enter Tryz.func102, Tryz.ntmps102
        go_wp2_with fail
        with_reducible refine HP.out.mono ?_
        rintro e w1 ⟨v, rfl, B, ys, d, rfl, hby, hd, hdm, hr, hb⟩
        obtain ⟨c0, c1⟩ := box_cells hb
        have hz : w.heap.size < w1.heap.size := by have := hb.size; simp at this; omega
        have HB := Lib.hid hb
        have hyl : ys.length = m := by rw [HML.out, ← hby, bs_length]
        rw [hyl]
        clear hb hby hd hdm hr hyl
        go_wp2_with fail
        with_reducible refine (HCk.out _ HB.out).mono ?_
        rintro e w2 ⟨rfl, hb2⟩
        obtain ⟨c2, f2⟩ := bcell hb2
        have HB2 := Lib.hid hb2
        clear hb2
        go_wp2
        go_ret2
        exact ⟨rfl, (HAL.out.trans (HB.out.mono (by simp))).trans (HB2.out.mono (by omega))⟩
      · have hi : (m : Int) < (n : Int) := by omega
        go_enter Tryz.func102, Tryz.ntmps102
        go_wp2_with fail
        with_reducible refine HP.out.mono ?_
        rintro e w1 ⟨v, rfl, B, ys, d, rfl, hby, hd, hdm, hr, hb⟩
        obtain ⟨c0, c1⟩ := box_cells hb
        have hz : w.heap.size < w1.heap.size := by have := hb.size; simp at this; omega
        have HB := Lib.hid hb
        have hyl : ys.length = m := by rw [HML.out, ← hby, bs_length]
        rw [hyl]
        clear hb hby hd hdm hr hyl
        go_wp2_with fail
        with_reducible refine (HCk.out _ HB.out).mono ?_
        rintro e w2 ⟨rfl, hb2⟩
        obtain ⟨c2, f2⟩ := bcell hb2
        have HB2 := Lib.hid hb2
        clear hb2
        go_wp2
        go_ret2
        exact ⟨rfl, (HAL.out.trans (HB.out.mono (by simp))).trans (HB2.out.mono (by omega))⟩
      · have hi : (n : Int) < (m : Int) := by omega
        have hi2 : ¬ (m : Int) < (n : Int) := by omega
        go_enter Tryz.func102, Tryz.ntmps102
        go_wp2_with fail
        with_reducible refine HP.out.mono ?_
        rintro e w1 ⟨v, rfl, B, ys, d, rfl, hby, hd, hdm, hr, hb⟩
        obtain ⟨c0, c1⟩ := box_cells hb
        have hz : w.heap.size < w1.heap.size := by have := hb.size; simp at this; omega
        have HB := Lib.hid hb
        have hyl : ys.length = m := by rw [HML.out, ← hby, bs_length]
        rw [hyl]
        clear hb hby hd hdm hr hyl
        go_wp2_with fail
        with_reducible refine (HCk.out _ HB.out).mono ?_
        rintro e w2 ⟨rfl, hb2⟩
        obtain ⟨c2, f2⟩ := bcell hb2
        have HB2 := Lib.hid hb2
        clear hb2
        go_wp2
        go_ret2
        exact ⟨rfl, (HAL.out.trans (HB.out.mono (by simp))).trans (HB2.out.mono (by omega))⟩
      · go_enter Tryz.func102, Tryz.ntmps102
        go_wp2_with fail
        with_reducible refine HP.out.mono ?_
        rintro e w1 ⟨v, rfl, B, ys, d, rfl, hby, hd, hdm, hr, hb⟩
        obtain ⟨c0, c1⟩ := box_cells hb
        have hz : w.heap.size < w1.heap.size := by have := hb.size; simp at this; omega
        have HB := Lib.hid hb
        have hyl : ys.length = m := by rw [HML.out, ← hby, bs_length]
        rw [hyl]
        clear hb hby hd hdm hr hyl
        go_wp2_with fail
        with_reducible refine (HCk.out _ HB.out).mono ?_
        rintro e w2 ⟨rfl, hb2⟩
        obtain ⟨c2, f2⟩ := bcell hb2
        have HB2 := Lib.hid hb2
        clear hb2
        go_wp2
        go_ret2
        exact ⟨rfl, (HAL.out.trans (HB.out.mono (by simp))).trans (HB2.out.mono (by omega))⟩
    · have hck : Pt.check p = 0 := by
        rcases Nat.eq_zero_or_pos (Pt.check p) with h | h
        · exact h
        · exact absurd (.inl (by omega)) hbad
      have hfi : Pt.fits p m = true := by
        cases h : Pt.fits p m with
        | true => rfl
        | false => exact absurd (.inr h) hbad
      have hoc : o = (Pt.capsOf p.parts l).map fun r => if b then r ++ [Lib.join (l.drop xs.length) [47]] else r := by
        rw [hmp, if_pos hck, ho]
        simp only
        rw [← hml, hfi, if_pos rfl, hp.rest, hp.len]
      have hn12 : xs.length ≤ 12 := by rw [← hp.len]; exact (Pt.check_ok.1 hck).2
      have hn1 : 1 ≤ xs.length := by rw [← hp.len]; exact Pt.form_pos (Pt.check_ok.1 hck).1
      rw [hfit] at hfi
      have hlj : l = Pm.segs (Lib.join l [47]) := (Pm.segs_join l (by rintro rfl; simp [Pt.pathO_some] at ho) fun x hx => Pm.comp_slash ((Pt.pathO_some.1 ho).2.2 x hx)).symm
      have hjs : (Lib.join l [47]).length ≤ s.size := by
        have h3 := congrArg List.length (Pt.pathO_some.1 ho).1
        rw [← Lib.size_eq] at h3
        unfold Pm.join at h3
        simp only [List.length_cons] at h3
        omega
      have HEL := Lib.hid (show ∀ x ∈ l, x.length ≤ maxLen from fun x hx => by
        rw [hlj] at hx
        have h4 := segs_elem_le _ x hx
        unfold maxLen
        omega)
      have hml9 : m ≤ 4294967300 := by
        have h2 := segs_le (Lib.join l [47])
        rw [← hlj] at h2
        omega
      have HJD := Lib.hid (fun k => Nat.le_trans (join_drop_le k l) hjs)
      have hsz9 : s.size ≤ 4294967281 := by omega
      obtain ⟨n, hn⟩ : ∃ n, n = xs.length := ⟨_, rfl⟩
      rw [← hn] at hW0 hoc hn12 hn1 hfi ⊢
      rw [hck, ← hn] at HCk
      have HN := Lib.hid hn
      have HO := Lib.hid hoc
      have HRD := Lib.hid hp.rd
      have HPP := Lib.hid hp.parts
      have HXS := Lib.hid hp.sz
      have hle := hp.le
      have hcm := hp.cm
      rw [← hn] at hle
      unfold maxLen at hcm
      subst hW0
      have HAL := Lib.hid halloc
      have hfi2 : n ≤ m ∧ (b = false → m = n) ∧ (b = true → n < m) := by
        cases b with
        | false => simp at hfi; exact ⟨by omega, fun _ => hfi, fun h => by cases h⟩
        | true => simp at hfi; exact ⟨by omega, fun h => (by cases h), fun _ => hfi⟩
      obtain ⟨hnm, hfb, hft⟩ := hfi2
      have HFB := Lib.hid hfb
      have HFT := Lib.hid hft
      have g1 : ¬ (m : Int) < (n : Int) := by omega
      have g3 : decide (m < n) = false := by rw [decide_eq_false_iff_not]; omega
      clear hmp ho hp hp0 halloc hs hfit hbad hml hn hck hfi hoc hlj hjs hfb hft
      have main : (b = false ∧ ¬ (n : Int) < (m : Int) ∧ decide (n < m) = false) ∨ (b = true ∧ ((m : Int) == (n : Int)) = false ∧ decide (n < m) = true) := by
        cases b with
        | false => left; have := HFB.out rfl; exact ⟨rfl, by omega, by rw [decide_eq_false_iff_not]; omega⟩
        | true => right; have := HFT.out rfl; exact ⟨rfl, by rw [beq_eq_false_iff_ne]; omega, by rw [decide_eq_true_iff]; omega⟩
      rcases main with ⟨rfl, g2, g4⟩ | ⟨rfl, g2, g4⟩
      all_goals
        go_enter Tryz.func102, Tryz.ntmps102
        go_wp2_with fail
        with_reducible refine HP.out.mono ?_
        rintro e w1 ⟨v, rfl, B, ys, d, rfl, hby, hd, hdm, hr, hb⟩
        obtain ⟨c0, c1⟩ := box_cells hb
        have hz : w.heap.size < w1.heap.size := by have := hb.size; simp at this; omega
        have HB := Lib.hid hb
        have HBY := Lib.hid hby
        have HR := Lib.hid hr
        have hyl : ys.length = m := by rw [HML.out, ← hby, bs_length]
        have HYL := Lib.hid hyl
        rw [hyl] at hd
        rw [hyl]
        have HDM := Lib.hid hdm
        clear hb hby hdm hr hyl
        go_wp2_with fail
        with_reducible refine (HCk.out _ HB.out).mono ?_
        rintro e w2 ⟨rfl, hb2⟩
        obtain ⟨c2, f2⟩ := bcell hb2
        have HB2 := Lib.hid hb2
        have hz2 := hb2.size
        have HBW := Lib.hid (show Below w.heap.size w w2 from (HAL.out.trans (HB.out.mono (by simp))).trans (hb2.mono (by omega)))
        clear hb2
        go_wp2
        go_loopw [9, 61] (fun out i wr => ∃ (k : Nat) (cs : List ByteArray), k ≤ n ∧ i = .int .i64 k ∧ OwnS wr w2.heap.size out cs ∧ cs.length ≤ k ∧ Below w2.heap.size w2 wr ∧ Pt.capsOf p.parts l = (Pt.capsOf (p.parts.drop k) (l.drop k)).map (fun r => bs cs ++ r)) (fun _ i _ => n - (intOf i).toNat)
        case atStart => exact ⟨0, [], by omega, rfl, OwnS.empty _ _, by simp, Below.refl _ _, by simp [bs]⟩
        case round =>
          obtain ⟨k, cs, hkn, rfl, hown, hcsk, hbr, hcap⟩ := hrel
          obtain ⟨cr, fr⟩ := bcell hbr
          have hzr := hbr.size
          have HOWN := Lib.hid hown
          have HBR := Lib.hid hbr
          have HCAP := Lib.hid hcap
          have HBA := Lib.hid (show Below w.heap.size w wr from HBW.out.trans (hbr.mono (by omega)))
          have HB1 := Lib.hid (show Below w1.heap.size w1 wr from HB2.out.trans (hbr.mono hz2))
          have e3 := (HB1.out.cell (p := ⟨w.heap.size, 1, none⟩) hz).trans c1
          clear hown hbr hcap
          by_cases hlt : k < n
          · have hlx : k < xs.length := by rw [← HN.out]; exact hlt
            have hly : k < ys.length := by rw [HYL.out]; omega
            obtain ⟨g, og, rfl, hg, hcell⟩ := HRD.out.cells (by omega)
            obtain ⟨g', og', rfl, hg', hcell'⟩ := HR.out.cells (by omega)
            have e1 := (HBA.out.cell (p := ⟨g, og + k, none⟩) hg).trans (hcell k hlx)
            have e2 := (HB1.out.cell (p := ⟨g', og' + k, none⟩) hg').trans (hcell' k hly)
            have HST := Lib.hid (caps_step (ps := p.parts) (cs := l) (k := k) (by rw [← HPP.out, bs_length]; exact hlx) (by rw [← HBY.out, bs_length]; exact hly))
            have ep : p.parts[k]'(by rw [← HPP.out, bs_length]; exact hlx) = xs[k].data.toList := by
              rw [← bs_get xs k hlx]
              simp only [HPP.out]
            have el : l[k]'(by rw [← HBY.out, bs_length]; exact hly) = ys[k].data.toList := by
              rw [← bs_get ys k hly]
              simp only [HBY.out]
            have hsx := HXS.out _ (List.getElem_mem hlx)
            have hsy : ys[k].size ≤ maxLen := by
              rw [Lib.size_eq, ← el]
              exact HEL.out _ (List.getElem_mem _)
            rw [ep, el] at HST
            have hdm : (d : Int) ≤ 9223372036854775807 := by have := HDM.out; unfold maxLen at this; omega
            clear hcell hcell' ep el
            generalize xs[k] = x at *
            generalize ys[k] = y at *
            have HCa := Lib.hid (fun w : World => rcapture_any x y w hsx hsy)
            have HSt := Lib.hid (fun w : World => rstar_any x w hsx)
            have his : Pt.isStar x.data.toList = (Pt.star x.data.toList).isSome := rfl
            rw [his] at HST
            clear hsx hsy his
            cases hca : Pt.capture x.data.toList y.data.toList with
            | none =>
              rw [hca] at HCa HST
              have hon : o = none := by rw [HO.out, HCAP.out, HST.out]; rfl
              subst hon
              go_wp2_with fail
              with_reducible refine (HCa.out _).mono ?_
              rintro e w' ⟨q, rfl, _, rfl⟩
              go_wp2
              go_ret2
              exact ⟨rfl, HBA.out⟩
            | some z =>
              rw [hca] at HCa HST
              cases hsx2 : Pt.star x.data.toList with
              | none =>
                rw [hsx2] at HSt HST
                go_wp2_with fail
                with_reducible refine (HCa.out _).mono ?_
                rintro e w' ⟨q, rfl, _, rfl⟩
                go_wp2_with fail
                with_reducible refine (HSt.out _).mono ?_
                rintro e w' ⟨rfl, rfl⟩
                go_wp2
                go_roundw
                case rel =>
                  refine ⟨k + 1, cs, by omega, by go_num, HOWN.out, by omega, HBR.out, ?_⟩
                  rw [HCAP.out, HST.out]
                  simp
                case measure => simp [intOf]; omega
              | some u =>
                rw [hsx2] at HSt HST
                go_wp2_with fail
                with_reducible refine (HCa.out _).mono ?_
                rintro e w' ⟨q, rfl, hq, rfl⟩
                have hqz : q = z := hq z rfl
                subst hqz
                clear hq
                go_wp2_with fail
                with_reducible refine (HSt.out _).mono ?_
                rintro e w' ⟨rfl, rfl⟩
                go_wp2_with (refine wpList_append_ss rfl _ _ rfl w2.heap.size _ cs rfl (HOWN.out.below ((Below.refl _ _).alloc (Nat.le_refl _) _)) (some ⟨wr.heap.size, 0, none⟩) [⟨q.toArray⟩] 1 rfl (new_one wr ⟨q.toArray⟩ _) (fun h => by cases h) (by simp; omega) (by simp; omega) ?_; intro v' w' hown' hb')
                have HO2 := Lib.hid hown'
                have HB3 := Lib.hid (show Below w2.heap.size wr w' from ((Below.refl _ _).alloc hzr _).trans hb')
                clear hown' hb'
                go_wp2
                go_roundw
                case rel =>
                  refine ⟨k + 1, cs ++ [⟨q.toArray⟩], by omega, by go_num, HO2.out, by simp; omega, HBR.out.trans HB3.out, ?_⟩
                  rw [HCAP.out, HST.out, bs_append]
                  simp [bs, Function.comp_def]
                case measure => simp [intOf]; omega
          · obtain rfl : k = n := by omega
            have hcap : Pt.capsOf p.parts l = some (bs cs) := by
              rw [HCAP.out, List.drop_of_length_le (show p.parts.length ≤ k by rw [← HPP.out, bs_length, ← HN.out]; omega)]
              simp [Pt.capsOf]
            have HCP := Lib.hid hcap
            clear hcap
            first
            | (have hb0 : (false = true) = False := by simp
               have hoc : o = some (bs cs) := by
                 have := HO.out
                 rw [HCP.out] at this
                 simpa using this
               have HFBB := HFB.out (by simp)
               subst hoc
               obtain ⟨A', c', rfl, hc', hcm', hr', _⟩ := HOWN.out.form
               have HC' := Lib.hid hc'
               have HR' := Lib.hid hr'
               have HCM' := Lib.hid hcm'
               clear hc' hr' hcm' hb0 HFBB
               go_wp2
               go_ret2
               exact ⟨_, rfl, A', cs, c', rfl, rfl, HC'.out, HCM'.out, HR'.out, HBA.out⟩)
            | (have hoc : o = some (bs cs ++ [Lib.join (l.drop k) [47]]) := by
                 have := HO.out
                 rw [HCP.out] at this
                 simpa using this
               have hkm : k < m := HFT.out (by simp)
               subst hoc
               obtain ⟨g', og', rfl, hg', hcell'⟩ := HR.out.cells (by rw [HYL.out]; omega)
               have hyd : (ys.drop k).length = m - k := by rw [List.length_drop, HYL.out]
               have hrd : RdS wr wr.heap.size (some ⟨g', og' + k, none⟩) (ys.drop k) := ((HR.out.keep HB1.out).more HB1.out.size).drop k
               have HJ := Lib.hid (sjoin_any (some ⟨g', og' + k, none⟩) (ys.drop k) (d - k) ⟨#[47]⟩ wr hrd (by rw [hyd]; omega) rfl (by rw [bs_dropN, HBY.out]; have := HJD.out k; omega) (by rw [hyd]; omega))
               rw [hyd, bs_dropN, HBY.out] at HJ
               have i1 : (k : Int) ≤ (m : Int) := by omega
               have i2 : (m : Int) ≤ (d : Int) := by omega
               have i3 : ¬ d = k := by omega
               have i4 : (d : Int) ≤ 9223372036854775807 := by have := HDM.out; unfold maxLen at this; omega
               clear hcell' hyd hrd
               go_wp2_with fail
               with_reducible refine HJ.out.mono ?_
               rintro e w4 ⟨rfl, hb4⟩
               have hz4 := hb4.size
               have HB4 := Lib.hid hb4
               clear hb4
               go_wp2_with (refine wpList_append_ss rfl _ _ rfl w2.heap.size _ cs rfl ((HOWN.out.below HB4.out).below ((Below.refl _ _).alloc (Nat.le_refl _) _)) (some ⟨w4.heap.size, 0, none⟩) [⟨(Lib.join (l.drop k) [47]).toArray⟩] 1 rfl (new_one w4 _ _) (fun h => by cases h) (by simp; omega) (by simp; omega) ?_; intro v' w' hown' hb')
               obtain ⟨A', c', rfl, hc', hcm', hr', _⟩ := hown'.form
               have HC' := Lib.hid hc'
               have HR' := Lib.hid hr'
               have HCM' := Lib.hid hcm'
               have HB5 := Lib.hid (show Below w2.heap.size w4 w' from ((Below.refl _ _).alloc (by omega) _).trans hb')
               clear hc' hr' hcm' hown' hb'
               go_wp2
               go_ret2
               refine ⟨_, rfl, A', cs ++ [⟨(Lib.join (l.drop k) [47]).toArray⟩], c', rfl, ?_, HC'.out, HCM'.out, HR'.out, (HBA.out.trans (HB4.out.mono (by omega))).trans (HB5.out.mono (by omega))⟩
               rw [bs_append]
               rfl)
end Go.Proofs.YtembmegllpkmfaaGreatDoor

namespace Go.Proofs.YtembmegllpkmfaaGreatDoor
open Go.RowKit

theorem box2_cells {w w' : World} {v0 v1 u0 u1 : Value} {t : TypeId} (h : Below ((w.alloc (.cells #[v0, v1] t)).alloc (.cells #[u0, u1] t)).heap.size ((w.alloc (.cells #[v0, v1] t)).alloc (.cells #[u0, u1] t)) w') :
    w'.cell? ⟨w.heap.size, 0, none⟩ = some v0 ∧ w'.cell? ⟨w.heap.size, 1, none⟩ = some v1 ∧ w'.cell? ⟨w.heap.size + 1, 0, none⟩ = some u0 ∧ w'.cell? ⟨w.heap.size + 1, 1, none⟩ = some u1 := by
  have h1 : Below (w.alloc (.cells #[v0, v1] t)).heap.size (w.alloc (.cells #[v0, v1] t)) w' := ((Below.refl _ _).alloc (Nat.le_refl _) _).trans (h.mono (by simp))
  obtain ⟨a, b⟩ := box_cells h1
  obtain ⟨c, d⟩ := box_cells h
  simp only [World.alloc, Array.size_push] at c d
  exact ⟨a, b, c, d⟩
theorem in_step {ps qs : List (List UInt8)} {k : Nat} (h1 : k < ps.length) (h2 : k < qs.length) : Pt.allIn (ps.drop k) (qs.drop k) = (Pt.inside ps[k] qs[k] && Pt.allIn (ps.drop (k + 1)) (qs.drop (k + 1))) := by
  rw [List.drop_eq_getElem_cons h1, List.drop_eq_getElem_cons h2, Pt.allIn]
theorem in_nil (ps : List (List UInt8)) : Pt.allIn ps [] = true := by cases ps <;> rfl

set_option maxHeartbeats 8000000 in
theorem rwithin_any (A B : Option Addr) (xs ys : List ByteArray) (c d : Nat) (b b' : Bool) (p q : Pt.Pat) (w : World) (hp : PatR w A xs c b p) (hq : PatR w B ys d b' q) :
    Calls Tryz.prog 95 #[patV A xs.length c b, patV B ys.length d b'] w (GivesBB w (Pt.within p q)) := by
  obtain ⟨W0, hW0⟩ : ∃ W0, W0 = (w.alloc (.cells #[.slice A xs.length c, .bool b] 24)).alloc (.cells #[.slice B ys.length d, .bool b'] 24) := ⟨_, rfl⟩
  have halloc : Below w.heap.size w W0 := by rw [hW0]; exact ((Below.refl _ _).alloc (Nat.le_refl _) _).alloc (by simp) _
  have hp0 := hp.keep halloc
  have hq0 := hq.keep halloc
  have HCp := Lib.hid (fun (w' : World) (hb : Below W0.heap.size W0 w') => rcheck_any A xs c b p w' (hp0.keep hb))
  have HCq := Lib.hid (fun (w' : World) (hb : Below W0.heap.size W0 w') => rcheck_any B ys d b' q w' (hq0.keep hb))
  have hv : Pt.within p q = (decide (Pt.check p = 0) && decide (Pt.check q = 0) && Pt.counts p q && Pt.allIn p.parts q.parts) := rfl
  have hco : Pt.counts p q = (decide (ys.length ≤ xs.length) && (if b' then decide (ys.length < xs.length) || b else !b && decide (xs.length = ys.length))) := by
    unfold Pt.counts
    rw [hp.len, hq.len, ← hp.rest, ← hq.rest]
  rw [hco] at hv
  generalize Pt.within p q = v at hv
  have hpx : (xs.length : Int) ≤ 9223372036854775807 := by have := hp.le; have := hp.cm; unfold maxLen at this; omega
  have hqx : (ys.length : Int) ≤ 9223372036854775807 := by have := hq.le; have := hq.cm; unfold maxLen at this; omega
  have HRA := Lib.hid hp.rd
  have HRB := Lib.hid hq.rd
  have HPA := Lib.hid hp.parts
  have HPB := Lib.hid hq.parts
  have HXA := Lib.hid hp.sz
  have HXB := Lib.hid hq.sz
  have hlea := hp.le
  have hleb := hq.le
  obtain ⟨n, hn⟩ : ∃ n, n = xs.length := ⟨_, rfl⟩
  obtain ⟨m, hmm⟩ : ∃ m, m = ys.length := ⟨_, rfl⟩
  rw [← hn, ← hmm] at hW0 hv ⊢
  rw [← hn] at hpx hlea HCp
  rw [← hmm] at hqx hleb HCq
  have HN := Lib.hid hn
  have HM := Lib.hid hmm
  generalize Pt.check p = k1 at HCp hv
  generalize Pt.check q = k2 at HCq hv
  subst hW0
  have HAL := Lib.hid halloc
  clear hp hq hp0 hq0 hco hn hmm halloc
  by_cases hk1 : k1 = 0
  · subst hk1
    by_cases hk2 : k2 = 0
    · subst hk2
      by_cases hlt : n < m
      · have hf : v = false := by rw [hv, decide_eq_false (show ¬ m ≤ n by omega)]; simp
        subst hf
        have g1 : (n : Int) < (m : Int) := by omega
        clear hv
        go_enter Tryz.func95, Tryz.ntmps95
        go_wp2_with fail
        with_reducible refine (HCp.out _ (Below.refl _ _)).mono ?_
        rintro e w1 ⟨rfl, hb1⟩
        obtain ⟨c0, c1, c2, c3⟩ := box2_cells hb1
        have hz1 := hb1.size
        have HB1 := Lib.hid hb1
        clear hb1
        simp at hz1
        go_wp2_with fail
        with_reducible refine (HCq.out _ HB1.out).mono ?_
        rintro e w2 ⟨rfl, hb2⟩
        obtain ⟨d0, d1, d2, d3⟩ := box2_cells (HB1.out.trans (hb2.mono HB1.out.size))
        have HB2 := Lib.hid hb2
        clear hb2 c0 c1 c2 c3
        go_wp2
        go_ret
        exact ⟨rfl, (HAL.out.trans (HB1.out.mono (by simp; omega))).trans (HB2.out.mono (by omega))⟩
      · have g1 : ¬ (n : Int) < (m : Int) := by omega
        have g2 : decide (n < m) = false := by rw [decide_eq_false_iff_not]; exact hlt
        rw [decide_eq_true (show m ≤ n by omega)] at hv
        have hcs : (b' = false ∧ b = true ∧ v = false) ∨ (b' = false ∧ b = false ∧ m < n ∧ v = false) ∨ (b' = true ∧ b = false ∧ m = n ∧ v = false) ∨
            (v = Pt.allIn p.parts q.parts ∧ ((b' = false ∧ b = false ∧ m = n) ∨ (b' = true ∧ b = true ∧ m = n) ∨ (b' = true ∧ b = true ∧ m < n) ∨ (b' = true ∧ b = false ∧ m < n))) := by
          cases b' with
          | false =>
            cases b with
            | true => left; rw [hv]; simp
            | false =>
              by_cases hx : m < n
              · right; left; rw [hv]; simp [hx]; omega
              · right; right; right; rw [hv]; simp; omega
          | true =>
            cases b with
            | true =>
              right; right; right
              rcases Nat.lt_or_ge m n with h | h
              · rw [hv]; simp [h]
              · rw [hv]; simp; omega
            | false =>
              by_cases hx : m < n
              · right; right; right; rw [hv]; simp [hx]
              · right; right; left; rw [hv]; simp; omega
        have HV0 := Lib.hid hv
        clear hv hlt
        rcases hcs with ⟨rfl, rfl, rfl⟩ | ⟨rfl, rfl, h, rfl⟩ | ⟨rfl, rfl, rfl, rfl⟩ | ⟨hva, hcs⟩
        · clear HV0
          go_enter Tryz.func95, Tryz.ntmps95
          go_wp2_with fail
          with_reducible refine (HCp.out _ (Below.refl _ _)).mono ?_
          rintro e w1 ⟨rfl, hb1⟩
          obtain ⟨c0, c1, c2, c3⟩ := box2_cells hb1
          have hz1 := hb1.size
          have HB1 := Lib.hid hb1
          clear hb1
          simp at hz1
          go_wp2_with fail
          with_reducible refine (HCq.out _ HB1.out).mono ?_
          rintro e w2 ⟨rfl, hb2⟩
          obtain ⟨d0, d1, d2, d3⟩ := box2_cells (HB1.out.trans (hb2.mono HB1.out.size))
          have HB2 := Lib.hid hb2
          clear hb2 c0 c1 c2 c3
          go_wp2
          go_ret
          exact ⟨rfl, (HAL.out.trans (HB1.out.mono (by simp; omega))).trans (HB2.out.mono (by omega))⟩
        · have g3 : (m : Int) < (n : Int) := by omega
          clear HV0
          go_enter Tryz.func95, Tryz.ntmps95
          go_wp2_with fail
          with_reducible refine (HCp.out _ (Below.refl _ _)).mono ?_
          rintro e w1 ⟨rfl, hb1⟩
          obtain ⟨c0, c1, c2, c3⟩ := box2_cells hb1
          have hz1 := hb1.size
          have HB1 := Lib.hid hb1
          clear hb1
          simp at hz1
          go_wp2_with fail
          with_reducible refine (HCq.out _ HB1.out).mono ?_
          rintro e w2 ⟨rfl, hb2⟩
          obtain ⟨d0, d1, d2, d3⟩ := box2_cells (HB1.out.trans (hb2.mono HB1.out.size))
          have HB2 := Lib.hid hb2
          clear hb2 c0 c1 c2 c3
          go_wp2
          go_ret
          exact ⟨rfl, (HAL.out.trans (HB1.out.mono (by simp; omega))).trans (HB2.out.mono (by omega))⟩
        · clear HV0
          go_enter Tryz.func95, Tryz.ntmps95
          go_wp2_with fail
          with_reducible refine (HCp.out _ (Below.refl _ _)).mono ?_
          rintro e w1 ⟨rfl, hb1⟩
          obtain ⟨c0, c1, c2, c3⟩ := box2_cells hb1
          have hz1 := hb1.size
          have HB1 := Lib.hid hb1
          clear hb1
          simp at hz1
          go_wp2_with fail
          with_reducible refine (HCq.out _ HB1.out).mono ?_
          rintro e w2 ⟨rfl, hb2⟩
          obtain ⟨d0, d1, d2, d3⟩ := box2_cells (HB1.out.trans (hb2.mono HB1.out.size))
          have HB2 := Lib.hid hb2
          clear hb2 c0 c1 c2 c3
          go_wp2
          go_ret
          exact ⟨rfl, (HAL.out.trans (HB1.out.mono (by simp; omega))).trans (HB2.out.mono (by omega))⟩
        · have HVA := Lib.hid hva
          have hmn : m ≤ n := by omega
          clear hva HV0
          have hcs2 : (b' = false ∧ b = false ∧ ¬ (m : Int) < (n : Int) ∧ decide (m < n) = false) ∨ (b' = true ∧ b = true ∧ ((n : Int) == (m : Int)) = true ∧ decide (m < n) = false) ∨ (b' = true ∧ b = true ∧ ((n : Int) == (m : Int)) = false ∧ decide (m < n) = true) ∨ (b' = true ∧ b = false ∧ ((n : Int) == (m : Int)) = false ∧ decide (m < n) = true) := by
            rcases hcs with ⟨h1, h2, h3⟩ | ⟨h1, h2, h3⟩ | ⟨h1, h2, h3⟩ | ⟨h1, h2, h3⟩
            · exact .inl ⟨h1, h2, by omega, by rw [decide_eq_false_iff_not]; omega⟩
            · exact .inr (.inl ⟨h1, h2, by rw [beq_iff_eq]; omega, by rw [decide_eq_false_iff_not]; omega⟩)
            · exact .inr (.inr (.inl ⟨h1, h2, by rw [beq_eq_false_iff_ne]; omega, by rw [decide_eq_true_iff]; omega⟩))
            · exact .inr (.inr (.inr ⟨h1, h2, by rw [beq_eq_false_iff_ne]; omega, by rw [decide_eq_true_iff]; omega⟩))
          clear hcs
          rcases hcs2 with ⟨rfl, rfl, g4, g5⟩ | ⟨rfl, rfl, g4, g5⟩ | ⟨rfl, rfl, g4, g5⟩ | ⟨rfl, rfl, g4, g5⟩
          all_goals
            go_enter Tryz.func95, Tryz.ntmps95
            go_wp2_with fail
            with_reducible refine (HCp.out _ (Below.refl _ _)).mono ?_
            rintro e w1 ⟨rfl, hb1⟩
            obtain ⟨c0, c1, c2, c3⟩ := box2_cells hb1
            have hz1 := hb1.size
            have HB1 := Lib.hid hb1
            clear hb1
            simp at hz1
            go_wp2_with fail
            with_reducible refine (HCq.out _ HB1.out).mono ?_
            rintro e w2 ⟨rfl, hb2⟩
            obtain ⟨d0, d1, d2, d3⟩ := box2_cells (HB1.out.trans (hb2.mono HB1.out.size))
            have HB2 := Lib.hid hb2
            clear hb2 c0 c1 c2 c3
            have HBW := Lib.hid (show Below w.heap.size w w2 from (HAL.out.trans (HB1.out.mono (by simp; omega))).trans (HB2.out.mono (by omega)))
            go_wp2
            go_loop [59] (fun i => ∃ k : Nat, k ≤ m ∧ i = .int .i64 k ∧ Pt.allIn (p.parts.drop k) (q.parts.drop k) = v) (fun i => m - (intOf i).toNat)
            case atStart => exact ⟨0, by omega, rfl, by rw [HVA.out]; simp⟩
            case round =>
              obtain ⟨k, hkm, rfl, hall⟩ := hrel
              have HA := Lib.hid hall
              clear hall
              by_cases hkl : k < m
              · have l1 : k < xs.length := by rw [← HN.out]; omega
                have l2 : k < ys.length := by rw [← HM.out]; exact hkl
                obtain ⟨ga, oa, rfl, hga, hca⟩ := HRA.out.cells (by omega)
                obtain ⟨gb, ob, rfl, hgb, hcb⟩ := HRB.out.cells (by omega)
                have e1 := (HBW.out.cell (p := ⟨ga, oa + k, none⟩) hga).trans (hca k l1)
                have e2 := (HBW.out.cell (p := ⟨gb, ob + k, none⟩) hgb).trans (hcb k l2)
                have HST := Lib.hid (in_step (ps := p.parts) (qs := q.parts) (k := k) (by rw [← HPA.out, bs_length]; exact l1) (by rw [← HPB.out, bs_length]; exact l2))
                have ep : p.parts[k]'(by rw [← HPA.out, bs_length]; exact l1) = xs[k].data.toList := by
                  rw [← bs_get xs k l1]
                  simp only [HPA.out]
                have eq : q.parts[k]'(by rw [← HPB.out, bs_length]; exact l2) = ys[k].data.toList := by
                  rw [← bs_get ys k l2]
                  simp only [HPB.out]
                rw [ep, eq] at HST
                have HI := Lib.hid (fun w : World => rinside_any xs[k] ys[k] w (HXA.out _ (List.getElem_mem l1)) (HXB.out _ (List.getElem_mem l2)))
                clear hca hcb ep eq
                generalize xs[k] = x at *
                generalize ys[k] = y at *
                have hkn : (k : Int) < (n : Int) := by omega
                cases hi : Pt.inside x.data.toList y.data.toList with
                | true =>
                  rw [hi] at HI HST
                  go_wp2_with fail
                  with_reducible refine (HI.out _).mono ?_
                  rintro e w' ⟨rfl, rfl⟩
                  go_wp2
                  go_round
                  case rel => exact ⟨k + 1, by omega, by go_num, by have := HST.out; rw [HA.out] at this; simpa using this.symm⟩
                  case measure => simp [intOf]; omega
                | false =>
                  rw [hi] at HI HST
                  have hvf : v = false := by have := HST.out; rw [HA.out] at this; simpa using this
                  subst hvf
                  go_wp2_with fail
                  with_reducible refine (HI.out _).mono ?_
                  rintro e w' ⟨rfl, rfl⟩
                  go_wp2
                  go_ret
                  exact ⟨rfl, HBW.out⟩
              · have hvt : v = true := by
                  rw [← HA.out, List.drop_of_length_le (show q.parts.length ≤ k by rw [← HPB.out, bs_length, ← HM.out]; omega)]
                  exact in_nil _
                subst hvt
                go_wp2
                go_ret
                exact ⟨rfl, HBW.out⟩
    · have hf : v = false := by rw [hv, decide_eq_false hk2]; simp
      subst hf
      have t1 : ((k2 : Int) == 0) = false := by rw [beq_eq_false_iff_ne]; omega
      have t2 : ((k2 : Int) != 0) = true := by simpa using (show (k2 : Int) ≠ 0 by omega)
      clear hv hk2
      go_enter Tryz.func95, Tryz.ntmps95
      go_wp2_with fail
      with_reducible refine (HCp.out _ (Below.refl _ _)).mono ?_
      rintro e w1 ⟨rfl, hb1⟩
      obtain ⟨c0, c1, c2, c3⟩ := box2_cells hb1
      have hz1 := hb1.size
      have HB1 := Lib.hid hb1
      clear hb1
      simp at hz1
      go_wp2_with fail
      with_reducible refine (HCq.out _ HB1.out).mono ?_
      rintro e w2 ⟨rfl, hb2⟩
      obtain ⟨d0, d1, d2, d3⟩ := box2_cells (HB1.out.trans (hb2.mono HB1.out.size))
      have HB2 := Lib.hid hb2
      clear hb2 c0 c1 c2 c3
      go_wp2
      go_ret
      exact ⟨rfl, (HAL.out.trans (HB1.out.mono (by simp; omega))).trans (HB2.out.mono (by omega))⟩
  · have hf : v = false := by rw [hv, decide_eq_false hk1]; simp
    subst hf
    have t1 : ((k1 : Int) == 0) = false := by rw [beq_eq_false_iff_ne]; omega
    have t2 : ((k1 : Int) != 0) = true := by simpa using (show (k1 : Int) ≠ 0 by omega)
    clear hv hk1
    go_enter Tryz.func95, Tryz.ntmps95
    go_wp2_with fail
    with_reducible refine (HCp.out _ (Below.refl _ _)).mono ?_
    rintro e w1 ⟨rfl, hb1⟩
    have HB1 := Lib.hid hb1
    clear hb1
    go_wp2
    go_ret
    exact ⟨rfl, HAL.out.trans (HB1.out.mono (by simp; omega))⟩
end Go.Proofs.YtembmegllpkmfaaGreatDoor

namespace Go.Proofs.YtembmegllpkmfaaGreatDoor
open Go.RowKit

def GivesPat (w : World) (p : Pt.Pat) (n : Nat) (e : Ending) (w' : World) : Prop :=
  ∃ A xs c b, e = .returned (.tuple #[patV A (List.length xs) c b, .int .i64 (n : Int)]) ∧ PatR w' A xs c b p ∧ Below w.heap.size w w'
theorem patR_zero (w : World) : PatR w none [] 0 false ⟨[], false⟩ := ⟨.inl rfl, rfl, rfl, by simp, by simp, fun _ => rfl, by simp⟩
theorem box_free {w w' : World} {v0 v1 : Value} {t : TypeId} (h : Below (w.alloc (.cells #[v0, v1] t)).heap.size (w.alloc (.cells #[v0, v1] t)) w') (k : Nat) : w'.frozen? ⟨w.heap.size, k, none⟩ = false := by
  rw [h.frozen (p := ⟨w.heap.size, k, none⟩) (by simp)]
  exact frozen_of_row _ _ _ _ _ (heap_alloc_new w _)
theorem RdS.store {w : World} {B : Nat} {A : Option Addr} {xs : List ByteArray} (h : RdS w B A xs) (a : Addr) (u v : Value) (hv : w.cell? a = some v) (hne : ∀ s, v ≠ .string s) : RdS (w.setCell a u) B A xs := by
  rcases h with h | ⟨g, o, hA, hg, hc⟩
  · exact .inl h
  · refine .inr ⟨g, o, hA, hg, fun j hj => ?_⟩
    have hp : a ≠ ⟨g, o + j, none⟩ := by
      rintro rfl
      rw [hc j hj] at hv
      injection hv with hv
      exact hne _ hv.symm
    exact (World.cell?_setCell_other _ _ _ _ hp).trans (hc j hj)
theorem bs_takeN (xs : List ByteArray) (k : Nat) : bs (xs.take k) = (bs xs).take k := by simp [bs]
theorem bs_last {xs : List ByteArray} {n : Nat} (hn : xs.length = n + 1) : (bs xs).getLast? = some (xs[n]'(by omega)).data.toList := by
  have e : (bs xs)[(bs xs).length - 1]? = (bs xs)[n]? := by
    congr 1
    rw [bs_length]
    omega
  rw [List.getLast?_eq_getElem?, e, List.getElem?_eq_getElem (by rw [bs_length]; omega), bs_get xs n (by omega)]
theorem PatR.store2 {w : World} {A : Option Addr} {xs : List ByteArray} {c : Nat} {b : Bool} {p : Pt.Pat} (h : PatR w A xs c b p) (r : Nat) (u0 u1 v0 v1 : Value) (e0 : w.cell? ⟨r, 0, none⟩ = some v0) (e1 : w.cell? ⟨r, 1, none⟩ = some v1)
    (h0 : ∀ s, v0 ≠ .string s) (h1 : ∀ s, v1 ≠ .string s) : PatR ((w.setCell ⟨r, 0, none⟩ u0).setCell ⟨r, 1, none⟩ u1) A xs c b p := by
  refine ⟨?_, h.parts, h.rest, h.le, h.cm, h.nil, h.sz⟩
  have hr := (h.rd.store ⟨r, 0, none⟩ u0 v0 e0 h0).store ⟨r, 1, none⟩ u1 v1 ((World.cell?_setCell_other _ _ _ _ (by simp)).trans e1) h1
  exact hr.more (by simp [World.setCell])
end Go.Proofs.YtembmegllpkmfaaGreatDoor
