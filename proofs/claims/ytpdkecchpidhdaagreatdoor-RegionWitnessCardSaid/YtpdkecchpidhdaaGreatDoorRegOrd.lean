/- The reference's order of regions' paths. -/
import Derived.Test.YtpdkecchpidhdaaGreatDoorRegFnA
namespace Go.Proofs.YtpdkecchpidhdaaGreatDoor
open Go.RowKit
set_option linter.unusedVariables false
/-- An integer, and what was there is as it was. -/
def GivesZB (w : World) (z : Int) (e : Ending) (w' : World) : Prop := e = .returned (.int .i64 z) ∧ Below w.heap.size w w'
theorem ordL_drop : ∀ (k : Nat) (l m : List (List UInt8)), k ≤ l.length → k ≤ m.length → l.take k = m.take k → Pt.Rg.ordL l m = Pt.Rg.ordL (l.drop k) (m.drop k)
  | 0, _, _, _, _, _ => rfl
  | k + 1, [], _, h, _, _ => by simp at h
  | k + 1, _ :: _, [], _, h, _ => by simp at h
  | k + 1, x :: l, y :: m, h1, h2, h => by
    simp only [List.take_succ_cons, List.cons.injEq] at h
    rw [List.drop_succ_cons, List.drop_succ_cons, ← ordL_drop k l m (by simpa using h1) (by simpa using h2) h.2, Pt.Rg.ordL, h.1, if_pos (Pt.Rg.ordC_self _)]
theorem ordL_at {l m : List (List UInt8)} {k : Nat} (h1 : k < l.length) (h2 : k < m.length) (h : l.take k = m.take k) (hn : Pt.Rg.ordC l[k] m[k] ≠ 0) : Pt.Rg.ordL l m = Pt.Rg.ordC l[k] m[k] := by
  rw [ordL_drop k l m (by omega) (by omega) h, List.drop_eq_getElem_cons h1, List.drop_eq_getElem_cons h2, Pt.Rg.ordL, if_neg hn]
theorem ordL_end {l m : List (List UInt8)} (h : l = m) : Pt.Rg.ordL l m = 0 := by
  subst h
  have := Pt.Rg.ordL_neg l l
  omega
theorem lib_join_elem {x : List UInt8} : ∀ {l : List (List UInt8)}, x ∈ l → x.length ≤ (Lib.join l [47]).length
  | [], h => by cases h
  | [y], h => by rw [List.mem_singleton.1 h, Lib.join_one]; exact Nat.le_refl _
  | y :: z :: r, h => by
    rw [Pm.lib_join_cons, List.length_append, List.length_cons]
    rcases List.mem_cons.1 h with rfl | h
    · omega
    · have := lib_join_elem (l := z :: r) h
      omega
theorem join_elem {x : List UInt8} {l : List (List UInt8)} (h : x ∈ l) : x.length ≤ (Pm.join l).length := by
  have := lib_join_elem h
  unfold Pm.join
  simp only [List.length_cons]
  omega
theorem scmpO (x y : ByteArray) (w : World) : Calls Tryz.prog 63 #[.string x, .string y] w fun e w' => e = .returned (.int .i64 (Lib.compareBytes x.data.toList y.data.toList)) ∧ w = w' := by
  refine (Tryz.strings_Compare _ _ _).mono ?_
  rintro e w' ⟨rfl, rfl⟩
  exact ⟨rfl, rfl⟩
theorem quietO_left {P : Program} {f : FuncId} {args : Array Value} {w : World} {n : Nat} {v : Value}
    (h : Calls P f args (w.drewN n) fun e w' => e = .returned v ∧ w.drewN n = w') : Calls P f args (w.drewN n) fun e w'' => e = .returned v ∧ ∃ m, w'' = w.drewN m :=
  h.mono fun _ _ ⟨he, hm⟩ => ⟨he, n, hm.symm⟩
set_option maxHeartbeats 4000000 in
theorem order_any (s t : ByteArray) (la lb : List (List UInt8)) (w : World) (hs : s.size < 4294967281) (ht : t.size < 4294967281) (hm : MaxL w) (ha : Pt.pathO s.data.toList = some la) (hb : Pt.pathO t.data.toList = some lb) :
    Calls Tryz.prog 30 #[.string s, .string t] w (GivesZB w (Pt.Rg.ordP la lb)) := by
  have hP := rpath_any s w hs hm
  rw [show pathO s.data.toList = some la from ha] at hP
  have HP := Lib.hid hP
  have HQ := Lib.hid (fun (w' : World) (hb' : Below w.heap.size w w') => show Calls Tryz.prog 31 #[.string t] w' (GivesP w' (some lb)) from by
    have h := rpath_any t w' ht (hm.keep hb' hm.size)
    rw [show pathO t.data.toList = some lb from hb] at h
    exact h)
  have HLS : ∀ x ∈ la, x.length < 4294967281 := fun x hx => by
    have h1 := join_elem hx
    rw [← (Pt.pathO_some.1 ha).1, ← Lib.size_eq] at h1
    omega
  have HLT : ∀ x ∈ lb, x.length < 4294967281 := fun x hx => by
    have h1 := join_elem hx
    rw [← (Pt.pathO_some.1 hb).1, ← Lib.size_eq] at h1
    omega
  have HLS := Lib.hid HLS
  have HLT := Lib.hid HLT
  obtain ⟨z, hz⟩ : ∃ z, z = Pt.Rg.ordP la lb := ⟨_, rfl⟩
  rw [← hz]
  have HZ := Lib.hid hz
  clear hP ha hb hs ht hm hz
  go_enter Tryz.func30, Tryz.ntmps30
  go_wp2_with fail
  with_reducible refine HP.out.mono ?_
  rintro e w1 ⟨v, rfl, A, xs, c, rfl, hbx, hc, hcm, hr, hb1⟩
  have HB1 := Lib.hid hb1
  have HQ1 := Lib.hid (HQ.out w1 hb1)
  have HRA := Lib.hid (fun (w' : World) (h : Below w1.heap.size w1 w') => hr.keep h)
  have HXA := Lib.hid hbx
  have hxm : (xs.length : Int) ≤ 9223372036854775807 := by unfold maxLen at hcm; omega
  clear hbx hc hcm hr hb1
  go_wp2_with fail
  with_reducible refine HQ1.out.mono ?_
  rintro e w2 ⟨v, rfl, B, ys, d, rfl, hby, hd, hdm, hr, hb2⟩
  have HB2 := Lib.hid hb2
  have HBB := Lib.hid (HB1.out.trans (hb2.mono HB1.out.size))
  have HRA2 := Lib.hid (HRA.out w2 hb2)
  have HRB := Lib.hid hr
  have HXB := Lib.hid hby
  have hym : (ys.length : Int) ≤ 9223372036854775807 := by unfold maxLen at hdm; omega
  clear hby hd hdm hr hb2
  have hla : la.length = xs.length := by rw [← HXA.out, bs_length]
  have hlb : lb.length = ys.length := by rw [← HXB.out, bs_length]
  have HLA := Lib.hid hla
  have HLB := Lib.hid hlb
  by_cases hne : xs.length = ys.length
  rotate_left
  · have i1 : ((xs.length : Int) == (ys.length : Int)) = false := by rw [beq_eq_false_iff_ne]; omega
    have i2 : ((xs.length : Int) != (ys.length : Int)) = true := by rw [bne, i1]; rfl
    have hv : z = (xs.length : Int) - (ys.length : Int) := by
      rw [HZ.out]
      unfold Pt.Rg.ordP
      rw [if_pos (by omega), hla, hlb]
    have HV := Lib.hid hv
    clear hv hla hlb
    go_wp2
    go_ret
    refine ⟨?_, HBB.out⟩
    rw [HV.out]
    first | rfl | (rw [wrap64_of] <;> first | rfl | omega) | skip
  have hzl : z = Pt.Rg.ordL la lb := by
    rw [HZ.out]
    unfold Pt.Rg.ordP
    rw [if_neg (by rw [hla, hlb, hne]; simp)]
  have HZL := Lib.hid hzl
  clear hzl
  obtain ⟨n, hn⟩ : ∃ n, n = xs.length := ⟨_, rfl⟩
  have hn2 : n = ys.length := by rw [hn, hne]
  have HN := Lib.hid hn
  have HM := Lib.hid hn2
  have HLA := Lib.hid (show la.length = n by rw [hla, hn])
  have HLB := Lib.hid (show lb.length = n by rw [hlb, hn2])
  rw [← hn] at hxm ⊢
  rw [← hn2] at hym ⊢
  clear hn hn2 hne hla hlb
  have i1 : ((n : Int) == (n : Int)) = true := by simp
  have i2 : ((n : Int) != (n : Int)) = false := by simp
  go_wp2
  go_loopw [33] (fun i wr => ∃ k : Nat, k ≤ n ∧ i = .int .i64 k ∧ la.take k = lb.take k ∧ Drew w2 wr) (fun i _ => n - (intOf i).toNat)
  case atStart => exact ⟨0, by omega, rfl, by simp, Drew.refl _⟩
  case round =>
    obtain ⟨k, hkn, rfl, htk, hdr⟩ := hrel
    have HT := Lib.hid htk
    have HDB := Lib.hid (show Below w.heap.size w wr from HBB.out.trans (hdr.below w.heap.size))
    clear htk
    by_cases hk : k < n
    · have l1 : k < xs.length := by rw [← HN.out]; exact hk
      have l2 : k < ys.length := by rw [← HM.out]; exact hk
      obtain ⟨g, o, hA, _, hca⟩ := HRA2.out.cells (by omega)
      obtain ⟨g', o', hB, _, hcb⟩ := HRB.out.cells (by omega)
      subst hA
      subst hB
      have q1 : wr.cell? ⟨g, o + k, none⟩ = some (.string xs[k]) := ((hdr.below (g + 1)).cell (p := ⟨g, o + k, none⟩) (by simp)).trans (hca k l1)
      have q2 : wr.cell? ⟨g', o' + k, none⟩ = some (.string ys[k]) := ((hdr.below (g' + 1)).cell (p := ⟨g', o' + k, none⟩) (by simp)).trans (hcb k l2)
      have b1 : k < la.length := by rw [← HXA.out, bs_length]; exact l1
      have b2 : k < lb.length := by rw [← HXB.out, bs_length]; exact l2
      have e1 : la[k] = xs[k].data.toList := by simp only [← HXA.out]; exact bs_get xs k l1
      have e2 : lb[k] = ys[k].data.toList := by simp only [← HXB.out]; exact bs_get ys k l2
      have hx31 : xs[k].size < 4294967281 := by rw [Lib.size_eq, ← e1]; exact HLS.out _ (List.getElem_mem b1)
      have hy31 : ys[k].size < 4294967281 := by rw [Lib.size_eq, ← e2]; exact HLT.out _ (List.getElem_mem b2)
      have hat := fun hne => ordL_at b1 b2 HT.out hne
      rw [e1, e2, ← HZL.out] at hat
      unfold Pt.Rg.ordC at hat
      rw [← Lib.size_eq, ← Lib.size_eq] at hat
      have HT2 := Lib.hid (show xs[k].data.toList = ys[k].data.toList → la.take (k + 1) = lb.take (k + 1) from fun h => by
        rw [List.take_succ_eq_append_getElem b1, List.take_succ_eq_append_getElem b2, HT.out, e1, e2, h])
      have HQ' := Lib.hid (fun w : World => scmpO xs[k] ys[k] w)
      clear hca hcb e1 e2
      generalize xs[k] = x at *
      generalize ys[k] = y at *
      by_cases hs : x.size = y.size
      · rw [if_neg (by simpa using hs)] at hat
        have j1 : ((x.size : Int) == (y.size : Int)) = true := by rw [beq_iff_eq]; omega
        have j2 : ((x.size : Int) != (y.size : Int)) = false := by rw [bne, j1]; rfl
        by_cases he : Lib.compareBytes x.data.toList y.data.toList = 0
        · rw [he] at HQ'
          have HT3 := Lib.hid (HT2.out (Pm.compareBytes_zero he))
          clear hat HT2 he hs
          go_wp2
          go_quiet (fail)
          have q3 : (wr.drewN nq).cell? ⟨g, o + k, none⟩ = some (.string x) := q1
          have q4 : (wr.drewN nq).cell? ⟨g', o' + k, none⟩ = some (.string y) := q2
          have HDB2 := Lib.hid (below_drewN HDB.out nq)
          have hdr2 := hdr.trans (⟨nq, rfl⟩ : Drew wr (wr.drewN nq))
          generalize wr.drewN nq = wz at *
          clear q1 q2
          go_wp2
          go_quiet ((go_at_call 63; exact quietO_left (HQ'.out _)))
          go_wp2
          go_roundw
          case rel => exact ⟨k + 1, by omega, by go_num, HT3.out, hdr2.trans ⟨_, rfl⟩⟩
          case measure => simp [intOf]; omega
        · have hv := hat he
          have t1 : (Lib.compareBytes x.data.toList y.data.toList == 0) = false := by rw [beq_eq_false_iff_ne]; exact he
          have t2 : (Lib.compareBytes x.data.toList y.data.toList != 0) = true := by simpa using he
          rw [← hv] at t1 t2 HQ'
          clear hat HT2 he hv hs
          go_wp2
          go_quiet (fail)
          have q3 : (wr.drewN nq).cell? ⟨g, o + k, none⟩ = some (.string x) := q1
          have q4 : (wr.drewN nq).cell? ⟨g', o' + k, none⟩ = some (.string y) := q2
          have HDB2 := Lib.hid (below_drewN HDB.out nq)
          have hdr2 := hdr.trans (⟨nq, rfl⟩ : Drew wr (wr.drewN nq))
          generalize wr.drewN nq = wz at *
          clear q1 q2
          go_wp2
          go_quiet ((go_at_call 63; exact quietO_left (HQ'.out _)))
          go_wp2
          go_ret
          exact ⟨rfl, below_drewN HDB2.out _⟩
      · rw [if_pos hs] at hat
        have hv := hat (by omega)
        have j1 : ((x.size : Int) == (y.size : Int)) = false := by rw [beq_eq_false_iff_ne]; omega
        have j2 : ((x.size : Int) != (y.size : Int)) = true := by rw [bne, j1]; rfl
        have HV := Lib.hid hv
        clear hat HT2 hv hs
        go_wp2
        go_quiet (fail)
        go_wp2
        go_quiet (fail)
        go_wp2
        go_ret
        refine ⟨?_, below_drewN (below_drewN HDB.out _) _⟩
        rw [HV.out]
        first | rfl | (rw [wrap64_of] <;> first | rfl | omega) | skip
    · have hkn2 : k = n := by omega
      have hv : z = 0 := by
        rw [HZL.out]
        refine ordL_end ?_
        have h := HT.out
        rw [List.take_of_length_le (by rw [HLA.out]; omega), List.take_of_length_le (by rw [HLB.out]; omega)] at h
        exact h
      subst hv
      clear hkn2
      go_wp2
      go_ret
      exact ⟨rfl, HDB.out⟩
end Go.Proofs.YtpdkecchpidhdaaGreatDoor
