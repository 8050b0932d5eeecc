/- The contract of the program's Parse. -/
import Derived.Test.YtihboibebhokbaaDoorPatGo2
import Derived.Test.YtihboibebhokbaaDoorPatFn8
namespace Go.Proofs.YtihboibebhokbaaDoor
open Go.RowKit

set_option maxHeartbeats 4000000 in
theorem parse_any (s : ByteArray) (w : World) (hs : s.size < 4294967281) (hm : MaxL w) : Calls Tryd.prog 40 #[.string s] w (GivesPat w (Pt.parsed s.data.toList) (Pt.parseErr s.data.toList)) := by
  have HH := Lib.hid (fun w : World => cutp_any s ⟨#[47, 47]⟩ w)
  have e0 : (ByteArray.mk #[47, 47]).data.toList = [47, 47] := rfl
  rw [e0] at HH
  clear e0
  cases hv : Lib.hasPrefix s.data.toList [47, 47] with
  | false =>
    have h1 : Pt.parseErr s.data.toList = 30 := by unfold Pt.parseErr; rw [hv]; rfl
    have h2 : Pt.parsed s.data.toList = ⟨[], false⟩ := by unfold Pt.parsed; rw [h1]; rfl
    rw [h1, h2]
    rw [hv] at HH
    generalize Lib.trimPrefix s.data.toList [47, 47] = t at HH
    clear hv h1 h2
    go_enter Tryd.func40, Tryd.ntmps40
    go_wp2_with fail
    with_reducible refine (HH.out _).mono ?_
    rintro e w' ⟨rfl, rfl⟩
    go_wp2
    refine bodyPost_ret (v := .tuple #[patV none 0 0 false, .int .i64 30]) (by simp [results, Tryd.results40, go_sem]) rfl ⟨none, [], 0, false, rfl, patR_zero _, ?_⟩
    exact (Below.refl _ _).alloc (Nat.le_refl _) _
  | true =>
    have h2 := prefix_le hv
    have ht : Lib.trimPrefix s.data.toList [47, 47] = s.data.toList.drop 2 := by unfold Lib.trimPrefix; rw [hv]; rfl
    rw [hv, ht] at HH
    have hpe : Pt.parseErr s.data.toList = Pt.check (Pt.named s.data.toList) := by unfold Pt.parseErr; rw [hv]; rfl
    have hpd : Pt.parsed s.data.toList = if Pt.check (Pt.named s.data.toList) = 0 then Pt.named s.data.toList else ⟨[], false⟩ := by unfold Pt.parsed; rw [hpe]
    rw [hpe, hpd]
    clear hpe hpd
    obtain ⟨T, hT⟩ : ∃ T : ByteArray, T = ⟨(s.data.toList.drop 2).toArray⟩ := ⟨_, rfl⟩
    have hTd : T.data.toList = s.data.toList.drop 2 := by rw [hT]
    rw [← hT] at HH
    have hsl : T.size < 4294967281 := by rw [Lib.size_eq, hTd, List.length_drop, ← Lib.size_eq]; omega
    have HS := Lib.hid (fun (w : World) (hm : MaxL w) => split_any T ⟨#[47]⟩ w rfl hsl hm)
    rw [hTd] at HS
    clear hT hTd ht
    have HNE := Lib.hid (Pm.segs_length (s.data.toList.drop 2))
    have HLE := Lib.hid (segs_le (s.data.toList.drop 2))
    have HEL := Lib.hid (segs_elem_le (s.data.toList.drop 2))
    have hnm : Pt.named s.data.toList = if (Pm.segs (s.data.toList.drop 2)).getLast? = some [46, 46, 46] then ⟨(Pm.segs (s.data.toList.drop 2)).dropLast, true⟩ else ⟨Pm.segs (s.data.toList.drop 2), false⟩ := rfl
    have hdl : (s.data.toList.drop 2).length ≤ 4294967281 := by rw [List.length_drop, ← Lib.size_eq]; omega
    generalize Pt.named s.data.toList = nm at hnm
    generalize Pm.segs (s.data.toList.drop 2) = l at *
    generalize (s.data.toList.drop 2).length = q at *
    have HNM := Lib.hid hnm
    obtain ⟨pd, hpd2⟩ : ∃ pd, pd = (if Pt.check nm = 0 then nm else (⟨[], false⟩ : Pt.Pat)) := ⟨_, rfl⟩
    rw [← hpd2]
    have HPD := Lib.hid hpd2
    clear hpd2
    have h2i : (2 : Int) ≤ (s.size : Int) := by omega
    have HHM := Lib.hid (hm.keep ((Below.refl _ _).alloc (Nat.le_refl _) (.cells #[.slice none 0 0, .bool false] 24)) hm.size)
    have HAL := Lib.hid (show Below w.heap.size w (w.alloc (.cells #[.slice none 0 0, .bool false] 24)) from (Below.refl _ _).alloc (Nat.le_refl _) _)
    clear hv hsl hnm h2 hs hm
    go_enter Tryd.func40, Tryd.ntmps40
    go_wp2_with fail
    with_reducible refine (HH.out _).mono ?_
    rintro e w' ⟨rfl, rfl⟩
    go_wp2_with fail
    with_reducible refine (HS.out _ HHM.out).mono ?_
    rintro e w1 ⟨v, rfl, A, xs, c, rfl, hbx, hc, hcm, hr, hb⟩
    obtain ⟨c0, c1⟩ := box_cells hb
    have f0 := box_free hb 0
    have f1 := box_free hb 1
    have hz1 := hb.size
    simp at hz1
    have hlx : xs.length = l.length := by rw [← hbx, bs_length]
    have hx1 : 1 ≤ xs.length := by rw [hlx]; exact HNE.out
    obtain ⟨g, o, rfl, hg, hcell⟩ := hr.cells (by omega)
    have hlast := hcell (xs.length - 1) (by omega)
    have hsz : ∀ y ∈ xs, y.size ≤ maxLen := by
      intro y hy
      have h5 := HEL.out y.data.toList (by rw [← hbx]; exact List.mem_map_of_mem hy)
      rw [← Lib.size_eq] at h5
      unfold maxLen
      omega
    have HSZ := Lib.hid hsz
    have HB := Lib.hid hb
    have HR := Lib.hid hr
    have HBX := Lib.hid hbx
    have HLX := Lib.hid hlx
    obtain ⟨n, hn⟩ : ∃ n, xs.length = n + 1 := ⟨xs.length - 1, by omega⟩
    have hn9 : (n : Int) + 1 ≤ 4294967290 := by have := HLE.out; omega
    have hgl0 := bs_last hn
    have hgl : l.getLast? = some (xs[n]'(by omega)).data.toList := hbx ▸ hgl0
    have hlast2 := hcell n (by omega)
    have HN := Lib.hid hn
    rw [hn] at hc ⊢
    generalize hxn : xs[n]'(by omega) = x at hgl hlast2
    have HGL := Lib.hid hgl
    have HCM := Lib.hid hcm
    have hcmi : (c : Int) ≤ 9223372036854775807 := by unfold maxLen at hcm; omega
    have hci : (n : Int) + 1 ≤ (c : Int) := by omega
    clear hbx hr hb hcell hlx hlast hn hgl hgl0 hxn hx1 hsz
    have hz2 : w.heap.size + 1 ≤ w1.heap.size := hz1
    by_cases hd : x.data.toList = [46, 46, 46]
    · have t1 : (x.toList == [46, 46, 46]) = true := by rw [Lib.toList_data, hd]; rfl
      have hnm : nm = ⟨l.dropLast, true⟩ := by rw [HNM.out, HGL.out, hd, if_pos rfl]
      have HNM2 := Lib.hid hnm
      clear hd hnm
      have halloc2 : Below w1.heap.size w1 (w1.alloc (.cells #[.slice (some ⟨g, o, none⟩) n n, .bool true] 24)) := (Below.refl _ _).alloc (Nat.le_refl _) _
      have hxl : (xs.take n).length = n := by rw [List.length_take, HN.out]; omega
      have hpr : PatR (w1.alloc (.cells #[.slice (some ⟨g, o, none⟩) n n, .bool true] 24)) (some ⟨g, o, none⟩) (xs.take n) n true nm :=
        ⟨((HR.out.take n).keep halloc2).more halloc2.size, (by rw [bs_takeN, HBX.out, HNM2.out]; show l.take n = l.dropLast; rw [List.dropLast_eq_take, ← HBX.out, bs_length, HN.out]; rfl), by rw [HNM2.out], by rw [hxl]; exact Nat.le_refl _, (by have := HCM.out; omega), fun h => (by cases h), (fun y hy => HSZ.out y (List.mem_of_mem_take hy))⟩
      have HPR := Lib.hid hpr
      have HCk := Lib.hid (check_any _ _ _ _ _ _ hpr)
      rw [hxl] at HCk
      have HXL := Lib.hid hxl
      have HA2 := Lib.hid halloc2
      clear hpr hxl halloc2
      go_wp2_with fail
      with_reducible refine HCk.out.mono ?_
      rintro e w3 ⟨rfl, hb3⟩
      obtain ⟨k0, k1⟩ := box_cells hb3
      have e0 := (hb3.cell (p := ⟨w.heap.size, 0, none⟩) (by simp; omega)).trans ((HA2.out.cell (p := ⟨w.heap.size, 0, none⟩) (by simp; omega)).trans c0)
      have e1 := (hb3.cell (p := ⟨w.heap.size, 1, none⟩) (by simp; omega)).trans ((HA2.out.cell (p := ⟨w.heap.size, 1, none⟩) (by simp; omega)).trans c1)
      have h0 := (hb3.frozen (p := ⟨w.heap.size, 0, none⟩) (by simp; omega)).trans ((HA2.out.frozen (p := ⟨w.heap.size, 0, none⟩) (by simp; omega)).trans f0)
      have h1 := (hb3.frozen (p := ⟨w.heap.size, 1, none⟩) (by simp; omega)).trans ((HA2.out.frozen (p := ⟨w.heap.size, 1, none⟩) (by simp; omega)).trans f1)
      have hz3 := hb3.size
      simp at hz3
      have HB3 := Lib.hid hb3
      have HB4 := Lib.hid (show Below w.heap.size w w3 from (HAL.out.trans (HB.out.mono (by simp))).trans ((HA2.out.mono (by omega)).trans (hb3.mono (by simp; omega))))
      clear hb3 c0 c1 f0 f1
      by_cases hck : Pt.check nm = 0
      · have hpd : pd = nm := by rw [HPD.out, if_pos hck]
        subst hpd
        have HCK0 := Lib.hid hck
        rw [hck]
        clear hck
        go_wp2
        refine bodyPost_ret (v := .tuple #[patV (some ⟨g, o, none⟩) n n true, .int .i64 0]) (by simp [results, Tryd.results40, go_sem, e0, e1]) rfl ⟨some ⟨g, o, none⟩, xs.take n, n, true, by rw [HXL.out, HCK0.out]; rfl, ?_, ?_⟩
        · exact (HPR.out.keep HB3.out).store2 _ _ _ _ _ e0 e1 (fun _ h => by cases h) (fun _ h => by cases h)
        · exact (HB4.out.setCell (p := ⟨w.heap.size, 0, none⟩) (Nat.le_refl _) _).setCell (p := ⟨w.heap.size, 1, none⟩) (Nat.le_refl _) _
      · have hpd : pd = ⟨[], false⟩ := by rw [HPD.out, if_neg hck]
        subst hpd
        have u1 : ((Pt.check nm : Int) == 0) = false := by rw [beq_eq_false_iff_ne]; omega
        have u2 : ((Pt.check nm : Int) != 0) = true := by simpa using (show (Pt.check nm : Int) ≠ 0 by omega)
        generalize Pt.check nm = ck at *
        clear hck
        go_wp2
        refine bodyPost_ret (v := .tuple #[patV none 0 0 false, .int .i64 ck]) (by simp [results, Tryd.results40, go_sem, e0, e1]) rfl ⟨none, [], 0, false, rfl, patR_zero _, ?_⟩
        exact (HB4.out.setCell (p := ⟨w.heap.size, 0, none⟩) (Nat.le_refl _) _).setCell (p := ⟨w.heap.size, 1, none⟩) (Nat.le_refl _) _
    · have t1 : (x.toList == [46, 46, 46]) = false := by rw [beq_eq_false_iff_ne, Lib.toList_data]; exact hd
      have hnm : nm = ⟨l, false⟩ := by
        rw [HNM.out, HGL.out, if_neg]
        intro e
        injection e with e
        exact hd e
      have HNM2 := Lib.hid hnm
      clear hd hnm
      have halloc2 : Below w1.heap.size w1 (w1.alloc (.cells #[.slice (some ⟨g, o, none⟩) (n + 1) c, .bool false] 24)) := (Below.refl _ _).alloc (Nat.le_refl _) _
      have hxl : (xs).length = n + 1 := HN.out
      have hpr : PatR (w1.alloc (.cells #[.slice (some ⟨g, o, none⟩) (n + 1) c, .bool false] 24)) (some ⟨g, o, none⟩) (xs) c false nm :=
        ⟨((HR.out).keep halloc2).more halloc2.size, (by rw [HBX.out, HNM2.out]), by rw [HNM2.out], by rw [hxl]; omega, HCM.out, fun h => (by cases h), HSZ.out⟩
      have HPR := Lib.hid hpr
      have HCk := Lib.hid (check_any _ _ _ _ _ _ hpr)
      rw [hxl] at HCk
      have HXL := Lib.hid hxl
      have HA2 := Lib.hid halloc2
      clear hpr hxl halloc2
      go_wp2_with fail
      with_reducible refine HCk.out.mono ?_
      rintro e w3 ⟨rfl, hb3⟩
      obtain ⟨k0, k1⟩ := box_cells hb3
      have e0 := (hb3.cell (p := ⟨w.heap.size, 0, none⟩) (by simp; omega)).trans ((HA2.out.cell (p := ⟨w.heap.size, 0, none⟩) (by simp; omega)).trans c0)
      have e1 := (hb3.cell (p := ⟨w.heap.size, 1, none⟩) (by simp; omega)).trans ((HA2.out.cell (p := ⟨w.heap.size, 1, none⟩) (by simp; omega)).trans c1)
      have h0 := (hb3.frozen (p := ⟨w.heap.size, 0, none⟩) (by simp; omega)).trans ((HA2.out.frozen (p := ⟨w.heap.size, 0, none⟩) (by simp; omega)).trans f0)
      have h1 := (hb3.frozen (p := ⟨w.heap.size, 1, none⟩) (by simp; omega)).trans ((HA2.out.frozen (p := ⟨w.heap.size, 1, none⟩) (by simp; omega)).trans f1)
      have hz3 := hb3.size
      simp at hz3
      have HB3 := Lib.hid hb3
      have HB4 := Lib.hid (show Below w.heap.size w w3 from (HAL.out.trans (HB.out.mono (by simp))).trans ((HA2.out.mono (by omega)).trans (hb3.mono (by simp; omega))))
      clear hb3 c0 c1 f0 f1
      by_cases hck : Pt.check nm = 0
      · have hpd : pd = nm := by rw [HPD.out, if_pos hck]
        subst hpd
        have HCK0 := Lib.hid hck
        rw [hck]
        clear hck
        go_wp2
        refine bodyPost_ret (v := .tuple #[patV (some ⟨g, o, none⟩) (n + 1) c false, .int .i64 0]) (by simp [results, Tryd.results40, go_sem, e0, e1]) rfl ⟨some ⟨g, o, none⟩, xs, c, false, by rw [HXL.out, HCK0.out]; rfl, ?_, ?_⟩
        · exact (HPR.out.keep HB3.out).store2 _ _ _ _ _ e0 e1 (fun _ h => by cases h) (fun _ h => by cases h)
        · exact (HB4.out.setCell (p := ⟨w.heap.size, 0, none⟩) (Nat.le_refl _) _).setCell (p := ⟨w.heap.size, 1, none⟩) (Nat.le_refl _) _
      · have hpd : pd = ⟨[], false⟩ := by rw [HPD.out, if_neg hck]
        subst hpd
        have u1 : ((Pt.check nm : Int) == 0) = false := by rw [beq_eq_false_iff_ne]; omega
        have u2 : ((Pt.check nm : Int) != 0) = true := by simpa using (show (Pt.check nm : Int) ≠ 0 by omega)
        generalize Pt.check nm = ck at *
        clear hck
        go_wp2
        refine bodyPost_ret (v := .tuple #[patV none 0 0 false, .int .i64 ck]) (by simp [results, Tryd.results40, go_sem, e0, e1]) rfl ⟨none, [], 0, false, rfl, patR_zero _, ?_⟩
        exact (HB4.out.setCell (p := ⟨w.heap.size, 0, none⟩) (Nat.le_refl _) _).setCell (p := ⟨w.heap.size, 1, none⟩) (Nat.le_refl _) _
end Go.Proofs.YtihboibebhokbaaDoor
