/- The contract of the program's filled. -/
import Derived.Test.YthgcnlhlhipllaaGreatDoorPatGo9
namespace Go.Proofs.YthgcnlhlhipllaaGreatDoor
open Go.RowKit

/-- A value that is a slice with these strings. -/
def RowAt (w : World) (tv : Value) (us : List ByteArray) : Prop := ∃ A m c, tv = .slice A m c ∧ m = us.length ∧ m ≤ c ∧ c ≤ maxLen ∧ RdS w w.heap.size A us
def GivesF (w : World) (l : List (List UInt8)) (e : Ending) (w' : World) : Prop := ∃ v zs, e = .returned v ∧ OwnS w' w.heap.size v zs ∧ bs zs = l ∧ Below w.heap.size w w'
theorem fills_step {X T : List (List UInt8)} {k : Nat} (h : k < X.length) : Pt.fillsOf (X.drop k) T = match Pt.star X[k] with
    | none => X[k] :: Pt.fillsOf (X.drop (k + 1)) T
    | some s => (T.headD [] ++ s) :: Pt.fillsOf (X.drop (k + 1)) (T.drop 1) := by
  rw [List.drop_eq_getElem_cons h, Pt.fillsOf]
  cases Pt.star X[k] <;> rfl
theorem append_data (a b : ByteArray) : (a ++ b).data.toList = a.data.toList ++ b.data.toList := by simp [ByteArray.data_append]

set_option maxHeartbeats 4000000 in
theorem filled_any (A B : Option Addr) (xs ts : List ByteArray) (c d : Nat) (w : World) (hr : RdS w w.heap.size A xs) (hc : xs.length ≤ c) (hcm : c ≤ maxLen) (ht : RdS w w.heap.size B ts) (hd : ts.length ≤ d) (hdm : d ≤ maxLen)
    (hp : ∀ x ∈ bs xs, Pt.part x = true) (hst : Pt.stars (bs xs) ≤ ts.length) (hsx : ∀ x ∈ xs, x.size ≤ 100000) (hsy : ∀ y ∈ ts, y.size ≤ 100000) (hN : xs.length ≤ 1000) :
    Calls Tryz.prog 136 #[.slice A xs.length c, .slice B ts.length d] w (GivesF w (Pt.fillsOf (bs xs) (bs ts))) := by
  have HRD := Lib.hid hr
  have HPT := Lib.hid hp
  have HSX := Lib.hid hsx
  have HFO := Lib.hid (show Pt.fillsOf (bs xs) (bs ts) = Pt.fillsOf (bs xs) (bs ts) from rfl)
  have HRow := Lib.hid (show RowAt w (.slice B ts.length d) ts from ⟨B, _, d, rfl, rfl, hd, hdm, ht⟩)
  have HST := Lib.hid hst
  have HSY := Lib.hid hsy
  obtain ⟨fl, hfl⟩ : ∃ fl, fl = Pt.fillsOf (bs xs) (bs ts) := ⟨_, rfl⟩
  rw [← hfl]
  have HFL := Lib.hid hfl
  have hci : (c : Int) ≤ 9223372036854775807 := by unfold maxLen at hcm; omega
  obtain ⟨i, hi, hz, hz1, hz2⟩ := strParts
  obtain ⟨n, hn⟩ : ∃ n, n = xs.length := ⟨_, rfl⟩
  obtain ⟨m, hmm⟩ : ∃ m, m = ts.length := ⟨_, rfl⟩
  rw [← hn] at hc hN
  rw [← hn, ← hmm]
  rw [← hmm] at HRow
  have HN := Lib.hid hn
  have hnb : i.bytes * n ≤ 281474976710656 := by rw [hz2]; omega
  have hnx : n ≤ maxLen := by unfold maxLen; omega
  clear hr hcm ht hd hdm hp hst hsx hsy hfl hn hmm HFO
  go_enter Tryz.func136, Tryz.ntmps136
  go_wp2_with (refine wpList_make_own w rfl _ _ 22 rfl w.heap.size 9 i _ 1 Tryz.underlying22 hi hz hz1 _ _ _ n rfl rfl rfl hnb hnx (Nat.le_refl _) ?_; intro w1 hown0 hg)
  have HB1 := Lib.hid (show Below w.heap.size w w1 from ⟨hg.os, hg.tape, hg.output, hg.size, fun k hk => hg.block k (by omega) (by simp)⟩)
  have HO0 := Lib.hid (show OwnS w1 w.heap.size (.slice (some ⟨w.heap.size, 0, none⟩) 0 n) [] from hown0)
  clear hown0 hg hi hz hz1 hz2 hnb hnx
  go_wp2
  go_loopw [1, 5, 15] (fun tv out iv wr => ∃ (k : Nat) (zs us : List ByteArray), k ≤ n ∧ iv = .int .i64 k ∧ RowAt w tv us ∧ OwnS wr w.heap.size out zs ∧ zs.length = k ∧ Below w.heap.size w wr ∧ Pt.stars ((bs xs).drop k) ≤ us.length ∧ (∀ u ∈ us, u.size ≤ 100000) ∧ fl = bs zs ++ Pt.fillsOf ((bs xs).drop k) (bs us)) (fun _ _ iv _ => n - (intOf iv).toNat)
  case atStart => exact ⟨0, [], ts, by omega, rfl, HRow.out, HO0.out, rfl, HB1.out, HST.out, HSY.out, HFL.out⟩
  case round =>
    obtain ⟨k, zs, us, hkn, rfl, hrow, hown, hzl, hbr, hsu, hus, hfo⟩ := hrel
    obtain ⟨A2, m2, c2, rfl, hm2, hmc2, hcm2, hr2⟩ := hrow
    have hzr := hbr.size
    have HOWN := Lib.hid hown
    have HBR := Lib.hid hbr
    have HR2 := Lib.hid hr2
    have HSU := Lib.hid hsu
    have HUS := Lib.hid hus
    have HF := Lib.hid hfo
    have HZL := Lib.hid hzl
    have HM2 := Lib.hid hm2
    have hc2i : (c2 : Int) ≤ 9223372036854775807 := by unfold maxLen at hcm2; omega
    have HCM2 := Lib.hid hcm2
    clear hown hbr hr2 hsu hus hfo hzl hm2 hcm2
    by_cases hlt : k < n
    · have hlx : k < xs.length := by rw [← HN.out]; exact hlt
      have hlb : k < (bs xs).length := by rw [bs_length]; exact hlx
      obtain ⟨g, og, rfl, hg, hcell⟩ := HRD.out.cells (by omega)
      have e1 := (HBR.out.cell (p := ⟨g, og + k, none⟩) hg).trans (hcell k hlx)
      have hst := fills_step (T := bs us) hlb
      have hsd := stars_drop hlb
      have hpk := HPT.out _ (List.getElem_mem hlb)
      rw [bs_get xs k hlx] at hst hsd hpk
      have hsx := HSX.out _ (List.getElem_mem hlx)
      clear hcell hlb
      generalize xs[k] = x at *
      have HSTP := Lib.hid hst
      have HSD := Lib.hid hsd
      clear hst hsd
      have hcp := fun w : World => cutp_any x ⟨#[42]⟩ w
      have e0 : (ByteArray.mk #[42]).data.toList = [42] := rfl
      rw [e0] at hcp
      clear e0
      rcases Pt.part_cases hpk with ⟨s, hs, hx2, _⟩ | ⟨hs, hcx⟩
      · rw [hs] at HSTP HSD
        have hpx : Lib.hasPrefix x.data.toList [42] = true := Pt.star_prefix hs
        have htp : Lib.trimPrefix x.data.toList [42] = s := by unfold Lib.trimPrefix; rw [hpx, hx2]; rfl
        rw [hpx, htp] at hcp
        have HCP := Lib.hid hcp
        have hsl : s.length ≤ 100000 := by
          have := star_len hs
          rw [← Lib.size_eq] at this
          omega
        have hu1 : 1 ≤ us.length := by
          have h1 := HSU.out
          have h2 := HSD.out
          simp at h2
          omega
        obtain ⟨g2, o2, rfl, hg2, hcell2⟩ := HR2.out.cells (by omega)
        have k2 := (HBR.out.cell (p := ⟨g2, o2 + 0, none⟩) hg2).trans (hcell2 0 (by omega))
        have k3 := k2
        rw [Nat.add_zero] at k3
        obtain ⟨u, us', rfl⟩ : ∃ u us', us = u :: us' := by
          cases us with
          | nil => simp at hu1
          | cons a r => exact ⟨a, r, rfl⟩
        simp only [List.getElem_cons_zero] at k2 k3
        have hus1 : u.size ≤ 100000 := HUS.out u (by simp)
        obtain ⟨q, rfl⟩ : ∃ q, m2 = q + 1 := ⟨us'.length, by rw [HM2.out]; rfl⟩
        obtain ⟨S, hS⟩ : ∃ S : ByteArray, S = ⟨s.toArray⟩ := ⟨_, rfl⟩
        have hSd : S.data.toList = s := by rw [hS]
        have hSz : S.size ≤ 100000 := by rw [Lib.size_eq, hSd]; exact hsl
        rw [← hS] at HCP
        have HSDD := Lib.hid hSd
        clear hcell2 hpx htp hcp hu1 hpk hs hx2 hS hSd
        by_cases hc1 : c2 = 1
        · subst hc1
          obtain rfl : q = 0 := by omega
          go_wp2_with fail
          with_reducible refine (HCP.out _).mono ?_
          rintro e w' ⟨rfl, rfl⟩
          go_wp2_with (refine wpList_append_ss rfl _ _ rfl w.heap.size _ zs rfl (HOWN.out.below ((Below.refl _ _).alloc (Nat.le_refl _) _)) (some ⟨wr.heap.size, 0, none⟩) [_] 1 rfl (new_one wr _ _) (fun h => by cases h) (by simp [HZL.out]; omega) (by simp; omega) ?_; intro v' w' hown' hb')
          have HO2 := Lib.hid hown'
          have HB3 := Lib.hid (show Below w.heap.size wr w' from ((Below.refl _ _).alloc hzr _).trans hb')
          clear hown' hb'
          go_wp2
          go_roundw
          case rel =>
            have hus0 : us' = [] := List.eq_nil_of_length_eq_zero (by have h := HM2.out; rw [List.length_cons] at h; omega)
            subst hus0
            refine ⟨k + 1, _, [], by omega, by go_num, ⟨_, _, _, rfl, by simp, by first | (simp; done) | omega, by simp, .inl rfl⟩, HO2.out, by simp [HZL.out], HBR.out.trans HB3.out, ?_, by simp, ?_⟩
            · have h1 := HSU.out
              have h2 := HSD.out
              simp at h2 h1 ⊢
              omega
            · rw [HF.out, HSTP.out, bs_append]
              simp only [bs, List.map_cons, List.map_nil, append_data, HSDD.out, List.headD_cons, List.drop_succ_cons, List.drop_zero, List.append_assoc, List.cons_append, List.nil_append]
          case measure => simp [intOf]; omega
        · go_wp2_with fail
          with_reducible refine (HCP.out _).mono ?_
          rintro e w' ⟨rfl, rfl⟩
          go_wp2_with (refine wpList_append_ss rfl _ _ rfl w.heap.size _ zs rfl (HOWN.out.below ((Below.refl _ _).alloc (Nat.le_refl _) _)) (some ⟨wr.heap.size, 0, none⟩) [_] 1 rfl (new_one wr _ _) (fun h => by cases h) (by simp [HZL.out]; omega) (by simp; omega) ?_; intro v' w' hown' hb')
          have HO2 := Lib.hid hown'
          have HB3 := Lib.hid (show Below w.heap.size wr w' from ((Below.refl _ _).alloc hzr _).trans hb')
          clear hown' hb'
          go_wp2
          go_roundw
          case rel =>
            refine ⟨k + 1, _, us', by omega, by go_num, ⟨_, _, _, rfl, ?_, by omega, by have := HCM2.out; omega, HR2.out.drop 1⟩, HO2.out, by simp [HZL.out], HBR.out.trans HB3.out, ?_, fun u hu => HUS.out u (List.mem_cons_of_mem _ hu), ?_⟩
            · have := HM2.out; simp at this; omega
            · have h1 := HSU.out
              have h2 := HSD.out
              simp at h2 h1 ⊢
              omega
            · rw [HF.out, HSTP.out, bs_append]
              simp only [bs, List.map_cons, List.map_nil, append_data, HSDD.out, List.headD_cons, List.drop_succ_cons, List.drop_zero, List.append_assoc, List.cons_append, List.nil_append]
          case measure => simp [intOf]; omega
      · rw [hs] at HSTP HSD
        have hpx : Lib.hasPrefix x.data.toList [42] = false := Pt.prefix_comp hcx
        have htp : Lib.trimPrefix x.data.toList [42] = x.data.toList := by unfold Lib.trimPrefix; rw [hpx]; rfl
        rw [hpx, htp] at hcp
        have HCP := Lib.hid hcp
        clear hpx htp hcp hpk hs hcx
        go_wp2_with fail
        with_reducible refine (HCP.out _).mono ?_
        rintro e w' ⟨rfl, rfl⟩
        go_wp2_with (refine wpList_append_ss rfl _ _ rfl w.heap.size _ zs rfl (HOWN.out.below ((Below.refl _ _).alloc (Nat.le_refl _) _)) (some ⟨wr.heap.size, 0, none⟩) [x] 1 rfl (new_one wr x _) (fun h => by cases h) (by simp [HZL.out]; omega) (by simp; omega) ?_; intro v' w' hown' hb')
        have HO2 := Lib.hid hown'
        have HB3 := Lib.hid (show Below w.heap.size wr w' from ((Below.refl _ _).alloc hzr _).trans hb')
        clear hown' hb'
        go_wp2
        go_roundw
        case rel =>
          refine ⟨k + 1, zs ++ [x], us, by omega, by go_num, ⟨A2, m2, c2, rfl, HM2.out, hmc2, HCM2.out, HR2.out⟩, HO2.out, by simp [HZL.out], HBR.out.trans HB3.out, ?_, HUS.out, ?_⟩
          · have h1 := HSU.out
            have h2 := HSD.out
            simp at h2
            omega
          · rw [HF.out, HSTP.out, bs_append]
            simp [bs]
        case measure => simp [intOf]; omega
    · obtain rfl : k = n := by omega
      have hfe : fl = bs zs := by
        rw [HF.out, List.drop_of_length_le (by rw [bs_length, ← HN.out]; exact Nat.le_refl _)]
        simp [Pt.fillsOf]
      go_wp2
      go_ret
      exact ⟨_, zs, rfl, HOWN.out, hfe.symm, HBR.out⟩
end Go.Proofs.YthgcnlhlhipllaaGreatDoor
