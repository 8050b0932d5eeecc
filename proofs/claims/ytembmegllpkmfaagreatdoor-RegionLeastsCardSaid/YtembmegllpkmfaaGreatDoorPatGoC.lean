/- The contract of the program's filled. The contract of the program's Fill. The contract of the program's Match once more, with what a nil answer says; how long captures are. -/
import Derived.Test.YtembmegllpkmfaaGreatDoorPatGoB
import Derived.Test.YtembmegllpkmfaaGreatDoorPathOwnAll
import Derived.Deep.RegionHeld3
import Derived.Deep.RegionLaw
namespace Go.Proofs.YtembmegllpkmfaaGreatDoor
open Go.RowKit

/-- A value that is a slice with these strings. -/
def RowAt (w : World) (tv : Value) (us : List ByteArray) : Prop := ∃ A m c, tv = .slice A m c ∧ m = us.length ∧ m ≤ c ∧ c ≤ maxLen ∧ RdS w w.heap.size A us
def GivesF (w : World) (l : List (List UInt8)) (e : Ending) (w' : World) : Prop := ∃ v zs, e = .returned v ∧ OwnS w' w.heap.size v zs ∧ bs zs = l ∧ Below w.heap.size w w'
theorem fills_step {X T : List (List UInt8)} {k : Nat} (h : k < X.length) : Pt.fillsOf (X.drop k) T = match Pt.star X[k] with
    | none => X[k] :: Pt.fillsOf (X.drop (k + 1)) T
    | some s => (T.headD [] ++ s) :: Pt.fillsOf (X.drop (k + 1)) (T.drop 1) := by
  rw [List.drop_eq_getElem_cons h, Pt.fillsOf]
  cases Pt.star X[k] <;> rfl
theorem append_data (a b : ByteArray) : (a ++ b).data.toList = a.data.toList ++ b.data.toList := by simp [ByteArray.data_append]

set_option maxHeartbeats 4000000 in
theorem filled_any (A B : Option Addr) (xs ts : List ByteArray) (c d : Nat) (w : World) (hr : RdS w w.heap.size A xs) (hc : xs.length ≤ c) (hcm : c ≤ maxLen) (ht : RdS w w.heap.size B ts) (hd : ts.length ≤ d) (hdm : d ≤ maxLen)
    (hp : ∀ x ∈ bs xs, Pt.part x = true) (hst : Pt.stars (bs xs) ≤ ts.length) (hsx : ∀ x ∈ xs, x.size ≤ 100000) (hsy : ∀ y ∈ ts, y.size ≤ 100000) (hN : xs.length ≤ 1000) :
    Calls Tryz.prog 136 #[.slice A xs.length c, .slice B ts.length d] w (GivesF w (Pt.fillsOf (bs xs) (bs ts))) := by
  have HRD := Lib.hid hr
  have HPT := Lib.hid hp
  have HSX := Lib.hid hsx
  have HFO := Lib.hid (show Pt.fillsOf (bs xs) (bs ts) = Pt.fillsOf (bs xs) (bs ts) from rfl)
  have HRow := Lib.hid (show RowAt w (.slice B ts.length d) ts from ⟨B, _, d, rfl, rfl, hd, hdm, ht⟩)
  have HST := Lib.hid hst
  have HSY := Lib.hid hsy
  obtain ⟨fl, hfl⟩ : ∃ fl, fl = Pt.fillsOf (bs xs) (bs ts) := ⟨_, rfl⟩
  rw [← hfl]
  have HFL := Lib.hid hfl
  have hci : (c : Int) ≤ 9223372036854775807 := by unfold maxLen at hcm; omega
  obtain ⟨i, hi, hz, hz1, hz2⟩ := strParts
  obtain ⟨n, hn⟩ : ∃ n, n = xs.length := ⟨_, rfl⟩
  obtain ⟨m, hmm⟩ : ∃ m, m = ts.length := ⟨_, rfl⟩
  rw [← hn] at hc hN
  rw [← hn, ← hmm]
  rw [← hmm] at HRow
  have HN := Lib.hid hn
  have hnb : i.bytes * n ≤ 281474976710656 := by rw [hz2]; omega
  have hnx : n ≤ maxLen := by unfold maxLen; omega
  clear hr hcm ht hd hdm hp hst hsx hsy hfl hn hmm HFO
  go_enter Tryz.func136, Tryz.ntmps136
  go_wp2_with (refine wpList_make_own w rfl _ _ 22 rfl w.heap.size 9 i _ 1 Tryz.underlying22 hi hz hz1 _ _ _ n rfl rfl rfl hnb hnx (Nat.le_refl _) ?_; intro w1 hown0 hg)
  have HB1 := Lib.hid (show Below w.heap.size w w1 from ⟨hg.os, hg.tape, hg.output, hg.size, fun k hk => hg.block k (by omega) (by simp)⟩)
  have HO0 := Lib.hid (show OwnS w1 w.heap.size (.slice (some ⟨w.heap.size, 0, none⟩) 0 n) [] from hown0)
  clear hown0 hg hi hz hz1 hz2 hnb hnx
  go_wp2
  go_loopw [1, 5, 15] (fun tv out iv wr => ∃ (k : Nat) (zs us : List ByteArray), k ≤ n ∧ iv = .int .i64 k ∧ RowAt w tv us ∧ OwnS wr w.heap.size out zs ∧ zs.length = k ∧ Below w.heap.size w wr ∧ Pt.stars ((bs xs).drop k) ≤ us.length ∧ (∀ u ∈ us, u.size ≤ 100000) ∧ fl = bs zs ++ Pt.fillsOf ((bs xs).drop k) (bs us)) (fun _ _ iv _ => n - (intOf iv).toNat)
  case atStart => exact ⟨0, [], ts, by omega, rfl, HRow.out, HO0.out, rfl, HB1.out, HST.out, HSY.out, HFL.out⟩
  case round =>
    obtain ⟨k, zs, us, hkn, rfl, hrow, hown, hzl, hbr, hsu, hus, hfo⟩ := hrel
    obtain ⟨A2, m2, c2, rfl, hm2, hmc2, hcm2, hr2⟩ := hrow
    have hzr := hbr.size
    have HOWN := Lib.hid hown
    have HBR := Lib.hid hbr
    have HR2 := Lib.hid hr2
    have HSU := Lib.hid hsu
    have HUS := Lib.hid hus
    have HF := Lib.hid hfo
    have HZL := Lib.hid hzl
    have HM2 := Lib.hid hm2
    have hc2i : (c2 : Int) ≤ 9223372036854775807 := by unfold maxLen at hcm2; omega
    have HCM2 := Lib.hid hcm2
    clear hown hbr hr2 hsu hus hfo hzl hm2 hcm2
    by_cases hlt : k < n
    · have hlx : k < xs.length := by rw [← HN.out]; exact hlt
      have hlb : k < (bs xs).length := by rw [bs_length]; exact hlx
      obtain ⟨g, og, rfl, hg, hcell⟩ := HRD.out.cells (by omega)
      have e1 := (HBR.out.cell (p := ⟨g, og + k, none⟩) hg).trans (hcell k hlx)
      have hst := fills_step (T := bs us) hlb
      have hsd := stars_drop hlb
      have hpk := HPT.out _ (List.getElem_mem hlb)
      rw [bs_get xs k hlx] at hst hsd hpk
      have hsx := HSX.out _ (List.getElem_mem hlx)
      clear hcell hlb
      generalize xs[k] = x at *
      have HSTP := Lib.hid hst
      have HSD := Lib.hid hsd
      clear hst hsd
      have hcp := fun w : World => cutp_any x ⟨#[42]⟩ w
      have e0 : (ByteArray.mk #[42]).data.toList = [42] := rfl
      rw [e0] at hcp
      clear e0
      rcases Pt.part_cases hpk with ⟨s, hs, hx2, _⟩ | ⟨hs, hcx⟩
      · rw [hs] at HSTP HSD
        have hpx : Lib.hasPrefix x.data.toList [42] = true := Pt.star_prefix hs
        have htp : Lib.trimPrefix x.data.toList [42] = s := by unfold Lib.trimPrefix; rw [hpx, hx2]; rfl
        rw [hpx, htp] at hcp
        have HCP := Lib.hid hcp
        have hsl : s.length ≤ 100000 := by
          have := star_len hs
          rw [← Lib.size_eq] at this
          omega
        have hu1 : 1 ≤ us.length := by
          have h1 := HSU.out
          have h2 := HSD.out
          simp at h2
          omega
        obtain ⟨g2, o2, rfl, hg2, hcell2⟩ := HR2.out.cells (by omega)
        have k2 := (HBR.out.cell (p := ⟨g2, o2 + 0, none⟩) hg2).trans (hcell2 0 (by omega))
        have k3 := k2
        rw [Nat.add_zero] at k3
        obtain ⟨u, us', rfl⟩ : ∃ u us', us = u :: us' := by
          cases us with
          | nil => simp at hu1
          | cons a r => exact ⟨a, r, rfl⟩
        simp only [List.getElem_cons_zero] at k2 k3
        have hus1 : u.size ≤ 100000 := HUS.out u (by simp)
        obtain ⟨q, rfl⟩ : ∃ q, m2 = q + 1 := ⟨us'.length, by rw [HM2.out]; rfl⟩
        obtain ⟨S, hS⟩ : ∃ S : ByteArray, S = ⟨s.toArray⟩ := ⟨_, rfl⟩
        have hSd : S.data.toList = s := by rw [hS]
        have hSz : S.size ≤ 100000 := by rw [Lib.size_eq, hSd]; exact hsl
        rw [← hS] at HCP
        have HSDD := Lib.hid hSd
        clear hcell2 hpx htp hcp hu1 hpk hs hx2 hS hSd
        by_cases hc1 : c2 = 1
        · subst hc1
          obtain rfl : q = 0 := by omega
          go_wp2_with fail
          with_reducible refine (HCP.out _).mono ?_
          rintro e w' ⟨rfl, rfl⟩
          go_wp2_with (refine wpList_append_ss rfl _ _ rfl w.heap.size _ zs rfl (HOWN.out.below ((Below.refl _ _).alloc (Nat.le_refl _) _)) (some ⟨wr.heap.size, 0, none⟩) [_] 1 rfl (new_one wr _ _) (fun h => by cases h) (by simp [HZL.out]; omega) (by simp; omega) ?_; intro v' w' hown' hb')
          have HO2 := Lib.hid hown'
          have HB3 := Lib.hid (show Below w.heap.size wr w' from ((Below.refl _ _).alloc hzr _).trans hb')
          clear hown' hb'
          go_wp2
          go_roundw
          case rel =>
            have hus0 : us' = [] := List.eq_nil_of_length_eq_zero (by have h := HM2.out; rw [List.length_cons] at h; omega)
            subst hus0
            refine ⟨k + 1, _, [], by omega, by go_num, ⟨_, _, _, rfl, by simp, by first | (simp; done) | omega, by simp, .inl rfl⟩, HO2.out, by simp [HZL.out], HBR.out.trans HB3.out, ?_, by simp, ?_⟩
            · have h1 := HSU.out
              have h2 := HSD.out
              simp at h2 h1 ⊢
              omega
            · rw [HF.out, HSTP.out, bs_append]
              simp only [bs, List.map_cons, List.map_nil, append_data, HSDD.out, List.headD_cons, List.drop_succ_cons, List.drop_zero, List.append_assoc, List.cons_append, List.nil_append]
          case measure => simp [intOf]; omega
        · go_wp2_with fail
          with_reducible refine (HCP.out _).mono ?_
          rintro e w' ⟨rfl, rfl⟩
          go_wp2_with (refine wpList_append_ss rfl _ _ rfl w.heap.size _ zs rfl (HOWN.out.below ((Below.refl _ _).alloc (Nat.le_refl _) _)) (some ⟨wr.heap.size, 0, none⟩) [_] 1 rfl (new_one wr _ _) (fun h => by cases h) (by simp [HZL.out]; omega) (by simp; omega) ?_; intro v' w' hown' hb')
          have HO2 := Lib.hid hown'
          have HB3 := Lib.hid (show Below w.heap.size wr w' from ((Below.refl _ _).alloc hzr _).trans hb')
          clear hown' hb'
          go_wp2
          go_roundw
          case rel =>
            refine ⟨k + 1, _, us', by omega, by go_num, ⟨_, _, _, rfl, ?_, by omega, by have := HCM2.out; omega, HR2.out.drop 1⟩, HO2.out, by simp [HZL.out], HBR.out.trans HB3.out, ?_, fun u hu => HUS.out u (List.mem_cons_of_mem _ hu), ?_⟩
            · have := HM2.out; simp at this; omega
            · have h1 := HSU.out
              have h2 := HSD.out
              simp at h2 h1 ⊢
              omega
            · rw [HF.out, HSTP.out, bs_append]
              simp only [bs, List.map_cons, List.map_nil, append_data, HSDD.out, List.headD_cons, List.drop_succ_cons, List.drop_zero, List.append_assoc, List.cons_append, List.nil_append]
          case measure => simp [intOf]; omega
      · rw [hs] at HSTP HSD
        have hpx : Lib.hasPrefix x.data.toList [42] = false := Pt.prefix_comp hcx
        have htp : Lib.trimPrefix x.data.toList [42] = x.data.toList := by unfold Lib.trimPrefix; rw [hpx]; rfl
        rw [hpx, htp] at hcp
        have HCP := Lib.hid hcp
        clear hpx htp hcp hpk hs hcx
        go_wp2_with fail
        with_reducible refine (HCP.out _).mono ?_
        rintro e w' ⟨rfl, rfl⟩
        go_wp2_with (refine wpList_append_ss rfl _ _ rfl w.heap.size _ zs rfl (HOWN.out.below ((Below.refl _ _).alloc (Nat.le_refl _) _)) (some ⟨wr.heap.size, 0, none⟩) [x] 1 rfl (new_one wr x _) (fun h => by cases h) (by simp [HZL.out]; omega) (by simp; omega) ?_; intro v' w' hown' hb')
        have HO2 := Lib.hid hown'
        have HB3 := Lib.hid (show Below w.heap.size wr w' from ((Below.refl _ _).alloc hzr _).trans hb')
        clear hown' hb'
        go_wp2
        go_roundw
        case rel =>
          refine ⟨k + 1, zs ++ [x], us, by omega, by go_num, ⟨A2, m2, c2, rfl, HM2.out, hmc2, HCM2.out, HR2.out⟩, HO2.out, by simp [HZL.out], HBR.out.trans HB3.out, ?_, HUS.out, ?_⟩
          · have h1 := HSU.out
            have h2 := HSD.out
            simp at h2
            omega
          · rw [HF.out, HSTP.out, bs_append]
            simp [bs]
        case measure => simp [intOf]; omega
    · obtain rfl : k = n := by omega
      have hfe : fl = bs zs := by
        rw [HF.out, List.drop_of_length_le (by rw [bs_length, ← HN.out]; exact Nat.le_refl _)]
        simp [Pt.fillsOf]
      go_wp2
      go_ret
      exact ⟨_, zs, rfl, HOWN.out, hfe.symm, HBR.out⟩
end Go.Proofs.YtembmegllpkmfaaGreatDoor

namespace Go.Proofs.YtembmegllpkmfaaGreatDoor
open Go.RowKit

/-- The box of a call's parameter, and all behind it, at a later world. -/
structure In1 (w : World) (v0 v1 : Value) (t : TypeId) (w' : World) : Prop where
  below : Below (w.alloc (.cells #[v0, v1] t)).heap.size (w.alloc (.cells #[v0, v1] t)) w'
theorem In1.held {w w' : World} {v0 v1 : Value} {t : TypeId} (h : In1 w v0 v1 t w') : w'.cell? ⟨w.heap.size, 0, none⟩ = some v0 ∧ w'.cell? ⟨w.heap.size, 1, none⟩ = some v1 ∧ In1 w v0 v1 t w' := by
  obtain ⟨a, b⟩ := box_cells h.below
  exact ⟨a, b, h⟩
theorem In1.next {w w1 w' : World} {v0 v1 : Value} {t : TypeId} (h : In1 w v0 v1 t w1) (hb : Below w1.heap.size w1 w') : In1 w v0 v1 t w' := ⟨h.below.trans (hb.mono h.below.size)⟩
theorem In1.drew {w w' : World} {v0 v1 : Value} {t : TypeId} (h : In1 w v0 v1 t w') : In1 w v0 v1 t w'.drew := ⟨h.below.trans ⟨rfl, rfl, rfl, Nat.le_refl _, fun _ _ => rfl⟩⟩

abbrev S1 (w : World) (v0 v1 : Value) (t : TypeId) (w' : World) : Prop := w'.cell? ⟨w.heap.size, 0, none⟩ = some v0 ∧ w'.cell? ⟨w.heap.size, 1, none⟩ = some v1 ∧ In1 w v0 v1 t w'
theorem S1.next {w w1 w' : World} {v0 v1 : Value} {t : TypeId} (h : S1 w v0 v1 t w1) (hb : Below w1.heap.size w1 w') : S1 w v0 v1 t w' := (In1.next h.2.2 hb).held
theorem S1.nxt {w w1 w' : World} {v0 v1 : Value} {t : TypeId} (hb : Below w1.heap.size w1 w') (h : S1 w v0 v1 t w1) : S1 w v0 v1 t w' := (In1.next h.2.2 hb).held
theorem S1.drew {w w' : World} {v0 v1 : Value} {t : TypeId} (h : S1 w v0 v1 t w') : S1 w v0 v1 t w'.drew := (In1.drew h.2.2).held
theorem capsOkN_eq (p : Pt.Pat) (caps : List (List UInt8)) : capsOkN (Pt.stars p.parts) p.rest caps = Pt.capsOk p caps := by
  unfold capsOkN Pt.capsOk Pt.wilds
  rfl
theorem fills_sizes : ∀ {X T : List (List UInt8)}, (∀ x ∈ X, x.length ≤ 100000) → (∀ t ∈ T, t.length ≤ 100000) → ∀ z ∈ Pt.fillsOf X T, z.length ≤ 200000
  | [], _, _, _, z, hz => by cases hz
  | x :: X, T, h1, h2, z, hz => by
    cases hs : Pt.star x with
    | none =>
      rw [Pt.fillsOf_comp _ _ hs] at hz
      rcases List.mem_cons.1 hz with rfl | h
      · exact Nat.le_trans (h1 _ (by simp)) (by decide)
      · exact fills_sizes (fun y hy => h1 y (List.mem_cons_of_mem _ hy)) h2 z h
    | some s =>
      rw [Pt.fillsOf_star _ _ hs] at hz
      rcases List.mem_cons.1 hz with rfl | h
      · have hl := star_len hs
        have hx := h1 x (by simp)
        rw [List.length_append]
        cases T with
        | nil => simp; omega
        | cons t T =>
          have := h2 t (by simp)
          simp only [List.headD_cons]
          omega
      · exact fills_sizes (fun y hy => h1 y (List.mem_cons_of_mem _ hy)) (fun t ht => h2 t (List.mem_of_mem_drop ht)) z h

set_option maxHeartbeats 4000000 in
theorem fill_any (A B : Option Addr) (xs ys : List ByteArray) (c d : Nat) (b : Bool) (p : Pt.Pat) (w : World) (hp : PatR w A xs c b p) (hsx : ∀ x ∈ xs, x.size ≤ 100000) (hr : RdS w w.heap.size B ys) (hd : ys.length ≤ d) (hdm : d ≤ maxLen) (hnil : B = none → d = 0) (hsy : ∀ y ∈ ys, y.size ≤ 100000) (hm : MaxL w) :
    Calls Tryz.prog 105 #[patV A xs.length c b, .slice B ys.length d] w (GivesS2 w (Pt.filled p (bs ys)) (Pt.fillErr p (bs ys))) := by
  obtain ⟨W0, hW0⟩ : ∃ W0, W0 = w.alloc (.cells #[.slice A xs.length c, .bool b] 24) := ⟨_, rfl⟩
  have halloc : Below w.heap.size w W0 := by rw [hW0]; exact (Below.refl _ _).alloc (Nat.le_refl _) _
  have hp0 := hp.keep halloc
  have hr0 := (hr.keep halloc).more halloc.size
  have hm0 := hm.keep halloc hm.size
  have HK := Lib.hid (kinds_any A xs c b p W0 hp0)
  by_cases hk : Pt.check p = 0
  · have h0 : kindsN p = Pt.stars p.parts := if_pos hk
    have h1 : kindsR p = p.rest := if_pos hk
    rw [h0, h1, hk, ← hp.rest] at HK
    have hn12 : xs.length ≤ 12 := by rw [← hp.len]; exact (Pt.check_ok.1 hk).2
    have hst12 : Pt.stars p.parts ≤ 12 := by have := stars_le p.parts; rw [hp.len] at this; omega
    have HAC := Lib.hid (fun (w' : World) (hb : Below W0.heap.size W0 w') => areCaptures_any B ys d (Pt.stars p.parts) b w' ((hr0.keep hb).more hb.size) hd hdm hnil hsy (by omega) (hm0.keep hb hm0.size))
    have hce : capsOkN (Pt.stars p.parts) b (bs ys) = Pt.capsOk p (bs ys) := by rw [hp.rest]; exact capsOkN_eq p (bs ys)
    rw [hce] at HAC
    have hfe := Pt.fill_err p (bs ys)
    rw [if_pos hk] at hfe
    cases hok : Pt.capsOk p (bs ys) with
    | false =>
      rw [hok] at hfe HAC
      have hfv : Pt.filled p (bs ys) = [] := by unfold Pt.filled; rw [hfe]; rfl
      rw [hfe, hfv]
      simp only [Bool.false_eq_true, if_false]
      generalize Pt.stars p.parts = s at *
      generalize xs.length = n at *
      generalize ys.length = m at *
      subst hW0
      have HAL := Lib.hid halloc
      clear hp hr hp0 hr0 hm0 hfe hfv hok hce h0 h1 hk halloc hsx hsy
      go_enter Tryz.func105, Tryz.ntmps105
      go_wp2_with fail
      with_reducible refine HK.out.mono ?_
      rintro e w1 ⟨rfl, hb1⟩
      have HB1 := Lib.hid hb1
      clear hb1
      go_wp2_with fail
      with_reducible refine (HAC.out _ HB1.out).mono ?_
      rintro e w2 ⟨rfl, hb2⟩
      have HB2 := Lib.hid hb2
      clear hb2
      go_wp2
      go_ret2
      exact ⟨rfl, (HAL.out.trans (HB1.out.mono (by simp))).trans (HB2.out.mono (by have := HB1.out.size; simp at this; omega))⟩
    | true =>
      have hft := Pt.fill_text hk hok
      rw [hok] at hfe HAC
      simp only [if_true] at hfe
      rw [hfe, hft]
      unfold Pt.capsOk at hok
      simp only [Bool.and_eq_true, decide_eq_true_eq, bs_length] at hok
      have hwl : ys.length = Pt.stars p.parts + if b then 1 else 0 := by rw [hok.1.1]; unfold Pt.wilds; rw [hp.rest]
      have hsl : Pt.stars p.parts ≤ ys.length := by omega
      have htl : (ys.take (Pt.stars p.parts)).length = Pt.stars p.parts := by rw [List.length_take]; omega
      have HFl := Lib.hid (fun (w' : World) (hb : Below W0.heap.size W0 w') => filled_any A B xs (ys.take (Pt.stars p.parts)) c d w' ((hp0.keep hb).rd) hp.le hp.cm (((hr0.take _).keep hb).more hb.size) (by rw [htl]; omega) hdm
        (by rw [hp.parts]; exact Pt.form_parts (Pt.check_ok.1 hk).1) (by rw [htl, hp.parts]; exact Nat.le_refl _) hsx (fun y hy => hsy y (List.mem_of_mem_take hy)) (by omega))
      rw [htl, bs_takeN, hp.parts, Pt.fillsOf_take] at HFl
      have HZ := Lib.hid (fills_sizes (X := p.parts) (T := bs ys) (by rw [← hp.parts]; intro x hx; obtain ⟨y, hy, rfl⟩ := List.mem_map.1 hx; rw [← Lib.size_eq]; exact hsx y hy) (by intro x hx; obtain ⟨y, hy, rfl⟩ := List.mem_map.1 hx; rw [← Lib.size_eq]; exact hsy y hy))
      have hzl12 : (Pt.fillsOf p.parts (bs ys)).length ≤ 12 := by rw [Pt.fillsOf_len, hp.len]; exact hn12
      have HZL := Lib.hid (show (Pt.fillsOf p.parts (bs ys)).length ≤ 12 by rw [Pt.fillsOf_len, hp.len]; exact hn12)
      have HYS := Lib.hid hsy
      generalize Pt.fillsOf p.parts (bs ys) = fl at *
      generalize Pt.stars p.parts = s at *
      have hdi : (d : Int) ≤ 9223372036854775807 := by unfold maxLen at hdm; omega
      generalize xs.length = n at *
      cases b with
      | true =>
        simp only [if_true] at hwl
        obtain ⟨g, o, rfl, hg, hcell⟩ := hr.cells (by omega)
        have HRd := Lib.hid (fun (w' : World) (h : S1 w (.slice A n c) (.bool true) 24 w') => ((hr.keep (halloc.trans ((hW0 ▸ h.2.2.below).mono halloc.size))).more (halloc.trans ((hW0 ▸ h.2.2.below).mono halloc.size)).size).drop s)
        have HFlI := Lib.hid (fun (w' : World) (h : S1 w (.slice A n c) (.bool true) 24 w') => HFl.out w' (hW0 ▸ h.2.2.below))
        have i1 : (s : Int) ≤ (ys.length : Int) := by omega
        have i2 : (ys.length : Int) ≤ (d : Int) := by omega
        have i3 : ¬ d = s := by omega
        have HTX := Lib.hid (fun (w' : World) (A' : Option Addr) (zs L : List ByteArray) (c' : Nat) (hr' : RdS w' w'.heap.size A' L) (hc' : L.length ≤ c') (hbz : bs zs = fl) (hL : zs ++ ys.drop s = L) => by
          have hbL : bs L = fl ++ (bs ys).drop s := by rw [← hL, bs_append, hbz, bs_dropN]
          have hLl : L.length ≤ 13 := by rw [← bs_length, hbL, List.length_append, List.length_drop, bs_length]; omega
          have hj := lib_join_len 200000 (bs L) (by
            rw [hbL]
            intro x hx
            rcases List.mem_append.1 hx with h | h
            · exact HZ.out x h
            · obtain ⟨y, hy, rfl⟩ := List.mem_map.1 (List.mem_of_mem_drop h)
              rw [← Lib.size_eq]
              exact Nat.le_trans (HYS.out y hy) (by decide))
          rw [bs_length] at hj
          have := Nat.mul_le_mul_right 200001 hLl
          have ht := textOf_any A' L c' w' hr' hc' (by omega) (by omega)
          rw [hbL] at ht
          exact ht)
        have i0 : (0 : Int) ≤ (s : Int) := Int.natCast_nonneg _
        have i5 : (s : Int) ≤ (d : Int) := by omega
        have hyd : (ys.drop s).length = 1 := by rw [List.length_drop]; omega
        have i4 : s < ys.length := by omega
        obtain ⟨m, hm1⟩ : ∃ m, m = ys.length := ⟨_, rfl⟩
        rw [← hm1] at HAC i1 i2 i4 ⊢
        have HW := Lib.hid hwl
        have HM1 := Lib.hid hm1
        have HMS := Lib.hid (show m - s = (ys.drop s).length by rw [hm1, List.length_drop])
        have HZB := Lib.hid (show ∀ zs : List ByteArray, bs zs = fl → zs.length + (ys.drop s).length ≤ 1000000 from fun zs h => by rw [← bs_length zs, h, hyd]; omega)
        clear hwl hm1
        subst hW0
        have HAL := Lib.hid halloc
        clear hp hr hp0 hr0 hm0 hfe hft hok hce h0 h1 hk halloc hsx hsy HFl hcell
        go_enter Tryz.func105, Tryz.ntmps105
        go_wp2_with fail
        with_reducible refine HK.out.mono ?_
        rintro e w1 ⟨rfl, hb1⟩
        have HB1 := Lib.hid hb1
        clear hb1
        go_wp2_with fail
        with_reducible refine (HAC.out _ HB1.out).mono ?_
        rintro e w2 ⟨rfl, hb2⟩
        have hin : S1 w (.slice A n c) (.bool true) 24 w2 := In1.held ⟨HB1.out.trans (hb2.mono HB1.out.size)⟩
        clear hb2 HB1 HK HAC
        go_wp2_with fail
        set_option maxRecDepth 100000 in
        go_region_held3 (fun w' => w'.cell? ⟨w.heap.size, 0, none⟩ = some (.slice A n c) ∧ w'.cell? ⟨w.heap.size, 1, none⟩ = some (.bool true) ∧ In1 w (.slice A n c) (.bool true) 24 w')
          (first | exact S1.nxt hb4 (by assumption) | exact S1.nxt hbb (S1.drew hin) | exact S1.nxt hb (S1.drew hin) | exact S1.nxt hb (by assumption) | exact S1.drew (by assumption) | exact hin | go_keep)
          (first
            | (go_at_call 136; refine (HFlI.out _ (by assumption)).mono ?_; rintro e w' ⟨v, zs, rfl, hown, hbz, hb⟩; obtain ⟨A0, c0, rfl, hg1, hg2, hg3, hg4⟩ := hown.form)
            | (go_at_call 135; refine (HTX.out _ _ _ _ _ hf3 hf1 hbz hL).mono ?_; rintro e w4 ⟨rfl, hb4⟩)
            | (refine step_append_ss rfl _ _ rfl _ (.slice A0 zs.length c0) zs rfl hown (some ⟨g, o + s, none⟩) (ys.drop s) _ _ HMS.out rfl (HRd.out _ (by assumption)) (fun h => by cases h) (HZB.out zs hbz) hb.size ?_; intro v' w' hown' hb'; have hbb := hb.trans hb'; generalize hL : zs ++ ys.drop s = L at hown'; obtain ⟨A', c', rfl, hf1, hf2, hf3, hf4⟩ := hown'.form))
        go_wp2
        go_ret2
        exact ⟨rfl, HAL.out.trans (((S1.nxt hb4 (S1.nxt hbb (S1.drew hin))).2.2.below).mono HAL.out.size)⟩
      | false =>
        simp only [Bool.false_eq_true, if_false, Nat.add_zero] at hwl
        obtain rfl : ys.length = s := hwl
        have hnl : ys.drop ys.length = [] := List.drop_of_length_le (Nat.le_refl _)
        cases B with
        | none =>
          have HFlI := Lib.hid (fun (w' : World) (h : S1 w (.slice A n c) (.bool false) 24 w') => HFl.out w' (hW0 ▸ h.2.2.below))
          have HTX := Lib.hid (fun (w' : World) (A' : Option Addr) (zs L : List ByteArray) (c' : Nat) (hr' : RdS w' w'.heap.size A' L) (hc' : L.length ≤ c') (hbz : bs zs = fl) (hL : zs ++ ys.drop ys.length = L) => by
            have hbL : bs L = fl ++ (bs ys).drop ys.length := by rw [← hL, bs_append, hbz, bs_dropN]
            have hLl : L.length ≤ 13 := by rw [← bs_length, hbL, List.length_append, List.length_drop, bs_length]; omega
            have hj := lib_join_len 200000 (bs L) (by
              rw [hbL]
              intro x hx
              rcases List.mem_append.1 hx with h | h
              · exact HZ.out x h
              · obtain ⟨y, hy, rfl⟩ := List.mem_map.1 (List.mem_of_mem_drop h)
                rw [← Lib.size_eq]
                exact Nat.le_trans (HYS.out y hy) (by decide))
            rw [bs_length] at hj
            have := Nat.mul_le_mul_right 200001 hLl
            have ht := textOf_any A' L c' w' hr' hc' (by omega) (by omega)
            rw [hbL] at ht
            exact ht)
          obtain rfl : d = 0 := hnil rfl
          have hyd : (ys.drop ys.length).length = 0 := by rw [hnl]; rfl
          have HZB := Lib.hid (show ∀ zs : List ByteArray, bs zs = fl → zs.length + (ys.drop ys.length).length ≤ 1000000 from fun zs h => by rw [← bs_length zs, h, hyd]; omega)
          have HNL := Lib.hid hnl
          have HMS := Lib.hid (show 0 = (ys.drop ys.length).length from hyd.symm)
          have hy0 : ys.length = 0 := by omega
          rw [hy0] at HK HAC HFlI HTX HZB HNL HMS hyd ⊢
          simp only [show ((0 : Nat) : Int) = 0 from rfl] at HK HAC
          clear htl hsl hnl hd hy0 hok
          subst hW0
          have HAL := Lib.hid halloc
          clear hp hr hp0 hr0 hm0 hfe hft hce h0 h1 hk halloc hsx hsy HFl
          go_enter Tryz.func105, Tryz.ntmps105
          go_wp2_with fail
          with_reducible refine HK.out.mono ?_
          rintro e w1 ⟨rfl, hb1⟩
          have HB1 := Lib.hid hb1
          clear hb1
          go_wp2_with fail
          with_reducible refine (HAC.out _ HB1.out).mono ?_
          rintro e w2 ⟨rfl, hb2⟩
          have hin : S1 w (.slice A n c) (.bool false) 24 w2 := In1.held ⟨HB1.out.trans (hb2.mono HB1.out.size)⟩
          clear hb2 HB1 HK HAC
          go_wp2_with fail
          set_option maxRecDepth 100000 in
          go_region_held3 (fun w' => w'.cell? ⟨w.heap.size, 0, none⟩ = some (.slice A n c) ∧ w'.cell? ⟨w.heap.size, 1, none⟩ = some (.bool false) ∧ In1 w (.slice A n c) (.bool false) 24 w')
            (first | exact S1.nxt hb4 (by assumption) | exact S1.nxt hbb (S1.drew hin) | exact S1.nxt hb (S1.drew hin) | exact S1.nxt hb (by assumption) | exact S1.drew (by assumption) | exact hin | go_keep)
            (first
              | (go_at_call 136; refine (HFlI.out _ (by assumption)).mono ?_; rintro e w' ⟨v, zs, rfl, hown, hbz, hb⟩; obtain ⟨A0, c0, rfl, hg1, hg2, hg3, hg4⟩ := hown.form)
              | (go_at_call 135; refine (HTX.out _ _ _ _ _ hf3 hf1 hbz hL).mono ?_; rintro e w4 ⟨rfl, hb4⟩)
              | (refine step_append_ss rfl _ _ rfl _ (.slice A0 zs.length c0) zs rfl hown none (ys.drop 0) _ _ HMS.out rfl (.inl HNL.out) (fun _ => rfl) (HZB.out zs hbz) hb.size ?_; intro v' w' hown' hb'; have hbb := hb.trans hb'; generalize hL : zs ++ ys.drop 0 = L at hown'; obtain ⟨A', c', rfl, hf1, hf2, hf3, hf4⟩ := hown'.form))
          go_wp2
          go_ret2
          exact ⟨rfl, HAL.out.trans (((S1.nxt hb4 (S1.nxt hbb (S1.drew hin))).2.2.below).mono HAL.out.size)⟩
        | some B =>
          by_cases hds : d = ys.length
          · skip
            have HFlI := Lib.hid (fun (w' : World) (h : S1 w (.slice A n c) (.bool false) 24 w') => HFl.out w' (hW0 ▸ h.2.2.below))
            have HTX := Lib.hid (fun (w' : World) (A' : Option Addr) (zs L : List ByteArray) (c' : Nat) (hr' : RdS w' w'.heap.size A' L) (hc' : L.length ≤ c') (hbz : bs zs = fl) (hL : zs ++ ys.drop ys.length = L) => by
              have hbL : bs L = fl ++ (bs ys).drop ys.length := by rw [← hL, bs_append, hbz, bs_dropN]
              have hLl : L.length ≤ 13 := by rw [← bs_length, hbL, List.length_append, List.length_drop, bs_length]; omega
              have hj := lib_join_len 200000 (bs L) (by
                rw [hbL]
                intro x hx
                rcases List.mem_append.1 hx with h | h
                · exact HZ.out x h
                · obtain ⟨y, hy, rfl⟩ := List.mem_map.1 (List.mem_of_mem_drop h)
                  rw [← Lib.size_eq]
                  exact Nat.le_trans (HYS.out y hy) (by decide))
              rw [bs_length] at hj
              have := Nat.mul_le_mul_right 200001 hLl
              have ht := textOf_any A' L c' w' hr' hc' (by omega) (by omega)
              rw [hbL] at ht
              exact ht)
            have i1 : (0 : Int) ≤ (ys.length : Int) := Int.natCast_nonneg _
            have i5 : (ys.length : Int) ≤ (d : Int) := by omega
            have i3 : d = ys.length := hds
            have hwl0 := hds
            have hyd : (ys.drop ys.length).length = 0 := by rw [hnl]; rfl
            have HZB := Lib.hid (show ∀ zs : List ByteArray, bs zs = fl → zs.length + (ys.drop ys.length).length ≤ 1000000 from fun zs h => by rw [← bs_length zs, h, hyd]; omega)
            have HNL := Lib.hid hnl
            obtain ⟨m, hm1⟩ : ∃ m, m = ys.length := ⟨_, rfl⟩
            rw [← hm1] at HK HAC HFlI HTX HZB HNL i1 i3 i5 hyd hst12 hwl0 ⊢
            have i4 : m = d := i3.symm
            clear i3 hwl0 hds
            have HMS0 := Lib.hid hm1
            have HMS := Lib.hid (show 0 = (ys.drop m).length from hyd.symm)
            have HM1 := Lib.hid hm1
            clear hm1 htl hsl hnl hd hok
            subst i4
            subst hW0
            have HAL := Lib.hid halloc
            clear hp hr hp0 hr0 hm0 hfe hft hce h0 h1 hk halloc hsx hsy HFl
            go_enter Tryz.func105, Tryz.ntmps105
            go_wp2_with fail
            with_reducible refine HK.out.mono ?_
            rintro e w1 ⟨rfl, hb1⟩
            have HB1 := Lib.hid hb1
            clear hb1
            go_wp2_with fail
            with_reducible refine (HAC.out _ HB1.out).mono ?_
            rintro e w2 ⟨rfl, hb2⟩
            have hin : S1 w (.slice A n c) (.bool false) 24 w2 := In1.held ⟨HB1.out.trans (hb2.mono HB1.out.size)⟩
            clear hb2 HB1 HK HAC
            go_wp2_with fail
            set_option maxRecDepth 100000 in
            go_region_held3 (fun w' => w'.cell? ⟨w.heap.size, 0, none⟩ = some (.slice A n c) ∧ w'.cell? ⟨w.heap.size, 1, none⟩ = some (.bool false) ∧ In1 w (.slice A n c) (.bool false) 24 w')
              (first | exact S1.nxt hb4 (by assumption) | exact S1.nxt hbb (S1.drew hin) | exact S1.nxt hb (S1.drew hin) | exact S1.nxt hb (by assumption) | exact S1.drew (by assumption) | exact hin | go_keep)
              (first
                | (go_at_call 136; refine (HFlI.out _ (by assumption)).mono ?_; rintro e w' ⟨v, zs, rfl, hown, hbz, hb⟩; obtain ⟨A0, c0, rfl, hg1, hg2, hg3, hg4⟩ := hown.form)
                | (go_at_call 135; refine (HTX.out _ _ _ _ _ hf3 hf1 hbz hL).mono ?_; rintro e w4 ⟨rfl, hb4⟩)
                | (refine step_append_ss rfl _ _ rfl _ (.slice A0 zs.length c0) zs rfl hown (some _) (ys.drop m) _ _ HMS.out rfl (.inl HNL.out) (fun h => by cases h) (HZB.out zs hbz) hb.size ?_; intro v' w' hown' hb'; have hbb := hb.trans hb'; generalize hL : zs ++ ys.drop m = L at hown'; obtain ⟨A', c', rfl, hf1, hf2, hf3, hf4⟩ := hown'.form))
            go_wp2
            go_ret2
            exact ⟨rfl, HAL.out.trans (((S1.nxt hb4 (S1.nxt hbb (S1.drew hin))).2.2.below).mono HAL.out.size)⟩
          · skip
            have HFlI := Lib.hid (fun (w' : World) (h : S1 w (.slice A n c) (.bool false) 24 w') => HFl.out w' (hW0 ▸ h.2.2.below))
            have HTX := Lib.hid (fun (w' : World) (A' : Option Addr) (zs L : List ByteArray) (c' : Nat) (hr' : RdS w' w'.heap.size A' L) (hc' : L.length ≤ c') (hbz : bs zs = fl) (hL : zs ++ ys.drop ys.length = L) => by
              have hbL : bs L = fl ++ (bs ys).drop ys.length := by rw [← hL, bs_append, hbz, bs_dropN]
              have hLl : L.length ≤ 13 := by rw [← bs_length, hbL, List.length_append, List.length_drop, bs_length]; omega
              have hj := lib_join_len 200000 (bs L) (by
                rw [hbL]
                intro x hx
                rcases List.mem_append.1 hx with h | h
                · exact HZ.out x h
                · obtain ⟨y, hy, rfl⟩ := List.mem_map.1 (List.mem_of_mem_drop h)
                  rw [← Lib.size_eq]
                  exact Nat.le_trans (HYS.out y hy) (by decide))
              rw [bs_length] at hj
              have := Nat.mul_le_mul_right 200001 hLl
              have ht := textOf_any A' L c' w' hr' hc' (by omega) (by omega)
              rw [hbL] at ht
              exact ht)
            have i1 : (0 : Int) ≤ (ys.length : Int) := Int.natCast_nonneg _
            have i5 : (ys.length : Int) ≤ (d : Int) := by omega
            have i3 : ¬ d = ys.length := hds
            have hwl0 := hds
            have hyd : (ys.drop ys.length).length = 0 := by rw [hnl]; rfl
            have HZB := Lib.hid (show ∀ zs : List ByteArray, bs zs = fl → zs.length + (ys.drop ys.length).length ≤ 1000000 from fun zs h => by rw [← bs_length zs, h, hyd]; omega)
            have HNL := Lib.hid hnl
            obtain ⟨m, hm1⟩ : ∃ m, m = ys.length := ⟨_, rfl⟩
            rw [← hm1] at HK HAC HFlI HTX HZB HNL i1 i3 i5 hyd hst12 ⊢
            have HMS := Lib.hid (show 0 = (ys.drop m).length from hyd.symm)
            have HM1 := Lib.hid hm1
            clear hm1 htl hsl hwl0 hnl hd hok
            subst hW0
            have HAL := Lib.hid halloc
            clear hp hr hp0 hr0 hm0 hfe hft hce h0 h1 hk halloc hsx hsy HFl
            go_enter Tryz.func105, Tryz.ntmps105
            go_wp2_with fail
            with_reducible refine HK.out.mono ?_
            rintro e w1 ⟨rfl, hb1⟩
            have HB1 := Lib.hid hb1
            clear hb1
            go_wp2_with fail
            with_reducible refine (HAC.out _ HB1.out).mono ?_
            rintro e w2 ⟨rfl, hb2⟩
            have hin : S1 w (.slice A n c) (.bool false) 24 w2 := In1.held ⟨HB1.out.trans (hb2.mono HB1.out.size)⟩
            clear hb2 HB1 HK HAC
            go_wp2_with fail
            set_option maxRecDepth 100000 in
            go_region_held3 (fun w' => w'.cell? ⟨w.heap.size, 0, none⟩ = some (.slice A n c) ∧ w'.cell? ⟨w.heap.size, 1, none⟩ = some (.bool false) ∧ In1 w (.slice A n c) (.bool false) 24 w')
              (first | exact S1.nxt hb4 (by assumption) | exact S1.nxt hbb (S1.drew hin) | exact S1.nxt hb (S1.drew hin) | exact S1.nxt hb (by assumption) | exact S1.drew (by assumption) | exact hin | go_keep)
              (first
                | (go_at_call 136; refine (HFlI.out _ (by assumption)).mono ?_; rintro e w' ⟨v, zs, rfl, hown, hbz, hb⟩; obtain ⟨A0, c0, rfl, hg1, hg2, hg3, hg4⟩ := hown.form)
                | (go_at_call 135; refine (HTX.out _ _ _ _ _ hf3 hf1 hbz hL).mono ?_; rintro e w4 ⟨rfl, hb4⟩)
                | (refine step_append_ss rfl _ _ rfl _ (.slice A0 zs.length c0) zs rfl hown (some _) (ys.drop m) _ _ HMS.out rfl (.inl HNL.out) (fun h => by cases h) (HZB.out zs hbz) hb.size ?_; intro v' w' hown' hb'; have hbb := hb.trans hb'; generalize hL : zs ++ ys.drop m = L at hown'; obtain ⟨A', c', rfl, hf1, hf2, hf3, hf4⟩ := hown'.form))
            go_wp2
            go_ret2
            exact ⟨rfl, HAL.out.trans (((S1.nxt hb4 (S1.nxt hbb (S1.drew hin))).2.2.below).mono HAL.out.size)⟩
  · have u1 : ((Pt.check p : Int) == 0) = false := by rw [beq_eq_false_iff_ne]; omega
    have u2 : ((Pt.check p : Int) != 0) = true := by rw [bne, u1]; rfl
    have hfe := Pt.fill_err p (bs ys)
    rw [if_neg hk] at hfe
    have hfv : Pt.filled p (bs ys) = [] := by unfold Pt.filled; rw [hfe, if_neg hk]
    have h0 : kindsN p = 0 := if_neg hk
    have h1 : kindsR p = false := if_neg hk
    rw [h0, h1] at HK
    rw [hfe, hfv]
    generalize Pt.check p = k at *
    generalize xs.length = n at *
    generalize ys.length = m at *
    subst hW0
    have HAL := Lib.hid halloc
    clear hp hr hp0 hr0 hm0 hfe hfv h0 h1 hk halloc hsx hsy
    go_enter Tryz.func105, Tryz.ntmps105
    go_wp2_with fail
    with_reducible refine HK.out.mono ?_
    rintro e w1 ⟨rfl, hb1⟩
    have HB1 := Lib.hid hb1
    clear hb1
    go_wp2
    go_ret2
    exact ⟨rfl, HAL.out.trans (HB1.out.mono HAL.out.size)⟩
end Go.Proofs.YtembmegllpkmfaaGreatDoor

namespace Go.Proofs.YtembmegllpkmfaaGreatDoor
open Go.RowKit

def GivesPN (w : World) (o : Option (List (List UInt8))) (e : Ending) (w' : World) : Prop :=
  match o with
  | none => e = .returned (.tuple #[.slice none 0 0, .bool false]) ∧ Below w.heap.size w w'
  | some l => ∃ A xs c, e = .returned (.tuple #[.slice A (List.length xs) c, .bool true]) ∧ bs xs = l ∧ xs.length ≤ c ∧ c ≤ maxLen ∧ (A = none → c = 0) ∧ RdS w' w'.heap.size A xs ∧ Below w.heap.size w w'
theorem caps_sizes : ∀ {ps cs r : List (List UInt8)}, Pt.capsOf ps cs = some r → ∀ x ∈ r, ∃ c ∈ cs, x.length ≤ c.length
  | [], _, r, h, x, hx => by
    simp only [Pt.capsOf, Option.some.injEq] at h
    subst h
    cases hx
  | _ :: _, [], r, h, x, hx => by cases h
  | p :: ps, c :: cs, r, h, x, hx => by
    rw [Pt.capsOf_cons] at h
    cases hc : Pt.capture p c with
    | none => rw [hc] at h; cases h
    | some y =>
      rw [hc] at h
      simp only [Option.map_eq_some_iff] at h
      obtain ⟨r', hr', rfl⟩ := h
      have hy : y.length ≤ c.length := by
        unfold Pt.capture at hc
        split at hc
        · split at hc
          · injection hc with hc; subst hc; simp
          · cases hc
        · split at hc
          · injection hc with hc; subst hc; simp
          · cases hc
      have hm : x = y ∨ x ∈ r' := by
        split at hx
        · exact List.mem_cons.1 hx
        · exact .inr hx
      rcases hm with rfl | h2
      · exact ⟨c, by simp, hy⟩
      · obtain ⟨c', hc', hl⟩ := caps_sizes hr' x h2
        exact ⟨c', List.mem_cons_of_mem _ hc', hl⟩
theorem match_sizes {p : Pt.Pat} {path : List UInt8} {r : List (List UInt8)} (h : Pt.matchP p path = some r) : ∀ x ∈ r, x.length ≤ path.length := by
  obtain ⟨_, l, cs, hl, _, hcs, hr⟩ := Pt.matchP_some.1 h
  obtain ⟨hp, h2, hc⟩ := Pt.pathO_some.1 hl
  have hj : (Lib.join l [47]).length ≤ path.length := by
    rw [hp]
    unfold Pm.join
    simp only [List.length_cons]
    omega
  have hseg : Pm.segs (Lib.join l [47]) = l := Pm.segs_join l (by rintro rfl; simp at h2) fun x hx => Pm.comp_slash (hc x hx)
  have he : ∀ c ∈ l, c.length ≤ path.length := fun c hcl => by
    rw [← hseg] at hcl
    exact Nat.le_trans (segs_elem_le _ c hcl) hj
  intro x hx
  have hx2 : x ∈ cs ∨ x = Lib.join (l.drop p.parts.length) [47] := by
    rw [hr] at hx
    split at hx
    · rcases List.mem_append.1 hx with h | h
      · exact .inl h
      · exact .inr (List.mem_singleton.1 h)
    · exact .inl hx
  rcases hx2 with h | rfl
  · obtain ⟨c, hc1, hc2⟩ := caps_sizes hcs x h
    exact Nat.le_trans hc2 (he c hc1)
  · exact Nat.le_trans (join_drop_le _ _) hj
theorem filled_len {p : Pt.Pat} {caps : List (List UInt8)} (h : Pt.fillErr p caps = 0) (hp : ∀ x ∈ p.parts, x.length ≤ 100000) (hc : ∀ x ∈ caps, x.length ≤ 100000) (hl : caps.length ≤ 20) : (Pt.filled p caps).length ≤ 8000000 := by
  obtain ⟨hck, _, _⟩ := Pt.fillErr_zero.1 h
  have hok : Pt.capsOk p caps = true := by
    have h2 := Pt.fill_err p caps
    rw [if_pos hck, h] at h2
    cases hk : Pt.capsOk p caps with
    | true => rfl
    | false => rw [hk] at h2; simp at h2
  rw [Pt.fill_text hck hok]
  have h1 := lib_join_len 200000 (Pt.fillsOf p.parts caps ++ caps.drop (Pt.stars p.parts)) (by
    intro x hx
    rcases List.mem_append.1 hx with h | h
    · exact fills_sizes hp hc x h
    · exact Nat.le_trans (hc x (List.mem_of_mem_drop h)) (by decide))
  have h2 : (Pt.fillsOf p.parts caps ++ caps.drop (Pt.stars p.parts)).length ≤ 32 := by
    rw [List.length_append, Pt.fillsOf_len, List.length_drop]
    have := (Pt.check_ok.1 hck).2
    omega
  have h3 := Nat.mul_le_mul_right 200001 h2
  unfold Pm.join
  simp only [List.length_cons]
  omega

set_option maxHeartbeats 4000000 in
theorem match_any2 (A : Option Addr) (xs : List ByteArray) (c : Nat) (b : Bool) (p : Pt.Pat) (s : ByteArray) (w : World) (hp : PatR w A xs c b p) (hs : s.size < 4294967281) (hm : MaxL w) :
    Calls Tryz.prog 104 #[patV A xs.length c b, .string s] w (GivesPN w (Pt.matchP p s.data.toList)) := by
  obtain ⟨W0, hW0⟩ : ∃ W0, W0 = w.alloc (.cells #[.slice A xs.length c, .bool b] 24) := ⟨_, rfl⟩
  have halloc : Below w.heap.size w W0 := by rw [hW0]; exact (Below.refl _ _).alloc (Nat.le_refl _) _
  have hp0 := hp.keep halloc
  have hm0 := hm.keep halloc hm.size
  have HP := Lib.hid (split_path_any s W0 hs hm0)
  cases ho : Pt.pathO s.data.toList with
  | none =>
    have hon : Pt.matchP p s.data.toList = none := by unfold Pt.matchP; rw [ho]; simp
    rw [hon]
    rw [pathO_eq, ho] at HP
    generalize xs.length = n at *
    subst hW0
    have HAL := Lib.hid halloc
    clear ho hon hp hp0 halloc hs hm0
    go_enter Tryz.func104, Tryz.ntmps104
    go_wp2_with fail
    with_reducible refine HP.out.mono ?_
    rintro e w1 ⟨rfl, hb⟩
    have HB := Lib.hid hb
    clear hb
    go_wp2
    go_ret2
    exact ⟨rfl, HAL.out.trans (HB.out.mono (by simp))⟩
  | some l =>
    rw [pathO_eq, ho] at HP
    have HCk := Lib.hid (fun (w' : World) (hb : Below W0.heap.size W0 w') => check_any A xs c b p w' (hp0.keep hb))
    by_cases hk : Pt.check p = 0
    · have hn12 : xs.length ≤ 12 := by rw [← hp.len]; exact (Pt.check_ok.1 hk).2
      have hmn := Pt.match_narr hk ho
      have hlj : l = Pm.segs (Lib.join l [47]) := (Pm.segs_join l (by rintro rfl; simp [Pt.pathO_some] at ho) fun x hx => Pm.comp_slash ((Pt.pathO_some.1 ho).2.2 x hx)).symm
      have hjs : (Lib.join l [47]).length ≤ s.size := by
        have h3 := congrArg List.length (Pt.pathO_some.1 ho).1
        rw [← Lib.size_eq] at h3
        unfold Pm.join at h3
        simp only [List.length_cons] at h3
        omega
      have HEL := Lib.hid (show ∀ x ∈ l, x.length ≤ maxLen from fun x hx => by
        rw [hlj] at hx
        have h4 := segs_elem_le _ x hx
        unfold maxLen
        omega)
      have hml9 : l.length ≤ 4294967300 := by
        have h2 := segs_le (Lib.join l [47])
        rw [← hlj] at h2
        omega
      have HJD := Lib.hid (fun k => Nat.le_trans (join_drop_le k l) hjs)
      have hsz9 : s.size ≤ 4294967281 := by omega
      have HNr := Lib.hid (fun (w' : World) (hb : Below W0.heap.size W0 w') (B : Option Addr) (ys : List ByteArray) (d : Nat) (hr : RdS w' w'.heap.size B ys) (hd : ys.length ≤ d) (hdm : d ≤ maxLen) (hby : bs ys = l) =>
        narrowings_any A xs c b p B ys d false w' (hp0.keep hb) hr hd hdm (fun y hy => by rw [Lib.size_eq]; exact HEL.out _ (by rw [← hby]; exact List.mem_map_of_mem hy)) (by omega))
      rw [hk] at HCk
      have hns : ∀ r, Pt.narr p ⟨l, false⟩ = some r → if b then xs.length < l.length else l.length = xs.length := fun r h => by
        have h2 := narr_some h
        rw [← hp.rest, hp.len] at h2
        exact h2
      rw [hmn, ← hp.rest, hp.len]
      have HNE := Lib.hid (show ∀ ys : List ByteArray, bs ys = l → Pt.narr p ⟨bs ys, false⟩ = Pt.narr p ⟨l, false⟩ from fun ys h => by rw [h])
      have hpl12 : p.parts.length ≤ 12 := (Pt.check_ok.1 hk).2
      have HPL := Lib.hid hpl12
      clear hpl12
      generalize hnr : Pt.narr p ⟨l, false⟩ = o at *
      have HNRO := Lib.hid hnr
      obtain ⟨n, hn⟩ : ∃ n, n = xs.length := ⟨_, rfl⟩
      rw [← hn] at hW0 HCk HNr hns hn12 ⊢
      subst hW0
      have HAL := Lib.hid halloc
      have HNS := Lib.hid hns
      clear hmn ho hp hp0 halloc hs hm0 hlj hjs hk hnr hn hns
      cases o with
      | none =>
        go_enter Tryz.func104, Tryz.ntmps104
        go_wp2_with fail
        with_reducible refine HP.out.mono ?_
        rintro e w1 ⟨v, rfl, B, ys, d, rfl, hby, hd, hdm, hr, hb⟩
        obtain ⟨c0, c1⟩ := box_cells hb
        have hz : w.heap.size < w1.heap.size := by have := hb.size; simp at this; omega
        have HB := Lib.hid hb
        have HBY := Lib.hid hby
        have HR := Lib.hid hr
        have HD := Lib.hid (And.intro hd hdm)
        clear hb hby hr hd hdm
        go_wp2_with fail
        with_reducible refine (HCk.out _ HB.out).mono ?_
        rintro e w2 ⟨rfl, hb2⟩
        have HB2 := Lib.hid (show Below (w.alloc (.cells #[.slice A n c, .bool b] 24)).heap.size _ w2 from HB.out.trans (hb2.mono HB.out.size))
        have HR2 := Lib.hid ((HR.out.keep hb2).more hb2.size)
        obtain ⟨c2, c3⟩ := box_cells HB2.out
        have hz2 := hb2.size
        clear hb2 c0 c1
        have HN2 := Lib.hid (HNr.out w2 HB2.out B ys d HR2.out HD.out.1 HD.out.2 HBY.out)
        rw [HNE.out ys HBY.out] at HN2
        generalize ys.length = m at *
        go_wp2_with fail
        with_reducible refine HN2.out.mono ?_
        rintro e w3 ⟨rfl, hb3⟩
        have HB3 := Lib.hid hb3
        clear hb3
        go_wp2
        all_goals
          go_ret2
          exact ⟨rfl, (HAL.out.trans (HB2.out.mono (by simp))).trans (HB3.out.mono (by omega))⟩
      | some r =>
        cases b with
        | false =>
          go_enter Tryz.func104, Tryz.ntmps104
          go_wp2_with fail
          with_reducible refine HP.out.mono ?_
          rintro e w1 ⟨v, rfl, B, ys, d, rfl, hby, hd, hdm, hr, hb⟩
          obtain ⟨c0, c1⟩ := box_cells hb
          have hz : w.heap.size < w1.heap.size := by have := hb.size; simp at this; omega
          have HB := Lib.hid hb
          have HBY := Lib.hid hby
          have HR := Lib.hid hr
          have HD := Lib.hid (And.intro hd hdm)
          clear hb hby hr hd hdm
          go_wp2_with fail
          with_reducible refine (HCk.out _ HB.out).mono ?_
          rintro e w2 ⟨rfl, hb2⟩
          have HB2 := Lib.hid (show Below (w.alloc (.cells #[.slice A n c, .bool false] 24)).heap.size _ w2 from HB.out.trans (hb2.mono HB.out.size))
          have HR2 := Lib.hid ((HR.out.keep hb2).more hb2.size)
          obtain ⟨c2, c3⟩ := box_cells HB2.out
          have hz2 := hb2.size
          clear hb2 c0 c1
          have HN2 := Lib.hid (HNr.out w2 HB2.out B ys d HR2.out HD.out.1 HD.out.2 HBY.out)
          rw [HNE.out ys HBY.out] at HN2
          generalize ys.length = m at *
          go_wp2_with fail
          with_reducible refine HN2.out.mono ?_
          rintro e w3 ⟨v, zs, rfl, hown, hbz, hb3⟩
          have hb4 := HB2.out.trans (hb3.mono HB2.out.size)
          obtain ⟨c4, c5⟩ := box_cells hb4
          have HB3 := Lib.hid hb4
          obtain ⟨A', c', rfl, hc', hcm', hr', hn'⟩ := hown.form
          have HF := Lib.hid (And.intro hc' (And.intro hcm' (And.intro hr' hbz)))
          have HN' := Lib.hid hn'
          clear hb3 hb4 hown hbz hc' hcm' hr' c2 c3 hn'
          go_wp2
          go_ret2
          exact ⟨A', zs, c', rfl, HF.out.2.2.2, HF.out.1, HF.out.2.1, HN'.out, HF.out.2.2.1, HAL.out.trans (HB3.out.mono (by simp))⟩
        | true =>
          go_enter Tryz.func104, Tryz.ntmps104
          go_wp2_with fail
          with_reducible refine HP.out.mono ?_
          rintro e w1 ⟨v, rfl, B, ys, d, rfl, hby, hd, hdm, hr, hb⟩
          obtain ⟨c0, c1⟩ := box_cells hb
          have hz : w.heap.size < w1.heap.size := by have := hb.size; simp at this; omega
          have HB := Lib.hid hb
          have HBY := Lib.hid hby
          have HR := Lib.hid hr
          have HD := Lib.hid (And.intro hd hdm)
          have hlen : n < ys.length := by rw [← bs_length, hby]; simpa using HNS.out r rfl
          have hm9 : ys.length ≤ 4294967300 := by rw [← bs_length, hby]; exact hml9
          obtain ⟨m, hmy⟩ : ∃ m, m = ys.length := ⟨_, rfl⟩
          rw [← hmy] at hlen hm9 hd ⊢
          have HMY := Lib.hid hmy
          clear hb hby hr hdm hmy
          go_wp2_with fail
          with_reducible refine (HCk.out _ HB.out).mono ?_
          rintro e w2 ⟨rfl, hb2⟩
          have HB2 := Lib.hid (show Below (w.alloc (.cells #[.slice A n c, .bool true] 24)).heap.size _ w2 from HB.out.trans (hb2.mono HB.out.size))
          have HR2 := Lib.hid ((HR.out.keep hb2).more hb2.size)
          obtain ⟨c2, c3⟩ := box_cells HB2.out
          have hz2 := hb2.size
          clear hb2 c0 c1
          have HN2 := Lib.hid (HNr.out w2 HB2.out B ys d HR2.out HD.out.1 HD.out.2 HBY.out)
          rw [HNE.out ys HBY.out, ← HMY.out] at HN2
          go_wp2_with fail
          with_reducible refine HN2.out.mono ?_
          rintro e w3 ⟨v, zs, rfl, hown, hbz, hb3⟩
          have hb4 := HB2.out.trans (hb3.mono HB2.out.size)
          obtain ⟨c4, c5⟩ := box_cells hb4
          have HB3 := Lib.hid hb4
          have HR3 := Lib.hid ((HR2.out.keep hb3).more hb3.size)
          have HOWN := Lib.hid hown
          have HBZ := Lib.hid hbz
          have hz3 := hb3.size
          clear hb3 hb4 hown hbz c2 c3
          obtain ⟨g', og', rfl, hg', _⟩ := HR3.out.cells (by rw [← HMY.out]; omega)
          have hyd : (ys.drop n).length = m - n := by rw [List.length_drop, ← HMY.out]
          have hrd : RdS w3 w3.heap.size (some ⟨g', og' + n, none⟩) (ys.drop n) := HR3.out.drop n
          have HJ := Lib.hid (sjoin_any (some ⟨g', og' + n, none⟩) (ys.drop n) (d - n) ⟨#[47]⟩ w3 hrd (by rw [hyd]; omega) rfl (by rw [bs_dropN, HBY.out]; have := HJD.out n; omega) (by rw [hyd]; omega))
          rw [hyd, bs_dropN, HBY.out] at HJ
          have i1 : (n : Int) ≤ (m : Int) := by omega
          have i2 : (m : Int) ≤ (d : Int) := by omega
          have i3 : ¬ d = n := by omega
          have i4 : (d : Int) ≤ 9223372036854775807 := by have := HD.out.2; unfold maxLen at this; omega
          have hzl : zs.length ≤ 12 := by
            have := narr_len HNRO.out
            rw [← HBZ.out, bs_length] at this
            exact Nat.le_trans this HPL.out
          clear hyd hrd
          go_wp2_with fail
          with_reducible refine HJ.out.mono ?_
          rintro e w4 ⟨rfl, hb4⟩
          have hz4 := hb4.size
          have HB4 := Lib.hid hb4
          clear hb4
          go_wp2_with (refine wpList_append_ss rfl _ _ rfl w2.heap.size _ zs rfl ((HOWN.out.below HB4.out).below ((Below.refl _ _).alloc (Nat.le_refl _) _)) (some ⟨w4.heap.size, 0, none⟩) [⟨(Lib.join (l.drop n) [47]).toArray⟩] 1 rfl (new_one w4 _ _) (fun h => by cases h) (by simp; omega) (by simp; omega) ?_; intro v' w' hown' hb')
          obtain ⟨A', c', rfl, hc', hcm', hr', hn'⟩ := hown'.form
          have HF := Lib.hid (And.intro hc' (And.intro hcm' hr'))
          have HN' := Lib.hid hn'
          clear hn'
          have HB5 := Lib.hid (show Below w2.heap.size w4 w' from ((Below.refl _ _).alloc (by omega) _).trans hb')
          clear hc' hr' hcm' hown' hb'
          go_wp2
          go_ret2
          refine ⟨A', zs ++ [⟨(Lib.join (l.drop n) [47]).toArray⟩], c', rfl, ?_, HF.out.1, HF.out.2.1, HN'.out, HF.out.2.2, ((HAL.out.trans (HB3.out.mono (by simp))).trans (HB4.out.mono (by omega))).trans (HB5.out.mono (by omega))⟩
          rw [bs_append, HBZ.out]
          rfl
    · have hon : Pt.matchP p s.data.toList = none := by unfold Pt.matchP; rw [if_neg hk]
      rw [hon]
      have u1 : ((Pt.check p : Int) == 0) = false := by rw [beq_eq_false_iff_ne]; omega
      have u2 : ((Pt.check p : Int) != 0) = true := by rw [bne, u1]; rfl
      generalize Pt.check p = k1 at *
      generalize xs.length = n at *
      subst hW0
      have HAL := Lib.hid halloc
      clear ho hon hp hp0 halloc hs hm0 hk
      go_enter Tryz.func104, Tryz.ntmps104
      go_wp2_with fail
      with_reducible refine HP.out.mono ?_
      rintro e w1 ⟨v, rfl, B, ys, d, rfl, hby, hd, hdm, hr, hb⟩
      obtain ⟨c0, c1⟩ := box_cells hb
      have hz : w.heap.size < w1.heap.size := by have := hb.size; simp at this; omega
      have HB := Lib.hid hb
      clear hb hby hr hd hdm
      generalize ys.length = m at *
      go_wp2_with fail
      with_reducible refine (HCk.out _ HB.out).mono ?_
      rintro e w2 ⟨rfl, hb2⟩
      have HB2 := Lib.hid hb2
      clear hb2
      go_wp2
      go_ret2
      exact ⟨rfl, (HAL.out.trans (HB.out.mono (by simp))).trans (HB2.out.mono (by omega))⟩
end Go.Proofs.YtembmegllpkmfaaGreatDoor
