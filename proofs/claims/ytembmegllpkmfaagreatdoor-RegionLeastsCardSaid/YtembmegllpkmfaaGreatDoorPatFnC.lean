/- The contract of the reference's Fill. The contract of the law file's copied. The contract of the reference's Meet. -/
import Derived.Test.YtembmegllpkmfaaGreatDoorPatFnB
import Derived.Test.YtembmegllpkmfaaGreatDoorPathOwnAll
import Derived.Deep.RegionHeld3
import Derived.Deep.DeepCutAuto
import Derived.Deep.RegionLaw
namespace Go.Proofs.YtembmegllpkmfaaGreatDoor
open Go.RowKit

theorem lib_join_len (b : Nat) : ∀ (l : List (List UInt8)), (∀ x ∈ l, x.length ≤ b) → (Lib.join l [47]).length ≤ l.length * (b + 1)
  | [], _ => by simp [Lib.join_nil]
  | [x], h => by
    have := h x (by simp)
    rw [Lib.join_one]
    simp
    omega
  | x :: y :: r, h => by
    have h1 := h x (by simp)
    have h2 := lib_join_len b (y :: r) fun z hz => h z (by simp [hz])
    rw [Pm.lib_join_cons]
    simp only [List.length_cons, List.length_append, Nat.succ_mul] at h2 ⊢
    omega
/-- What Fill hands back. -/
def fillBoth (p : Pt.Pat) (caps : List (List UInt8)) : List UInt8 × Nat :=
  if Pt.check p = 0 then (if caps.length = Pt.wilds p then (match Pt.fillComps p caps with | none => ([], 32) | some l => (Pm.join l, 0)) else ([], 32)) else ([], Pt.check p)
theorem fill_both (p : Pt.Pat) (caps : List (List UInt8)) : fillBoth p caps = (Pt.filled p caps, Pt.fillErr p caps) := by
  unfold fillBoth Pt.filled Pt.fillErr
  by_cases h0 : Pt.check p = 0
  · rw [if_pos h0, if_pos h0]
    by_cases h1 : caps.length = Pt.wilds p
    · rw [if_pos h1, if_pos h1]
      cases Pt.fillComps p caps with
      | none => simp
      | some l => simp
    · rw [if_neg h1, if_neg h1]; simp
  · rw [if_neg h0, if_neg h0, if_neg h0]
theorem fill_step {ps cs : List (List UInt8)} {k : Nat} (h : k < ps.length) : Pt.fillOf (ps.drop k) cs = match Pt.star ps[k] with
    | none => (Pt.fillOf (ps.drop (k + 1)) cs).map fun r => ps[k] :: r
    | some s => match cs with
      | [] => none
      | y :: cs => if Pm.comp y then (Pt.fillOf (ps.drop (k + 1)) cs).map fun r => (y ++ s) :: r else none := by
  rw [List.drop_eq_getElem_cons h, Pt.fillOf]
  cases Pt.star ps[k] <;> rfl
theorem stars_drop {ps : List (List UInt8)} {k : Nat} (h : k < ps.length) : Pt.stars (ps.drop k) = Pt.stars (ps.drop (k + 1)) + if (Pt.star ps[k]).isSome then 1 else 0 := by
  rw [List.drop_eq_getElem_cons h, Pt.stars_cons]
  rfl

theorem star_len {l u : List UInt8} (h : Pt.star l = some u) : u.length ≤ l.length := by
  rw [(Pt.star_some.1 h).1]
  simp

set_option maxHeartbeats 8000000 in
theorem rfill_any (A B : Option Addr) (xs ys : List ByteArray) (c d : Nat) (b : Bool) (p : Pt.Pat) (w : World) (hp : PatR w A xs c b p) (hsx : ∀ x ∈ xs, x.size ≤ 100000) (hr : RdS w w.heap.size B ys) (hd : ys.length ≤ d) (hdm : d ≤ maxLen) (hsy : ∀ y ∈ ys, y.size ≤ 100000) (hm : MaxL w) :
    Calls Tryz.prog 103 #[patV A xs.length c b, .slice B ys.length d] w (GivesS2 w (Pt.filled p (bs ys)) (Pt.fillErr p (bs ys))) := by
  have hfb := fill_both p (bs ys)
  generalize Pt.filled p (bs ys) = fv at hfb
  generalize Pt.fillErr p (bs ys) = fe at hfb
  unfold fillBoth at hfb
  rw [bs_length] at hfb
  obtain ⟨W0, hW0⟩ : ∃ W0, W0 = w.alloc (.cells #[.slice A xs.length c, .bool b] 24) := ⟨_, rfl⟩
  have halloc : Below w.heap.size w W0 := by rw [hW0]; exact (Below.refl _ _).alloc (Nat.le_refl _) _
  have hp0 := hp.keep halloc
  have HCk := Lib.hid (rcheck_any A xs c b p W0 hp0)
  have HWi := Lib.hid (fun (w' : World) (hb : Below W0.heap.size W0 w') (hN : xs.length ≤ 1000000) => rwild_any A xs c b p w' (hp0.keep hb) hN)
  by_cases hck : Pt.check p = 0
  · rw [if_pos hck] at hfb
    rw [hck] at HCk
    have hn12 : xs.length ≤ 12 := by rw [← hp.len]; exact (Pt.check_ok.1 hck).2
    have hw13 : Pt.wilds p ≤ 13 := by
      unfold Pt.wilds
      have := stars_le p.parts
      rw [hp.len] at this
      split <;> omega
    have hy9 : (ys.length : Int) ≤ 9223372036854775807 := by unfold maxLen at hdm; omega
    by_cases hwl : ys.length = Pt.wilds p
    · rw [if_pos hwl] at hfb
      have hfc : Pt.fillComps p (bs ys) = match Pt.fillOf p.parts (bs ys) with
        | none => none
        | some l => if p.rest then (if (Pm.segs ((bs ys).getD (Pt.stars p.parts) [])).all Pm.comp then some (l ++ Pm.segs ((bs ys).getD (Pt.stars p.parts) [])) else none) else some l := rfl
      rw [← hp.rest] at hfc
      have hws : Pt.wilds p = Pt.stars p.parts + if b then 1 else 0 := by unfold Pt.wilds; rw [hp.rest]
      have HF := Lib.hid hfb
      have HFC := Lib.hid hfc
      have HWS := Lib.hid (hwl.trans hws)
      have HPP := Lib.hid hp.parts
      have HRD := Lib.hid hp.rd
      have HRY := Lib.hid hr
      have HSX := Lib.hid hsx
      have HSY := Lib.hid hsy
      have HM0 := Lib.hid hm
      have hle := hp.le
      have hcm := hp.cm
      unfold maxLen at hcm hdm
      have HWi2 := Lib.hid (fun (w' : World) (hb : Below W0.heap.size W0 w') => HWi.out w' hb (by omega))
      rw [← hwl] at HWi2
      obtain ⟨n, hn⟩ : ∃ n, n = xs.length := ⟨_, rfl⟩
      obtain ⟨m, hmm⟩ : ∃ m, m = ys.length := ⟨_, rfl⟩
      rw [← hn] at HCk HWi2 hn12 hle hW0 ⊢
      rw [← hmm] at HWi2 HWS hy9 hd ⊢
      have HN := Lib.hid hn
      have HMM := Lib.hid hmm
      have hm13 : m ≤ 13 := by rw [hmm]; omega
      subst hW0
      have HAL := Lib.hid halloc
      clear hfb hfc hws hp hp0 halloc hck hw13 hwl HWi hsx hsy hr hm hn hmm
      go_enter Tryz.func103, Tryz.ntmps103
      go_wp2_with fail
      with_reducible refine HCk.out.mono ?_
      rintro e w1 ⟨rfl, hb1⟩
      obtain ⟨c0, c1⟩ := box_cells hb1
      have hz1 := hb1.size
      simp at hz1
      have HB1 := Lib.hid hb1
      clear hb1
      go_wp2_with fail
      with_reducible refine (HWi2.out _ HB1.out).mono ?_
      rintro e w2 ⟨rfl, hb2⟩
      have d0 := (hb2.cell (p := ⟨w.heap.size, 0, none⟩) (by simp; omega)).trans c0
      have d1 := (hb2.cell (p := ⟨w.heap.size, 1, none⟩) (by simp; omega)).trans c1
      have hz2 := hb2.size
      have HB2 := Lib.hid hb2
      have HBW := Lib.hid (show Below w.heap.size w w2 from (HAL.out.trans (HB1.out.mono (by simp))).trans (hb2.mono (by omega)))
      clear hb2 c0 c1
      go_wp2
      go_loopw [7, 8, 28] (fun lv jv iv wr => ∃ (k j : Nat) (ls : List ByteArray), k ≤ n ∧ iv = .int .i64 k ∧ jv = .int .i64 j ∧ OwnS wr w2.heap.size lv ls ∧ ls.length = k ∧ Below w2.heap.size w2 wr ∧ Pt.stars p.parts = j + Pt.stars (p.parts.drop k) ∧ (∀ y ∈ ls, y.size ≤ 200000) ∧ Pt.fillOf p.parts (bs ys) = (Pt.fillOf (p.parts.drop k) ((bs ys).drop j)).map (fun r => bs ls ++ r)) (fun _ _ i _ => n - (intOf i).toNat)
      case atStart => exact ⟨0, 0, [], by omega, rfl, rfl, OwnS.empty _ _, rfl, Below.refl _ _, by simp, by simp, by simp [bs]⟩
      case round =>
        obtain ⟨k, j, ls, hkn, rfl, rfl, hown, hlk, hbr, hst, hlb, hfo⟩ := hrel
        obtain ⟨cr, fr⟩ := bcell hbr
        have hzr := hbr.size
        have HOWN := Lib.hid hown
        have HBR := Lib.hid hbr
        have HFO := Lib.hid hfo
        have HST := Lib.hid hst
        have HLB := Lib.hid hlb
        have HLK := Lib.hid hlk
        have HBA := Lib.hid (show Below w.heap.size w wr from HBW.out.trans (hbr.mono (by omega)))
        have HB1 := Lib.hid (show Below w1.heap.size w1 wr from HB2.out.trans (hbr.mono hz2))
        have e3 := (HBR.out.cell (p := ⟨w.heap.size, 1, none⟩) (by simp; omega)).trans d1
        clear hown hbr hfo hst hlb hlk
        by_cases hlt : k < n
        · have hlx : k < xs.length := by rw [← HN.out]; exact hlt
          obtain ⟨g, og, rfl, hg, hcell⟩ := HRD.out.cells (by omega)
          have e1 := (HBA.out.cell (p := ⟨g, og + k, none⟩) hg).trans (hcell k hlx)
          have hlp : k < p.parts.length := by rw [← HPP.out, bs_length]; exact hlx
          have ep : p.parts[k]'hlp = xs[k].data.toList := by
            rw [← bs_get xs k hlx]
            simp only [HPP.out]
          have hfs := fill_step (cs := (bs ys).drop j) hlp
          have hsd := stars_drop hlp
          rw [ep] at hfs hsd
          have HFS := Lib.hid hfs
          have HSD := Lib.hid hsd
          have hsx := HSX.out _ (List.getElem_mem hlx)
          clear hcell ep hfs hsd
          generalize xs[k] = x at *
          have HSt := Lib.hid (fun w : World => rstar_any x w (by unfold maxLen; omega))
          cases hsx2 : Pt.star x.data.toList with
          | none =>
            rw [hsx2] at HSt HFS HSD
            go_wp2_with fail
            with_reducible refine (HSt.out _).mono ?_
            rintro e w' ⟨rfl, rfl⟩
            go_wp2_with (refine wpList_append_ss rfl _ _ rfl w2.heap.size _ ls rfl (HOWN.out.below ((Below.refl _ _).alloc (Nat.le_refl _) _)) (some ⟨wr.heap.size, 0, none⟩) [x] 1 rfl (new_one wr x _) (fun h => by cases h) (by simp [HLK.out]; omega) (by simp; omega) ?_; intro v' w' hown' hb')
            have HO2 := Lib.hid hown'
            have HB3 := Lib.hid (show Below w2.heap.size wr w' from ((Below.refl _ _).alloc hzr _).trans hb')
            clear hown' hb'
            go_wp2
            go_roundw
            case rel =>
              refine ⟨k + 1, j, ls ++ [x], by omega, by go_num, rfl, HO2.out, by simp [HLK.out], HBR.out.trans HB3.out, ?_, ?_, ?_⟩
              · rw [HST.out, HSD.out]; simp
              · intro y hy
                rcases List.mem_append.1 hy with h | h
                · exact HLB.out y h
                · rw [List.mem_singleton.1 h]; omega
              · rw [HFO.out, HFS.out, bs_append]
                simp [bs, Function.comp_def]
            case measure => simp [intOf]; omega
          | some u =>
            rw [hsx2] at HSt HFS HSD
            have hul : u.length ≤ 100000 := by
              have := star_len hsx2
              rw [← Lib.size_eq] at this
              omega
            have hjm : j < m := by
              have h1 := HST.out
              have h2 := HSD.out
              have h3 := HWS.out
              simp at h2
              omega
            have hly : j < ys.length := by rw [← HMM.out]; exact hjm
            obtain ⟨g', og', rfl, hg', hcell'⟩ := HRY.out.cells (by omega)
            have e2 := (HBA.out.cell (p := ⟨g', og' + j, none⟩) hg').trans (hcell' j hly)
            have hyd : (bs ys).drop j = ys[j].data.toList :: (bs ys).drop (j + 1) := by
              rw [List.drop_eq_getElem_cons (by rw [bs_length]; exact hly), bs_get ys j hly]
            have hfs2 : Pt.fillOf (p.parts.drop k) ((bs ys).drop j) = if Pm.comp ys[j].data.toList = true then (Pt.fillOf (p.parts.drop (k + 1)) ((bs ys).drop (j + 1))).map (fun r => (ys[j].data.toList ++ u) :: r) else none := by
              rw [HFS.out, hyd]
            have hsy := HSY.out _ (List.getElem_mem hly)
            clear hcell' hyd HFS
            have HFS := Lib.hid hfs2
            clear hfs2
            generalize ys[j] = y at *
            have HCo := Lib.hid (fun w : World => rcomp_any y w (by unfold maxLen; omega))
            have HUL := Lib.hid hul
            cases hcy : Pm.comp y.data.toList with
            | false =>
              rw [hcy] at HCo HFS
              have hno : Pt.fillOf p.parts (bs ys) = none := by rw [HFO.out, HFS.out]; rfl
              have hff := HF.out
              rw [HFC.out, hno] at hff
              injection hff with h1 h2
              subst h1 h2
              clear hno hul
              go_wp2_with fail
              with_reducible refine (HSt.out _).mono ?_
              rintro e w' ⟨rfl, rfl⟩
              go_wp2_with fail
              with_reducible refine (HCo.out _).mono ?_
              rintro e w' ⟨rfl, rfl⟩
              go_wp2
              go_ret2
              exact ⟨rfl, HBA.out⟩
            | true =>
              rw [hcy] at HCo HFS
              have hsumu : (⟨u.toArray⟩ : ByteArray).size = u.length := by simp [ByteArray.size]
              go_wp2_with fail
              with_reducible refine (HSt.out _).mono ?_
              rintro e w' ⟨rfl, rfl⟩
              go_wp2_with fail
              with_reducible refine (HCo.out _).mono ?_
              rintro e w' ⟨rfl, rfl⟩
              go_wp2_with (refine wpList_append_ss rfl _ _ rfl w2.heap.size _ ls rfl (HOWN.out.below ((Below.refl _ _).alloc (Nat.le_refl _) _)) (some ⟨wr.heap.size, 0, none⟩) [y ++ ⟨u.toArray⟩] 1 rfl (new_one wr _ _) (fun h => by cases h) (by simp [HLK.out]; omega) (by simp; omega) ?_; intro v' w' hown' hb')
              have HO2 := Lib.hid hown'
              have HB3 := Lib.hid (show Below w2.heap.size wr w' from ((Below.refl _ _).alloc hzr _).trans hb')
              clear hown' hb'
              go_wp2
              go_roundw
              case rel =>
                refine ⟨k + 1, j + 1, ls ++ [y ++ ⟨u.toArray⟩], by omega, by go_num, by go_num, HO2.out, by simp [HLK.out], HBR.out.trans HB3.out, ?_, ?_, ?_⟩
                · rw [HST.out, HSD.out]; simp; omega
                · intro z hz
                  rcases List.mem_append.1 hz with h | h
                  · exact HLB.out z h
                  · rw [List.mem_singleton.1 h, ByteArray.size_append, hsumu]; omega
                · rw [HFO.out, HFS.out, bs_append]
                  simp [bs, Function.comp_def]
              case measure => simp [intOf]; omega
        · obtain rfl : k = n := by omega
          have hdr : p.parts.drop k = [] := List.drop_of_length_le (by rw [← HPP.out, bs_length, ← HN.out]; omega)
          have hfo : Pt.fillOf p.parts (bs ys) = some (bs ls) := by
            rw [HFO.out, hdr]
            simp [Pt.fillOf]
          have hsj : Pt.stars p.parts = j := by
            rw [HST.out, hdr]
            rfl
          have hjl := lib_join_len 200000 (bs ls) (by
            intro z hz
            obtain ⟨q, hq, rfl⟩ := List.mem_map.1 hz
            rw [← Lib.size_eq]
            exact HLB.out q hq)
          rw [bs_length, HLK.out] at hjl
          cases b with
          | false =>
            have hff : (Pm.join (bs ls), 0) = (fv, fe) := by
              rw [← HF.out, HFC.out, hfo]
              rfl
            injection hff with h1 h2
            subst h1 h2
            obtain ⟨A', c', rfl, hc', hcm', hr', _⟩ := HOWN.out.form
            have HJ := Lib.hid (rjoin_any A' ls c' wr hr' hc' (by omega) (by rw [HLK.out]; omega))
            rw [HLK.out]
            rw [HLK.out] at HJ
            generalize Pm.join (bs ls) = fv at *
            clear hc' hcm' hr' hjl hfo hsj hdr
            go_wp2_with fail
            with_reducible refine HJ.out.mono ?_
            rintro e w4 ⟨rfl, hb4⟩
            have HB4 := Lib.hid hb4
            clear hb4
            go_wp2
            go_ret2
            exact ⟨rfl, HBA.out.trans (HB4.out.mono (by omega))⟩
          | true =>
            obtain ⟨wl, hwl⟩ : ∃ wl, wl = wr := ⟨_, rfl⟩
            subst hwl
            have hjm : j < m := by
              have h3 := HWS.out
              rw [hsj] at h3
              simp at h3
              omega
            have hly : j < ys.length := by rw [← HMM.out]; exact hjm
            obtain ⟨g', og', rfl, hg', hcell'⟩ := HRY.out.cells (by omega)
            have e2 := (HBA.out.cell (p := ⟨g', og' + j, none⟩) hg').trans (hcell' j hly)
            have hgd : (bs ys).getD (Pt.stars p.parts) [] = ys[j].data.toList := by
              rw [hsj, List.getD_eq_getElem?_getD, List.getElem?_eq_getElem (by rw [bs_length]; exact hly), bs_get ys j hly]
              rfl
            have hsy := HSY.out _ (List.getElem_mem hly)
            have hfc2 : Pt.fillComps p (bs ys) = if (Pm.segs ys[j].data.toList).all Pm.comp = true then some (bs ls ++ Pm.segs ys[j].data.toList) else none := by
              rw [HFC.out, hfo, hgd]
              rfl
            clear HFC HFO hgd hcell'
            generalize ys[j] = y at *
            have HS := Lib.hid (split_new y ⟨#[47]⟩ wl rfl (by omega) (HM0.out.keep HBA.out HM0.out.size))
            have HLE := Lib.hid (segs_le y.data.toList)
            have HEL := Lib.hid (segs_elem_le y.data.toList)
            rw [← Lib.size_eq] at HLE HEL
            have HF2 := Lib.hid hfc2
            clear hfc2
            generalize Pm.segs y.data.toList = q at *
            have HJL := Lib.hid hjl
            have HSYY := Lib.hid hsy
            clear hjl hfo hdr hsj hsy
            go_wp2_with fail
            with_reducible refine HS.out.mono ?_
            rintro e w4 ⟨zs, rfl, hbz, hcz, hzz, hb4⟩
            have hob := HOWN.out.lt
            have HO4 := Lib.hid (HOWN.out.below hb4)
            have HB4 := Lib.hid (show Below w2.heap.size w2 w4 from HBR.out.trans (hb4.mono hzr))
            obtain ⟨r, hr⟩ : ∃ r, r = zs.length := ⟨_, rfl⟩
            rw [← hr]
            have HR := Lib.hid hr
            have hrq : r ≤ 100001 := by
              have h1 := HLE.out
              have h2 := HSYY.out
              rw [hr, ← bs_length, hbz]
              omega
            have HBZ := Lib.hid hbz
            have HCZ := Lib.hid hcz
            have HGZ := Lib.hid (fun h => Nat.lt_irrefl _ (hob wl.heap.size h))
            clear hob hb4 hr hbz hcz
            go_wp2
            go_loopw [7, 65] (fun lv iv wr => ∃ (t : Nat) (l2 : List ByteArray), t ≤ r ∧ iv = .int .i64 t ∧ OwnS wr w2.heap.size lv l2 ∧ l2.length = k + t ∧ bs l2 = bs ls ++ q.take t ∧ Below w2.heap.size w2 wr ∧ (lv.ownBlock = some wl.heap.size → False) ∧ wl.heap.size < wr.heap.size ∧ (∀ j (h : j < zs.length), wr.cell? ⟨wl.heap.size, j, none⟩ = some (.string zs[j])) ∧ q.all Pm.comp = (q.drop t).all Pm.comp) (fun _ i _ => r - (intOf i).toNat)
            case atStart => exact ⟨0, ls, by omega, rfl, HO4.out, HLK.out, by simp, HB4.out, HGZ.out, hzz, HCZ.out, by simp⟩
            case round =>
              obtain ⟨t, l2, htr, rfl, hown, hlt2, hbl, hbq, hgz, hzq, hcq, hall⟩ := hrel
              have HO := Lib.hid hown
              have HL2 := Lib.hid hlt2
              have HBL := Lib.hid hbl
              have HBQ := Lib.hid hbq
              have HG := Lib.hid hgz
              have HC := Lib.hid hcq
              have HA := Lib.hid hall
              have HBAQ := Lib.hid (show Below w.heap.size w wr from HBW.out.trans (hbq.mono (by omega)))
              clear hown hlt2 hbl hbq hgz hcq hall
              by_cases htl : t < r
              · have hlz : t < zs.length := by rw [← HR.out]; exact htl
                have e5 := HC.out t hlz
                have hlq : t < q.length := by rw [← HBZ.out, bs_length]; exact hlz
                have hqz : q[t]'hlq = zs[t].data.toList := by
                  rw [← bs_get zs t hlz]
                  simp only [HBZ.out]
                have hdq : q.drop t = zs[t].data.toList :: q.drop (t + 1) := by rw [List.drop_eq_getElem_cons hlq, hqz]
                have htq : q.take (t + 1) = q.take t ++ [zs[t].data.toList] := by rw [List.take_succ_eq_append_getElem hlq, hqz]
                have hsz : zs[t].size ≤ 100000 := by
                  have h1 := HEL.out _ (List.getElem_mem hlq)
                  rw [hqz, ← Lib.size_eq] at h1
                  have h2 := HSYY.out
                  omega
                have HDQ := Lib.hid hdq
                have HTQ := Lib.hid htq
                clear hlq hqz hdq htq
                generalize zs[t] = z at *
                have HCo := Lib.hid (fun w : World => rcomp_any z w (by unfold maxLen; omega))
                cases hcz : Pm.comp z.data.toList with
                | false =>
                  rw [hcz] at HCo
                  have hqa : q.all Pm.comp = false := by rw [HA.out, HDQ.out, List.all_cons, hcz]; rfl
                  have hff : (([] : List UInt8), 32) = (fv, fe) := by
                    rw [← HF.out, HF2.out, hqa]
                    rfl
                  injection hff with h1 h2
                  subst h1 h2
                  clear hqa
                  go_wp2_with fail
                  with_reducible refine (HCo.out _).mono ?_
                  rintro e w' ⟨rfl, rfl⟩
                  go_wp2
                  go_ret2
                  exact ⟨rfl, HBAQ.out⟩
                | true =>
                  rw [hcz] at HCo
                  go_wp2_with fail
                  with_reducible refine (HCo.out _).mono ?_
                  rintro e w' ⟨rfl, rfl⟩
                  go_wp2_with (refine wpList_append_st rfl _ _ rfl w2.heap.size _ l2 rfl (HO.out.below ((Below.refl _ _).alloc (Nat.le_refl _) _)) ⟨wr.heap.size, 0, none⟩ [z] 1 rfl (new_one wr z _) (by simp [HL2.out]; omega) (by simp; omega) ?_; intro v' w' hown' hb' hgr hat)
                  have HO2 := Lib.hid hown'
                  have HB3 := Lib.hid (show Below w2.heap.size wr w' from ((Below.refl _ _).alloc (by omega) _).trans hb')
                  have hg2 := HG.out
                  have HG2 := Lib.hid (show v'.ownBlock = some wl.heap.size → False from by
                    intro h
                    rcases hat with h3 | h3
                    · exact hg2 (h3.symm.trans h)
                    · rw [h] at h3
                      injection h3 with h3
                      simp at h3
                      omega)
                  have HZ2 := Lib.hid (show wl.heap.size < w'.heap.size from by have := hgr.size; simp at this; omega)
                  have HC2 := Lib.hid (show ∀ j (h : j < zs.length), w'.cell? ⟨wl.heap.size, j, none⟩ = some (.string zs[j]) from by
                    intro j hj
                    refine hgr.cell (a := ⟨wl.heap.size, j, none⟩) ?_ (fun h => hg2 h.symm)
                    exact ((Below.refl wr.heap.size wr).alloc (Nat.le_refl _) _).cell (p := ⟨wl.heap.size, j, none⟩) hzq |>.trans (HC.out j hj))
                  clear hown' hb' hgr hat hg2
                  go_wp2
                  go_roundw
                  case rel =>
                    refine ⟨t + 1, l2 ++ [z], by omega, by go_num, HO2.out, by simp [HL2.out]; omega, ?_, HBQ.out.trans HB3.out, HG2.out, HZ2.out, HC2.out, ?_⟩
                    · rw [bs_append, HBL.out, HTQ.out]
                      simp [bs]
                    · rw [HA.out, HDQ.out, List.all_cons, hcz]
                      rfl
                  case measure => simp [intOf]; omega
              · obtain rfl : t = r := by omega
                have hrl : q.length = t := by rw [← HBZ.out, bs_length, ← HR.out]
                have hqa : q.all Pm.comp = true := by
                  rw [HA.out, List.drop_of_length_le (by omega)]
                  rfl
                have hbl : bs l2 = bs ls ++ q := by rw [HBL.out, List.take_of_length_le (by omega)]
                have hff : (Pm.join (bs l2), 0) = (fv, fe) := by
                  rw [← HF.out, HF2.out, hqa, hbl]
                  rfl
                injection hff with h1 h2
                subst h1 h2
                obtain ⟨A', c', rfl, hc', hcm', hr', _⟩ := HO.out.form
                have hjl := lib_join_len 200000 (bs l2) (by
                  intro z hz
                  rw [hbl] at hz
                  rcases List.mem_append.1 hz with h | h
                  · obtain ⟨z', hz', rfl⟩ := List.mem_map.1 h
                    rw [← Lib.size_eq]
                    exact HLB.out z' hz'
                  · have h1 := HEL.out z h
                    have h2 := HSYY.out
                    omega)
                rw [bs_length, HL2.out] at hjl
                have HJ := Lib.hid (rjoin_any A' l2 c' wr hr' hc' (by omega) (by rw [HL2.out]; omega))
                rw [HL2.out]
                rw [HL2.out] at HJ
                generalize Pm.join (bs l2) = fv at *
                clear hc' hcm' hr' hjl hbl hqa hrl
                go_wp2_with fail
                with_reducible refine HJ.out.mono ?_
                rintro e w5 ⟨rfl, hb5⟩
                have HB5 := Lib.hid hb5
                clear hb5
                go_wp2
                go_ret2
                exact ⟨rfl, HBAQ.out.trans (HB5.out.mono (by omega))⟩
    · rw [if_neg hwl] at hfb
      injection hfb with h1 h2
      subst h1 h2
      have hN := Lib.hid (show xs.length ≤ 1000000 by omega)
      have t1 : ((ys.length : Int) == (Pt.wilds p : Int)) = false := by rw [beq_eq_false_iff_ne]; omega
      have t2 : ((ys.length : Int) != (Pt.wilds p : Int)) = true := by simpa using (show (ys.length : Int) ≠ (Pt.wilds p : Int) by omega)
      have HWi2 := Lib.hid (fun (w' : World) (hb : Below W0.heap.size W0 w') => HWi.out w' hb hN.out)
      generalize Pt.wilds p = k at *
      subst hW0
      have HAL := Lib.hid halloc
      clear hp hp0 halloc hck hn12 hw13 hwl HWi hN hsx hsy hr hd hdm
      generalize xs.length = n at *
      generalize ys.length = m at *
      go_enter Tryz.func103, Tryz.ntmps103
      go_wp2_with fail
      with_reducible refine HCk.out.mono ?_
      rintro e w1 ⟨rfl, hb1⟩
      obtain ⟨c0, c1⟩ := box_cells hb1
      have hz1 := hb1.size
      simp at hz1
      have HB1 := Lib.hid hb1
      clear hb1
      go_wp2_with fail
      with_reducible refine (HWi2.out _ HB1.out).mono ?_
      rintro e w2 ⟨rfl, hb2⟩
      have HB2 := Lib.hid hb2
      clear hb2
      go_wp2
      go_ret2
      exact ⟨rfl, (HAL.out.trans (HB1.out.mono (by simp))).trans (HB2.out.mono (by omega))⟩
  · rw [if_neg hck] at hfb
    injection hfb with h1 h2
    subst h1 h2
    have t1 : ((Pt.check p : Int) == 0) = false := by rw [beq_eq_false_iff_ne]; omega
    have t2 : ((Pt.check p : Int) != 0) = true := by simpa using (show (Pt.check p : Int) ≠ 0 by omega)
    generalize Pt.check p = ck at *
    subst hW0
    have HAL := Lib.hid halloc
    clear hp hp0 halloc hck HWi hsx hsy hr hd hdm
    generalize xs.length = n at *
    generalize ys.length = m at *
    go_enter Tryz.func103, Tryz.ntmps103
    go_wp2_with fail
    with_reducible refine HCk.out.mono ?_
    rintro e w1 ⟨rfl, hb1⟩
    have HB1 := Lib.hid hb1
    clear hb1
    go_wp2
    go_ret2
    exact ⟨rfl, HAL.out.trans (HB1.out.mono (by simp))⟩
end Go.Proofs.YtembmegllpkmfaaGreatDoor

namespace Go.Proofs.YtembmegllpkmfaaGreatDoor
open Go.RowKit

end Go.Proofs.YtembmegllpkmfaaGreatDoor

namespace Go.Proofs.YtembmegllpkmfaaGreatDoor
open Go.RowKit

/-- What Meet and Substitute's like hand back: a pattern and whether there is one. -/
def GivesPB (w : World) (o : Option Pt.Pat) (e : Ending) (w' : World) : Prop :=
  ∃ A xs c b, e = .returned (.tuple #[patV A (List.length xs) c b, .bool o.isSome]) ∧ PatR w' A xs c b (o.getD ⟨[], false⟩) ∧ Below w.heap.size w w'
theorem box3_cells {w w' : World} {v0 v1 u0 u1 x0 x1 : Value} {t : TypeId} (h : Below (((w.alloc (.cells #[v0, v1] t)).alloc (.cells #[u0, u1] t)).alloc (.cells #[x0, x1] t)).heap.size (((w.alloc (.cells #[v0, v1] t)).alloc (.cells #[u0, u1] t)).alloc (.cells #[x0, x1] t)) w') :
    w'.cell? ⟨w.heap.size, 0, none⟩ = some v0 ∧ w'.cell? ⟨w.heap.size, 1, none⟩ = some v1 ∧ w'.cell? ⟨w.heap.size + 1, 0, none⟩ = some u0 ∧ w'.cell? ⟨w.heap.size + 1, 1, none⟩ = some u1 ∧
    w'.cell? ⟨w.heap.size + 1 + 1, 0, none⟩ = some x0 ∧ w'.cell? ⟨w.heap.size + 1 + 1, 1, none⟩ = some x1 ∧
    (∀ k, w'.frozen? ⟨w.heap.size, k, none⟩ = false) ∧ (∀ k, w'.frozen? ⟨w.heap.size + 1, k, none⟩ = false) ∧ (∀ k, w'.frozen? ⟨w.heap.size + 1 + 1, k, none⟩ = false) := by
  have h1 : Below ((w.alloc (.cells #[v0, v1] t)).alloc (.cells #[u0, u1] t)).heap.size ((w.alloc (.cells #[v0, v1] t)).alloc (.cells #[u0, u1] t)) w' := ((Below.refl _ _).alloc (Nat.le_refl _) _).trans (h.mono (by simp))
  have h2 : Below (w.alloc (.cells #[v0, v1] t)).heap.size (w.alloc (.cells #[v0, v1] t)) w' := ((Below.refl _ _).alloc (Nat.le_refl _) _).trans (h1.mono (by simp))
  obtain ⟨a, b⟩ := box_cells h2
  obtain ⟨c, d⟩ := box_cells h1
  obtain ⟨e, f⟩ := box_cells h
  have g1 := box_free h2
  have g2 := box_free h1
  have g3 := box_free h
  simp only [World.alloc, Array.size_push] at c d e f g2 g3
  exact ⟨a, b, c, d, e, f, g1, g2, g3⟩
theorem meetOf_step {ps qs : List (List UInt8)} {k : Nat} (h1 : k < ps.length) (h2 : k < qs.length) : Pt.meetOf (ps.drop k) (qs.drop k) = if Pt.inside ps[k] qs[k] then (Pt.meetOf (ps.drop (k + 1)) (qs.drop (k + 1))).map fun r => ps[k] :: r else if Pt.inside qs[k] ps[k] then (Pt.meetOf (ps.drop (k + 1)) (qs.drop (k + 1))).map fun r => qs[k] :: r else none := by
  rw [List.drop_eq_getElem_cons h1, List.drop_eq_getElem_cons h2, Pt.meetOf_cons]
theorem meetOf_none (ps : List (List UInt8)) : Pt.meetOf ps [] = some ps := by cases ps <;> rfl
theorem OwnS.setCell {w : World} {base : Nat} {v : Value} {xs : List ByteArray} (h : OwnS w base v xs) {p : Addr} (hp : p.block < base) (u : Value) : OwnS (w.setCell p u) base v xs := by
  refine ⟨h.1, ?_⟩
  rcases h.2 with hv | ⟨g, cap, cur, hv, hbg, hg, r⟩
  · exact .inl hv
  · exact .inr ⟨g, cap, cur, hv, hbg, by rw [Below.heap_setCell _ _ _ _ (by omega)]; exact hg, r⟩

theorem swap4 {W W' : World} {g : Nat} {v0 v1 v2 v3 u0 u1 u2 u3 : Value} (h0 : W.cell? ⟨g, 0, none⟩ = some v0) (h1 : W.cell? ⟨g, 1, none⟩ = some v1) (h2 : W.cell? ⟨g + 1, 0, none⟩ = some v2) (h3 : W.cell? ⟨g + 1, 1, none⟩ = some v3)
    (e : W' = (((W.setCell ⟨g, 0, none⟩ u0).setCell ⟨g, 1, none⟩ u1).setCell ⟨g + 1, 0, none⟩ u2).setCell ⟨g + 1, 1, none⟩ u3) :
    W'.cell? ⟨g, 0, none⟩ = some u0 ∧ W'.cell? ⟨g, 1, none⟩ = some u1 ∧ W'.cell? ⟨g + 1, 0, none⟩ = some u2 ∧ W'.cell? ⟨g + 1, 1, none⟩ = some u3 ∧
    (∀ k, W'.cell? ⟨g + 1 + 1, k, none⟩ = W.cell? ⟨g + 1 + 1, k, none⟩) ∧ (∀ k, W'.frozen? ⟨g + 1 + 1, k, none⟩ = W.frozen? ⟨g + 1 + 1, k, none⟩) := by
  subst e
  have o := fun (w : World) (p a : Addr) (v : Value) (h : p ≠ a) => World.cell?_setCell_other w p a v h
  refine ⟨?_, ?_, ?_, ?_, fun k => ?_, fun k => ?_⟩
  · rw [o _ _ _ _ (by simp), o _ _ _ _ (by simp), o _ _ _ _ (by simp)]
    exact World.cell?_setCell_same W _ u0 h0
  · rw [o _ _ _ _ (by simp), o _ _ _ _ (by simp)]
    exact World.cell?_setCell_same _ _ u1 ((o _ _ _ _ (by simp)).trans h1)
  · rw [o _ _ _ _ (by simp)]
    exact World.cell?_setCell_same _ _ u2 ((o _ _ _ _ (by simp)).trans ((o _ _ _ _ (by simp)).trans h2))
  · exact World.cell?_setCell_same _ _ u3 ((o _ _ _ _ (by simp)).trans ((o _ _ _ _ (by simp)).trans ((o _ _ _ _ (by simp)).trans h3)))
  · rw [o _ _ _ _ (by simp), o _ _ _ _ (by simp), o _ _ _ _ (by simp), o _ _ _ _ (by simp)]
  · simp [go_sem]
theorem below_drew {B : Nat} {a w : World} (h : Below B a w) : Below B a w.drew := h.trans ⟨rfl, rfl, rfl, Nat.le_refl _, fun _ _ => rfl⟩
theorem RdS.drew {w : World} {B : Nat} {A : Option Addr} {xs : List ByteArray} (h : RdS w B A xs) : RdS w.drew B A xs := h
/-- What Meet knows when the longer pattern stands first: the boxes and what the answer is. -/
structure Longer (w wx : World) (o : Option Pt.Pat) (A B : Option Addr) (xs ys : List ByteArray) (c d n m : Nat) (b f : Bool) (p q : Pt.Pat) : Prop where
  rdA : RdS w w.heap.size A xs
  rdB : RdS w w.heap.size B ys
  pa : bs xs = p.parts
  pb : bs ys = q.parts
  sa : ∀ x ∈ xs, x.size ≤ maxLen
  sb : ∀ x ∈ ys, x.size ≤ maxLen
  nc : n ≤ c
  md : m ≤ d
  cm : (c : Int) ≤ 9223372036854775807
  dm : (d : Int) ≤ 9223372036854775807
  na : n = xs.length
  mb : m = ys.length
  mn : m ≤ n
  n12 : n ≤ 12
  e0 : wx.cell? ⟨w.heap.size, 0, none⟩ = some (.slice A n c)
  e1 : wx.cell? ⟨w.heap.size, 1, none⟩ = some (.bool b)
  e2 : wx.cell? ⟨w.heap.size + 1, 0, none⟩ = some (.slice B m d)
  e3 : wx.cell? ⟨w.heap.size + 1, 1, none⟩ = some (.bool f)
  e4 : wx.cell? ⟨w.heap.size + 1 + 1, 0, none⟩ = some (.slice none 0 0)
  e5 : wx.cell? ⟨w.heap.size + 1 + 1, 1, none⟩ = some (.bool false)
  f4 : wx.frozen? ⟨w.heap.size + 1 + 1, 0, none⟩ = false
  f5 : wx.frozen? ⟨w.heap.size + 1 + 1, 1, none⟩ = false
  below : Below w.heap.size w wx
  hz : w.heap.size + 1 + 1 < wx.heap.size
  ho : o = if (decide (m < n) && !f) || (decide (n = m) && (b != f)) then none else (Pt.meetOf p.parts q.parts).map fun l => ⟨l, b⟩

set_option maxHeartbeats 8000000 in
theorem rmeet_any (A B : Option Addr) (xs ys : List ByteArray) (c d : Nat) (b f : Bool) (p q : Pt.Pat) (w : World) (hp : PatR w A xs c b p) (hq : PatR w B ys d f q) :
    Calls Tryz.prog 43 #[patV A xs.length c b, patV B ys.length d f] w (GivesPB w (Pt.meet p q)) := by
  obtain ⟨W0, hW0⟩ : ∃ W0, W0 = ((w.alloc (.cells #[.slice A xs.length c, .bool b] 24)).alloc (.cells #[.slice B ys.length d, .bool f] 24)).alloc (.cells #[.slice none 0 0, .bool false] 24) := ⟨_, rfl⟩
  have halloc : Below w.heap.size w W0 := by rw [hW0]; exact (((Below.refl _ _).alloc (Nat.le_refl _) _).alloc (by simp) _).alloc (by simp; omega) _
  have hp0 := hp.keep halloc
  have hq0 := hq.keep halloc
  have HCp := Lib.hid (fun (w' : World) (hb : Below W0.heap.size W0 w') => rcheck_any A xs c b p w' (hp0.keep hb))
  have HCq := Lib.hid (fun (w' : World) (hb : Below W0.heap.size W0 w') => rcheck_any B ys d f q w' (hq0.keep hb))
  have hv : Pt.meet p q = if Pt.check p = 0 ∧ Pt.check q = 0 then (if p.parts.length < q.parts.length then Pt.meetLong q p else Pt.meetLong p q) else none := rfl
  rw [hp.len, hq.len] at hv
  generalize Pt.meet p q = o at hv
  have h12 : Pt.check p = 0 → xs.length ≤ 12 := fun h => by rw [← hp.len]; exact (Pt.check_ok.1 h).2
  have h12' : Pt.check q = 0 → ys.length ≤ 12 := fun h => by rw [← hq.len]; exact (Pt.check_ok.1 h).2
  have hpx : (xs.length : Int) ≤ 9223372036854775807 := by have := hp.le; have := hp.cm; unfold maxLen at this; omega
  have hqx : (ys.length : Int) ≤ 9223372036854775807 := by have := hq.le; have := hq.cm; unfold maxLen at this; omega
  have hpq : Pt.meetLong p q = if (decide (ys.length < xs.length) && !f) || (decide (xs.length = ys.length) && (b != f)) then none else (Pt.meetOf p.parts q.parts).map fun l => ⟨l, b⟩ := by
    unfold Pt.meetLong
    rw [hp.len, hq.len, ← hp.rest, ← hq.rest]
  have hqp : Pt.meetLong q p = if (decide (xs.length < ys.length) && !b) || (decide (ys.length = xs.length) && (f != b)) then none else (Pt.meetOf q.parts p.parts).map fun l => ⟨l, f⟩ := by
    unfold Pt.meetLong
    rw [hp.len, hq.len, ← hp.rest, ← hq.rest]
  have HRA := Lib.hid hp.rd
  have HRB := Lib.hid hq.rd
  have HPA := Lib.hid hp.parts
  have HPB := Lib.hid hq.parts
  have HXA := Lib.hid hp.sz
  have HXB := Lib.hid hq.sz
  have HCA := Lib.hid hp.cm
  have HCB := Lib.hid hq.cm
  have hlea := hp.le
  have hleb := hq.le
  obtain ⟨n, hn⟩ : ∃ n, n = xs.length := ⟨_, rfl⟩
  obtain ⟨m, hmm⟩ : ∃ m, m = ys.length := ⟨_, rfl⟩
  rw [← hn, ← hmm] at hW0 hv hpq hqp ⊢
  rw [← hn] at hpx hlea HCp h12
  rw [← hmm] at hqx hleb HCq h12'
  have HN := Lib.hid hn
  have HM := Lib.hid hmm
  rw [hpq, hqp] at hv
  generalize Pt.check p = k1 at HCp hv h12
  generalize Pt.check q = k2 at HCq hv h12'
  subst hW0
  have HAL := Lib.hid halloc
  clear hp hq hp0 hq0 hn hmm halloc hpq hqp
  by_cases hk1 : k1 = 0
  · subst hk1
    by_cases hk2 : k2 = 0
    · subst hk2
      have hn12 := h12 rfl
      have hm12 := h12' rfl
      rw [if_pos ⟨rfl, rfl⟩] at hv
      have HV := Lib.hid hv
      clear hv h12 h12'
      have HCAI := Lib.hid (show (c : Int) ≤ 9223372036854775807 by have := HCA.out; unfold maxLen at this; omega)
      have HCBI := Lib.hid (show (d : Int) ≤ 9223372036854775807 by have := HCB.out; unfold maxLen at this; omega)
      go_enter Tryz.func43, Tryz.ntmps43
      go_wp2_with fail
      with_reducible refine (HCp.out _ (Below.refl _ _)).mono ?_
      rintro e w1 ⟨rfl, hb1⟩
      obtain ⟨c0, c1, c2, c3, c4, c5, f0, f1, f2⟩ := box3_cells hb1
      have hz1 := hb1.size
      have HB1 := Lib.hid hb1
      clear hb1
      simp at hz1
      go_wp2_with fail
      with_reducible refine (HCq.out _ HB1.out).mono ?_
      rintro e w2 ⟨rfl, hb2⟩
      obtain ⟨d0, d1, d2, d3, d4, d5, e0, e1, e2⟩ := box3_cells (HB1.out.trans (hb2.mono HB1.out.size))
      have HB2 := Lib.hid hb2
      have hz2 := hb2.size
      clear hb2 c0 c1 c2 c3 c4 c5 f0 f1 f2
      have HBW := Lib.hid (show Below w.heap.size w w2 from (HAL.out.trans (HB1.out.mono (by simp; omega))).trans (HB2.out.mono (by omega)))
      have hz3 : w.heap.size < w2.heap.size := by omega
      have hz4 : w.heap.size + 1 < w2.heap.size := by omega
      have hz5 : w.heap.size + 1 + 1 < w2.heap.size := by omega
      go_upto_if 25 with fail
      go_cut [] (fun wx => ∃ A B xs ys c d n m b f p q, Longer w wx o A B xs ys c d n m b f p q)
      case first =>
        by_cases hlt : n < m
        · rw [decide_eq_true hlt]
          have HLT := Lib.hid hlt
          clear hlt
          set_option maxRecDepth 100000 in go_wp2_with fail
          go_meet
          refine ⟨B, A, ys, xs, d, c, m, n, f, b, q, p, HRB.out, HRA.out, HPB.out, HPA.out, HXB.out, HXA.out, hleb, hlea, HCBI.out, HCAI.out, HM.out, HN.out, by have := HLT.out; omega, hm12, ?_, ?_, ?_, ?_, ?_, ?_, ?_, ?_, ?_, ?_, ?_⟩
          · exact (swap4 d0 d1 d2 d3 rfl).1
          · exact (swap4 d0 d1 d2 d3 rfl).2.1
          · exact (swap4 d0 d1 d2 d3 rfl).2.2.1
          · exact (swap4 d0 d1 d2 d3 rfl).2.2.2.1
          · exact ((swap4 d0 d1 d2 d3 rfl).2.2.2.2.1 0).trans d4
          · exact ((swap4 d0 d1 d2 d3 rfl).2.2.2.2.1 1).trans d5
          · exact ((swap4 d0 d1 d2 d3 rfl).2.2.2.2.2 0).trans ((box3_cells (HB1.out.trans (HB2.out.mono HB1.out.size))).2.2.2.2.2.2.2.2 0)
          · exact ((swap4 d0 d1 d2 d3 rfl).2.2.2.2.2 1).trans ((box3_cells (HB1.out.trans (HB2.out.mono HB1.out.size))).2.2.2.2.2.2.2.2 1)
          · exact (((HBW.out.setCell (p := ⟨w.heap.size, 0, none⟩) (by simp) _).setCell (p := ⟨w.heap.size, 1, none⟩) (by simp) _).setCell (p := ⟨w.heap.size + 1, 0, none⟩) (by simp) _).setCell (p := ⟨w.heap.size + 1, 1, none⟩) (by simp) _
          · simpa [World.setCell] using hz5
          · rw [HV.out, if_pos HLT.out]
        · rw [decide_eq_false hlt]
          have HLT := Lib.hid hlt
          clear hlt
          set_option maxRecDepth 100000 in go_wp2_with fail
          go_meet
          refine ⟨A, B, xs, ys, c, d, n, m, b, f, p, q, HRA.out, HRB.out, HPA.out, HPB.out, HXA.out, HXB.out, hlea, hleb, HCAI.out, HCBI.out, HN.out, HM.out, by have := HLT.out; omega, hn12, ?_, ?_, ?_, ?_, ?_, ?_, ?_, ?_, ?_, ?_, ?_⟩
          · exact d0
          · exact d1
          · exact d2
          · exact d3
          · exact d4
          · exact d5
          · exact (box3_cells (HB1.out.trans (HB2.out.mono HB1.out.size))).2.2.2.2.2.2.2.2 0
          · exact (box3_cells (HB1.out.trans (HB2.out.mono HB1.out.size))).2.2.2.2.2.2.2.2 1
          · exact HBW.out
          · exact hz5
          · rw [HV.out, if_neg HLT.out]
      case rest =>
        clear d0 d1 d2 d3 d4 d5 HB1 HB2 HBW hz1 hz2 hz3 hz4 hz5 HV HRA HRB HPA HPB HXA HXB HCA HCB hlea hleb hpx hqx HN HM HAL HCp HCq hn12 hm12 HCAI HCBI
        obtain ⟨A1, B1, xs1, ys1, c1, d1, n1, m1, b1, f1, p1, q1, H⟩ := hcut
        clear e0 e1 e2
        have HH := Lib.hid H
        obtain ⟨bb, hbb⟩ : ∃ bb, bb = b1 := ⟨_, rfl⟩
        have HBB := Lib.hid hbb
        have e0 := H.e0
        have e1 := H.e1
        have e2 := H.e2
        have e3 := H.e3
        have e4 := H.e4
        have e5 := H.e5
        have f4 := H.f4
        have f5 := H.f5
        have hz5 := H.hz
        have hz4 : w.heap.size + 1 < wc.heap.size := by omega
        have hz3 : w.heap.size < wc.heap.size := by omega
        have hn12 := H.n12
        have hmn := H.mn
        have hcs : (o = none ∧ f1 = false ∧ ((n1 : Int) == (m1 : Int)) = false ∧ decide (m1 < n1) = true) ∨ (o = none ∧ (b1 = true ∧ f1 = false ∨ b1 = false ∧ f1 = true) ∧ ((n1 : Int) == (m1 : Int)) = true ∧ decide (m1 < n1) = false) ∨
            (o = ((Pt.meetOf p1.parts q1.parts).map fun l => (⟨l, b1⟩ : Pt.Pat)) ∧ ((f1 = true ∧ ((n1 : Int) == (m1 : Int)) = false ∧ decide (m1 < n1) = true) ∨ ((b1 = true ∧ f1 = true ∨ b1 = false ∧ f1 = false) ∧ ((n1 : Int) == (m1 : Int)) = true ∧ decide (m1 < n1) = false))) := by
          have ho := H.ho
          rcases Nat.lt_or_ge m1 n1 with hlt | hge
          · have g4 : ((n1 : Int) == (m1 : Int)) = false := by rw [beq_eq_false_iff_ne]; omega
            have g5 : decide (m1 < n1) = true := decide_eq_true hlt
            have g6 : decide (n1 = m1) = false := decide_eq_false (by omega)
            rw [g5, g6] at ho
            cases f1 with
            | false => exact .inl ⟨by rw [ho]; rfl, rfl, g4, g5⟩
            | true => exact .inr (.inr ⟨by rw [ho]; rfl, .inl ⟨rfl, g4, g5⟩⟩)
          · have g4 : ((n1 : Int) == (m1 : Int)) = true := by rw [beq_iff_eq]; omega
            have g5 : decide (m1 < n1) = false := decide_eq_false (by omega)
            have g6 : decide (n1 = m1) = true := decide_eq_true (by omega)
            rw [g5, g6] at ho
            cases b1 <;> cases f1
            · exact .inr (.inr ⟨by rw [ho]; rfl, .inr ⟨.inr ⟨rfl, rfl⟩, g4, g5⟩⟩)
            · exact .inr (.inl ⟨by rw [ho]; rfl, .inr ⟨rfl, rfl⟩, g4, g5⟩)
            · exact .inr (.inl ⟨by rw [ho]; rfl, .inl ⟨rfl, rfl⟩, g4, g5⟩)
            · exact .inr (.inr ⟨by rw [ho]; rfl, .inr ⟨.inl ⟨rfl, rfl⟩, g4, g5⟩⟩)
        clear H hbb
        rcases hcs with ⟨rfl, rfl, g4, g5⟩ | ⟨rfl, ⟨rfl, rfl⟩ | ⟨rfl, rfl⟩, g4, g5⟩ | ⟨ho, hcs⟩
        iterate 3
          · set_option maxRecDepth 100000 in go_wp2
            refine bodyPost_ret (v := .tuple #[patV none 0 0 false, .bool false]) (by simp [results, Tryz.results43, go_sem, e4, e5]) rfl ⟨none, [], 0, false, rfl, patR_zero _, ?_⟩
            exact (HH.out.below.setCell (p := ⟨w.heap.size + 1 + 1, 0, none⟩) (by simp; omega) _).setCell (p := ⟨w.heap.size + 1 + 1, 1, none⟩) (by simp; omega) _
        have HO := Lib.hid ho
        clear ho
        rcases hcs with ⟨rfl, g4, g5⟩ | ⟨⟨rfl, rfl⟩ | ⟨rfl, rfl⟩, g4, g5⟩
        all_goals
          set_option maxRecDepth 100000 in go_wp2
          go_loopw [62] (fun iv wr => ∃ (k : Nat) (ls : List ByteArray) (A3 : Option Addr) (c3 : Nat), k ≤ n1 ∧ iv = .int .i64 k ∧ OwnS wr (wc.heap.size + 1) (.slice A3 k c3) ls ∧ ls.length = k ∧ wr.cell? ⟨wc.heap.size, 0, none⟩ = some (.slice A3 k c3) ∧ wr.cell? ⟨wc.heap.size, 1, none⟩ = some (.bool bb) ∧ wr.frozen? ⟨wc.heap.size, 0, none⟩ = false ∧ Below wc.heap.size wc wr ∧ wc.heap.size + 1 ≤ wr.heap.size ∧ (∀ y ∈ ls, y.size ≤ maxLen) ∧ Pt.meetOf p1.parts q1.parts = (Pt.meetOf (p1.parts.drop k) (q1.parts.drop k)).map (fun r => bs ls ++ r)) (fun iv _ => n1 - (intOf iv).toNat)
          case atStart => exact ⟨0, [], none, 0, by omega, rfl, OwnS.empty _ _, rfl, (box_cells (Below.refl _ _)).1, by rw [HBB.out]; exact (box_cells (Below.refl _ _)).2, box_free (Below.refl _ _) 0, (Below.refl _ _).alloc (Nat.le_refl _) _, by simp, by simp, by simp [bs]⟩
          case round =>
            obtain ⟨k, ls, A3, c3, hkn, rfl, hown, hlk, hc0, hc1, hf0, hbr, hzr, hlb, hmo⟩ := hrel
            have hq0 := (hbr.cell (p := ⟨w.heap.size + 1, 0, none⟩) hz4).trans e2
            have hr0 := (hbr.cell (p := ⟨w.heap.size + 1 + 1, 0, none⟩) hz5).trans e4
            have hr1 := (hbr.cell (p := ⟨w.heap.size + 1 + 1, 1, none⟩) hz5).trans e5
            have hr2 := (hbr.frozen (p := ⟨w.heap.size + 1 + 1, 0, none⟩) hz5).trans f4
            have hr3 := (hbr.frozen (p := ⟨w.heap.size + 1 + 1, 1, none⟩) hz5).trans f5
            have HOWN := Lib.hid hown
            have HBR := Lib.hid hbr
            have HLB := Lib.hid hlb
            have HMO := Lib.hid hmo
            have HLK := Lib.hid hlk
            have hy4 : w.heap.size + 1 < wr.heap.size := by omega
            have hy5 : w.heap.size + 1 + 1 < wr.heap.size := by omega
            have hy6 : wc.heap.size < wr.heap.size := by omega
            have hcmx : (d1 : Int) ≤ 9223372036854775807 := HH.out.dm
            have hmd : (m1 : Int) ≤ (d1 : Int) := by have := HH.out.md; omega
            clear hown hbr hlb hmo hlk
            by_cases hlt : k < n1
            · have hlx : k < xs1.length := by have := HH.out.na; omega
              obtain ⟨g, og, rfl, hg, hcell⟩ := HH.out.rdA.cells (by omega)
              have k1 := (HBR.out.cell (p := ⟨g, og + k, none⟩) (by show g < wc.heap.size; omega)).trans ((HH.out.below.cell (p := ⟨g, og + k, none⟩) hg).trans (hcell k hlx))
              have hlp : k < p1.parts.length := by rw [← HH.out.pa, bs_length]; exact hlx
              have ep : p1.parts[k]'hlp = xs1[k].data.toList := by
                rw [← bs_get xs1 k hlx]
                simp only [HH.out.pa]
              have HSX := Lib.hid (HH.out.sa _ (List.getElem_mem hlx))
              by_cases hkm : k < m1
              · have hly : k < ys1.length := by have := HH.out.mb; omega
                obtain ⟨g', og', rfl, hg', hcell'⟩ := HH.out.rdB.cells (by omega)
                have k2 := (HBR.out.cell (p := ⟨g', og' + k, none⟩) (by show g' < wc.heap.size; omega)).trans ((HH.out.below.cell (p := ⟨g', og' + k, none⟩) hg').trans (hcell' k hly))
                have hlq : k < q1.parts.length := by rw [← HH.out.pb, bs_length]; exact hly
                have eq : q1.parts[k]'hlq = ys1[k].data.toList := by
                  rw [← bs_get ys1 k hly]
                  simp only [HH.out.pb]
                have hst := meetOf_step hlp hlq
                rw [ep, eq] at hst
                have HST := Lib.hid hst
                have HSY := Lib.hid (HH.out.sb _ (List.getElem_mem hly))
                clear hcell hcell' hst ep eq hlp hlq
                generalize xs1[k] = x at *
                generalize ys1[k] = y at *
                have HI := Lib.hid (fun w : World => rinside_any x y w HSX.out HSY.out)
                have HI2 := Lib.hid (fun w : World => rinside_any y x w HSY.out HSX.out)
                have t1 : decide (m1 ≤ k) = false := decide_eq_false (by omega)
                cases hi : Pt.inside x.data.toList y.data.toList with
                | true =>
                  rw [hi] at HI HST
                  go_wp2_with fail
                  with_reducible refine (HI.out _).mono ?_
                  rintro e w' ⟨rfl, rfl⟩
                  go_wp2_with (refine wpList_append_ss rfl _ _ rfl (wc.heap.size + 1) _ ls rfl (HOWN.out.below ((Below.refl _ _).alloc (Nat.le_refl _) _)) (some ⟨wr.heap.size, 0, none⟩) [x] 1 rfl (new_one wr x _) (fun h => by cases h) (by simp [HLK.out]; omega) (by simp; omega) ?_; intro v' w' hown' hb'
                               obtain ⟨A', c', hv, hf1, hf2, hf3, hf4⟩ := hown'.form
                               rw [show (ls ++ [x]).length = k + 1 by simp [HLK.out]] at hv
                               subst hv
                               clear hf1 hf2 hf3 hf4
                               have HB := Lib.hid (show Below (wc.heap.size + 1) wr w' from ((Below.refl _ _).alloc hzr _).trans hb')
                               have HO2 := Lib.hid hown'
                               have kk0 := (HB.out.cell (p := ⟨wc.heap.size, 0, none⟩) (by show wc.heap.size < wc.heap.size + 1; omega)).trans hc0
                               have kk1 := (HB.out.cell (p := ⟨wc.heap.size, 1, none⟩) (by show wc.heap.size < wc.heap.size + 1; omega)).trans hc1
                               have kf0 := (HB.out.frozen (p := ⟨wc.heap.size, 0, none⟩) (by show wc.heap.size < wc.heap.size + 1; omega)).trans hf0
                               clear hown' hb')
                  go_wp2
                  go_roundw
                  case rel =>
                    refine ⟨k + 1, ls ++ [x], A', c', by omega, by go_num, HO2.out.setCell (by show wc.heap.size < wc.heap.size + 1; omega) _, by simp [HLK.out], World.cell?_setCell_same _ _ _ kk0, (World.cell?_setCell_other _ _ _ _ (by simp)).trans kk1, ?_, (HBR.out.trans (HB.out.mono (by omega))).setCell (p := ⟨wc.heap.size, 0, none⟩) (Nat.le_refl _) _, ?_, ?_, ?_⟩
                    · simpa using kf0
                    · have := HB.out.size
                      simp [World.setCell]
                      omega
                    · intro z hz
                      rcases List.mem_append.1 hz with h | h
                      · exact HLB.out z h
                      · rw [List.mem_singleton.1 h]; exact HSX.out
                    · rw [HMO.out, HST.out, bs_append]
                      simp [bs, Function.comp_def]
                  case measure => simp [intOf]; omega
                | false =>
                  rw [hi] at HI HST
                  cases hi2 : Pt.inside y.data.toList x.data.toList with
                  | true =>
                    rw [hi2] at HI2 HST
                    have i1 : (0 : Int) ≤ (k : Int) := Int.natCast_nonneg _
                    have i2 : (k : Int) < (m1 : Int) := by omega
                    have i3 := World.new_ne wr _ hc0
                    have i4 := World.new_ne wr _ hq0
                    have i5 := World.new_ne wr _ k2
                    go_wp2_with fail
                    with_reducible refine (HI.out _).mono ?_
                    rintro e w' ⟨rfl, rfl⟩
                    go_wp2_with fail
                    with_reducible refine (HI2.out _).mono ?_
                    rintro e w' ⟨rfl, rfl⟩
                    go_wp2_with fail
                    go_region_law
                      ((refine step_append_ss rfl _ _ rfl (wc.heap.size + 1) (.slice A3 k c3) ls (by rfl) (HOWN.out.below (by repeat (first | exact Below.refl _ _ | apply below_drew | refine Below.alloc ?_ (by first | exact Nat.le_refl _ | exact hzr) _))) (some ⟨wr.heap.size, 0, none⟩) [y] 1 1 rfl (by rfl) (by first | exact RdS.drew (new_one wr y _) | exact new_one wr.drew y _ | exact RdS.drew (new_one wr.drew y _) | exact RdS.drew (RdS.drew (new_one wr y _))) (fun h => by cases h) (by simp [HLK.out]; omega) (by simp; omega) ?_; intro v' w' hown' hb'
                        obtain ⟨A', c', hv, hf1, hf2, hf3, hf4⟩ := hown'.form
                        rw [show (ls ++ [y]).length = k + 1 by simp [HLK.out]] at hv
                        subst hv
                        clear hf1 hf2 hf3 hf4
                        have HB := Lib.hid (show Below (wc.heap.size + 1) wr w' from Below.trans (by repeat (first | exact Below.refl _ _ | apply below_drew | refine Below.alloc ?_ (by exact hzr) _)) hb')
                        have HO2 := Lib.hid hown'
                        have kk0 := (HB.out.cell (p := ⟨wc.heap.size, 0, none⟩) (by show wc.heap.size < wc.heap.size + 1; omega)).trans hc0
                        have kk1 := (HB.out.cell (p := ⟨wc.heap.size, 1, none⟩) (by show wc.heap.size < wc.heap.size + 1; omega)).trans hc1
                        have kf0 := (HB.out.frozen (p := ⟨wc.heap.size, 0, none⟩) (by show wc.heap.size < wc.heap.size + 1; omega)).trans hf0
                        clear hown' hb'))
                    all_goals
                      go_wp2
                      go_roundw
                      case rel =>
                        refine ⟨k + 1, ls ++ [y], A', c', by omega, by go_num, HO2.out.setCell (by show wc.heap.size < wc.heap.size + 1; omega) _, by simp [HLK.out], World.cell?_setCell_same _ _ _ kk0, (World.cell?_setCell_other _ _ _ _ (by simp)).trans kk1, ?_, (HBR.out.trans (HB.out.mono (by omega))).setCell (p := ⟨wc.heap.size, 0, none⟩) (Nat.le_refl _) _, ?_, ?_, ?_⟩
                        · simpa using kf0
                        · have := HB.out.size
                          simp [World.setCell]
                          omega
                        · intro z hz
                          rcases List.mem_append.1 hz with h | h
                          · exact HLB.out z h
                          · rw [List.mem_singleton.1 h]; exact HSY.out
                        · rw [HMO.out, HST.out, bs_append]
                          simp [bs, Function.comp_def]
                      case measure => simp [intOf]; omega
                  | false =>
                    rw [hi2] at HI2 HST
                    have hon : o = none := by
                      rw [HO.out, HMO.out, HST.out]
                      rfl
                    subst hon
                    go_wp2_with fail
                    with_reducible refine (HI.out _).mono ?_
                    rintro e w' ⟨rfl, rfl⟩
                    go_wp2_with fail
                    with_reducible refine (HI2.out _).mono ?_
                    rintro e w' ⟨rfl, rfl⟩
                    go_wp2
                    refine bodyPost_ret (v := .tuple #[patV none 0 0 false, .bool false]) (by simp [results, Tryz.results43, go_sem, hr0, hr1]) rfl ⟨none, [], 0, false, rfl, patR_zero _, ?_⟩
                    exact ((HH.out.below.trans (HBR.out.mono (by omega))).setCell (p := ⟨w.heap.size + 1 + 1, 0, none⟩) (by simp; omega) _).setCell (p := ⟨w.heap.size + 1 + 1, 1, none⟩) (by simp; omega) _
              · have hst : Pt.meetOf (p1.parts.drop k) (q1.parts.drop k) = (Pt.meetOf (p1.parts.drop (k + 1)) (q1.parts.drop (k + 1))).map fun r => xs1[k].data.toList :: r := by
                  rw [List.drop_of_length_le (show q1.parts.length ≤ k by rw [← HH.out.pb, bs_length, ← HH.out.mb]; omega), List.drop_of_length_le (show q1.parts.length ≤ k + 1 by rw [← HH.out.pb, bs_length, ← HH.out.mb]; omega), meetOf_none, meetOf_none, List.drop_eq_getElem_cons hlp, ep]
                  rfl
                have HST := Lib.hid hst
                have t1 : decide (m1 ≤ k) = true := decide_eq_true (by omega)
                clear hcell hst ep hlp
                generalize xs1[k] = x at *
                go_wp2_with (refine wpList_append_ss rfl _ _ rfl (wc.heap.size + 1) _ ls rfl (HOWN.out.below ((Below.refl _ _).alloc (Nat.le_refl _) _)) (some ⟨wr.heap.size, 0, none⟩) [x] 1 rfl (new_one wr x _) (fun h => by cases h) (by simp [HLK.out]; omega) (by simp; omega) ?_; intro v' w' hown' hb'
                             obtain ⟨A', c', hv, hf1, hf2, hf3, hf4⟩ := hown'.form
                             rw [show (ls ++ [x]).length = k + 1 by simp [HLK.out]] at hv
                             subst hv
                             clear hf1 hf2 hf3 hf4
                             have HB := Lib.hid (show Below (wc.heap.size + 1) wr w' from ((Below.refl _ _).alloc hzr _).trans hb')
                             have HO2 := Lib.hid hown'
                             have kk0 := (HB.out.cell (p := ⟨wc.heap.size, 0, none⟩) (by show wc.heap.size < wc.heap.size + 1; omega)).trans hc0
                             have kk1 := (HB.out.cell (p := ⟨wc.heap.size, 1, none⟩) (by show wc.heap.size < wc.heap.size + 1; omega)).trans hc1
                             have kf0 := (HB.out.frozen (p := ⟨wc.heap.size, 0, none⟩) (by show wc.heap.size < wc.heap.size + 1; omega)).trans hf0
                             clear hown' hb')
                go_wp2
                go_roundw
                case rel =>
                  refine ⟨k + 1, ls ++ [x], A', c', by omega, by go_num, HO2.out.setCell (by show wc.heap.size < wc.heap.size + 1; omega) _, by simp [HLK.out], World.cell?_setCell_same _ _ _ kk0, (World.cell?_setCell_other _ _ _ _ (by simp)).trans kk1, ?_, (HBR.out.trans (HB.out.mono (by omega))).setCell (p := ⟨wc.heap.size, 0, none⟩) (Nat.le_refl _) _, ?_, ?_, ?_⟩
                  · simpa using kf0
                  · have := HB.out.size
                    simp [World.setCell]
                    omega
                  · intro z hz
                    rcases List.mem_append.1 hz with h | h
                    · exact HLB.out z h
                    · rw [List.mem_singleton.1 h]; exact HSX.out
                  · rw [HMO.out, HST.out, bs_append]
                    simp [bs, Function.comp_def]
                case measure => simp [intOf]; omega
            · have hkn1 : k = n1 := by omega
              subst hkn1
              have hmf : Pt.meetOf p1.parts q1.parts = some (bs ls) := by
                rw [HMO.out, List.drop_of_length_le (show p1.parts.length ≤ k by rw [← HH.out.pa, bs_length, ← HH.out.na]; omega), List.drop_of_length_le (show q1.parts.length ≤ k by rw [← HH.out.pb, bs_length, ← HH.out.mb]; omega), meetOf_none]
                simp
              have hoo : o = some ⟨bs ls, bb⟩ := by
                rw [HO.out, hmf, HBB.out]
                rfl
              subst hoo
              obtain ⟨A', c', hv, h1, h2, h3, h4⟩ := HOWN.out.form
              injection hv with v1 v2 v3
              have HPR := Lib.hid (show PatR wr A3 ls c3 bb ⟨bs ls, bb⟩ from ⟨by rw [v1]; exact h3, rfl, rfl, by rw [v3]; exact h1, by rw [v3]; exact h2, by rw [v1, v3]; exact h4, HLB.out⟩)
              clear v1 v2 v3 h1 h2 h3 h4 hmf
              go_wp2
              refine bodyPost_ret (v := .tuple #[patV A3 k c3 bb, .bool true]) (by simp [results, Tryz.results43, go_sem, hr0, hr1]) rfl ⟨A3, ls, c3, bb, by rw [HLK.out]; rfl, ?_, ?_⟩
              · exact HPR.out.store2 _ _ _ _ _ hr0 hr1 (fun _ h => by cases h) (fun _ h => by cases h)
              · exact ((HH.out.below.trans (HBR.out.mono (by omega))).setCell (p := ⟨w.heap.size + 1 + 1, 0, none⟩) (by simp; omega) _).setCell (p := ⟨w.heap.size + 1 + 1, 1, none⟩) (by simp; omega) _
    · have hv0 : o = none := by rw [hv, if_neg]; intro h; exact hk2 h.2
      have t1 : ((k2 : Int) == 0) = false := by rw [beq_eq_false_iff_ne]; omega
      have t2 : ((k2 : Int) != 0) = true := by simpa using (show (k2 : Int) ≠ 0 by omega)
      subst hv0
      clear hv h12 h12' hk2
      go_enter Tryz.func43, Tryz.ntmps43
      go_wp2_with fail
      with_reducible refine (HCp.out _ (Below.refl _ _)).mono ?_
      rintro e w1 ⟨rfl, hb1⟩
      obtain ⟨c0, c1, c2, c3, c4, c5, f0, f1, f2⟩ := box3_cells hb1
      have hz1 := hb1.size
      have HB1 := Lib.hid hb1
      clear hb1
      simp at hz1
      go_wp2_with fail
      with_reducible refine (HCq.out _ HB1.out).mono ?_
      rintro e w2 ⟨rfl, hb2⟩
      obtain ⟨d0, d1, d2, d3, d4, d5, e0, e1, e2⟩ := box3_cells (HB1.out.trans (hb2.mono HB1.out.size))
      have HB2 := Lib.hid hb2
      have hz2 := hb2.size
      clear hb2 c0 c1 c2 c3 c4 c5 f0 f1 f2
      have HBW := Lib.hid (show Below w.heap.size w w2 from (HAL.out.trans (HB1.out.mono (by simp; omega))).trans (HB2.out.mono (by omega)))
      go_wp2
      refine bodyPost_ret (v := .tuple #[patV none 0 0 false, .bool false]) (by simp [results, Tryz.results43, go_sem, d4, d5]) rfl ⟨none, [], 0, false, rfl, patR_zero _, ?_⟩
      exact (HBW.out.setCell (p := ⟨w.heap.size + 1 + 1, 0, none⟩) (by simp; omega) _).setCell (p := ⟨w.heap.size + 1 + 1, 1, none⟩) (by simp; omega) _
  · have hv0 : o = none := by rw [hv, if_neg]; intro h; exact hk1 h.1
    have t1 : ((k1 : Int) == 0) = false := by rw [beq_eq_false_iff_ne]; omega
    have t2 : ((k1 : Int) != 0) = true := by simpa using (show (k1 : Int) ≠ 0 by omega)
    subst hv0
    clear hv h12 h12' hk1
    go_enter Tryz.func43, Tryz.ntmps43
    go_wp2_with fail
    with_reducible refine (HCp.out _ (Below.refl _ _)).mono ?_
    rintro e w1 ⟨rfl, hb1⟩
    obtain ⟨d0, d1, d2, d3, d4, d5, e0, e1, e2⟩ := box3_cells hb1
    have hz1 := hb1.size
    have HB1 := Lib.hid hb1
    clear hb1
    simp at hz1
    have HBW := Lib.hid (show Below w.heap.size w w1 from HAL.out.trans (HB1.out.mono (by simp; omega)))
    go_wp2
    refine bodyPost_ret (v := .tuple #[patV none 0 0 false, .bool false]) (by simp [results, Tryz.results43, go_sem, d4, d5]) rfl ⟨none, [], 0, false, rfl, patR_zero _, ?_⟩
    exact (HBW.out.setCell (p := ⟨w.heap.size + 1 + 1, 0, none⟩) (by simp; omega) _).setCell (p := ⟨w.heap.size + 1 + 1, 1, none⟩) (by simp; omega) _
end Go.Proofs.YtembmegllpkmfaaGreatDoor
