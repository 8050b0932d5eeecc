/- region.simplified: the walk. -/
import Derived.Test.YtembmegllpkmfaaGreatDoorRegSimp
namespace Go.Proofs.YtembmegllpkmfaaGreatDoor
open Go.RowKit
set_option linter.unusedVariables false
/-- A simplified region that shares nothing. -/
def GivesGS (w : World) (g : Pt.Rg.Reg) (e : Ending) (w' : World) : Prop :=
  ∃ A xs c b H bl e', e = .returned (regV A (List.length xs) c b H (List.length bl) e') ∧ RegR w' A xs c b H bl e' g ∧ Below w.heap.size w w' ∧ FreshA w w' A ∧ FreshA w w' H ∧ ∀ x ∈ bl, FreshA w w' x.A
set_option maxHeartbeats 8000000 in
theorem simp_any (A : Option Addr) (xs : List ByteArray) (c : Nat) (b : Bool) (H : Option Addr) (bl : List BindV) (e : Nat) (g : Pt.Rg.Reg) (w : World) (hg : RegR w A xs c b H bl e g) (hs : ∀ h ∈ g.holes, ∀ x, Pt.meet g.base h = some x → shortP x) (hn : bl.length ≤ 1000000) (hxn : xs.length ≤ 1000000) :
    Calls Tryz.prog 29 #[regV A xs.length c b H bl.length e] w (GivesGS w g.simp) := by
  obtain ⟨W0, hW0⟩ : ∃ W0, W0 = (w.alloc (regObj A xs.length c b H bl.length e)).alloc (regObj none 0 0 false none 0 0) := ⟨_, rfl⟩
  have hal : Below w.heap.size w W0 := by rw [hW0]; exact ((Below.refl _ _).alloc (Nat.le_refl _) _).alloc (by simp) _
  have HAL := Lib.hid hal
  have hgb : GBox W0 w.heap.size A xs.length c b H bl.length e := by rw [hW0]; exact (GBox.new ..).keep ((Below.refl _ _).alloc (Nat.le_refl _) _)
  have HGB := Lib.hid hgb
  have hzb : GBox W0 (w.heap.size + 1) none 0 0 false none 0 0 := by
    have h := GBox.new (w.alloc (regObj A xs.length c b H bl.length e)) none 0 0 false none 0 0
    rw [hW0]
    simpa using h
  have HZB := Lib.hid hzb
  have HFZ : Hid (∀ i, W0.frozen? ⟨w.heap.size + 1, i, none⟩ = false) := Lib.hid fun i => by rw [hW0]; simp [regObj]
  have HEQ := Lib.hid hg.eq
  have HRG := Lib.hid (hg.keep hal)
  have HMT := Lib.hid (fun (k : Nat) (hk : k < bl.length) (w' : World) (hb : Below W0.heap.size W0 w') => meetF_any A bl[k].A xs bl[k].xs c bl[k].c b bl[k].b g.base bl[k].pat w' ((hg.keep hal).keep hb).base (((hg.keep hal).keep hb).holes.parts _ (List.getElem_mem hk)))
  have HS := Lib.hid hs
  have HXN := Lib.hid hxn
  have hcm := hg.holes.cm
  have hle := hg.holes.le
  have hmi : (bl.length : Int) ≤ 1000000 := by omega
  have hz : w.heap.size + 1 < W0.heap.size := by rw [hW0]; simp
  obtain ⟨t0, t1, t2, tl⟩ := hgb
  obtain ⟨nX, hX⟩ : ∃ n, n = xs.length := ⟨_, rfl⟩
  obtain ⟨nH, hH⟩ : ∃ n, n = bl.length := ⟨_, rfl⟩
  have HX := Lib.hid hX
  have HH := Lib.hid hH
  rw [← hX] at hW0 t0 ⊢
  rw [← hH] at hW0 t2 hmi ⊢
  clear hg hal hzb hs hxn hn hcm hle hX hH
  go_enter Tryz.func29, Tryz.ntmps29
  go_wp2
  generalize hwg : (w.alloc (regObj A nX c b H nH e)).alloc (regObj none 0 0 false none 0 0) = W
  have hWW : W = W0 := by rw [← hwg, hW0]
  subst hWW
  clear hwg hW0
  go_loopg [3, 11] nH (fun gg s3 s11 wx => ∃ (k n3 : Nat) (A3 : Option Addr) (e3 : Nat), k + gg = nH ∧ s3 = .slice A3 n3 e3 ∧ s11 = .int .i64 (k : Int) ∧ Below W.heap.size W wx ∧ Aside (∃ m : List BindV, n3 = m.length ∧ SInv W g.base (bl.map BindV.pat) wx A3 e3 m k))
  case atStart => exact ⟨0, 0, none, 0, by omega, rfl, rfl, Below.refl _ _, [], rfl, OwnP.empty _ _, rfl, fun x h => (by cases h), fun _ => ⟨rfl, rfl⟩, Nat.le_refl _⟩
  case round =>
    obtain ⟨k, n3, A3, e3, hk, rfl, rfl, hbw, HA⟩ := hrel
    obtain ⟨m, hm3, hI⟩ := HA.out
    have HI := Lib.hid hI
    have HM3 := Lib.hid hm3
    have HBW := Lib.hid hbw
    by_cases hkn : k < nH
    · have i1 : (k : Int) < (nH : Int) := by omega
      have hkb : k < bl.length := by rw [← HH.out]; exact hkn
      have HKH : Hid (k < (bl.map BindV.pat).length) := Lib.hid (by rw [List.length_map]; exact hkb)
      have HK := Lib.hid hkb
      obtain ⟨t0, t1, t2, tl⟩ := HGB.out.keep hbw
      obtain ⟨q, o, hA, hq, hcell⟩ := (HRG.out.holes.keep hbw).at (by omega)
      subst hA
      obtain ⟨e0, e1⟩ := hcell k hkb
      have hb1 : Below wr.heap.size wr (wr.alloc (.cells #[.slice bl[k].A bl[k].xs.length bl[k].c, .bool bl[k].b] 24)) := (Below.refl _ _).alloc (Nat.le_refl _) _
      have HC := HMT.out k hkb _ (hbw.trans (hb1.mono hbw.size))
      have HME : Hid (∀ r, Pt.meet g.base bl[k].pat = r → Pt.meet g.base ((bl.map BindV.pat)[k]'HKH.out) = r) := Lib.hid (by intro r h; rw [List.getElem_map]; exact h)
      have HB1 := Lib.hid hb1
      generalize hor : Pt.meet g.base bl[k].pat = o' at HC
      have HOR := Lib.hid (HME.out _ hor)
      have HC := Lib.hid HC
      clear hcell hbw hb1 hor HME hI hm3
      generalize bl[k] = y at *
      clear hkb
      go_wp2_with fail
      with_reducible refine HC.out.mono ?_
      intro en w2 hh
      obtain ⟨A6, xs6, c6, b6, rfl, hp6, hb2, hf6⟩ := hh
      have HP6 := Lib.hid hp6
      have HB2 := Lib.hid hb2
      have HF6 := Lib.hid hf6
      have HW2 : Hid (Below W.heap.size W w2) := Lib.hid (HBW.out.trans ((HB1.out.trans (hb2.mono HB1.out.size)).mono HBW.out.size))
      clear hp6 hf6 t0 t1 t2 tl e0 e1
      have hb2s := hb2.size
      cases o' with
      | none =>
        clear hb2
        go_wp2
        go_roundg (nH - (k + 1))
        case measure => go_light; omega
        case rel =>
          go_light
          have hbx := (HB1.out.trans (HB2.out.mono HB1.out.size)).trans (((Below.refl w2.heap.size w2).alloc (Nat.le_refl _) (.cells #[.slice A6 xs6.length c6, .bool b6] 24)).mono (Nat.le_trans HB1.out.size HB2.out.size))
          exact ⟨k + 1, n3, A3, e3, by omega, rfl, by go_num, HBW.out.trans (hbx.mono HBW.out.size), m, HM3.out, HI.out.skip hbx HKH.out (step_none HOR.out)⟩
      | some p =>
        obtain ⟨W2, hW2⟩ : ∃ W2, W2 = w2.alloc (.cells #[.slice A6 xs6.length c6, .bool b6] 24) := ⟨_, rfl⟩
        have hal2 : Below w2.heap.size w2 W2 := by rw [hW2]; exact (Below.refl _ _).alloc (Nat.le_refl _) _
        have hbx : Below wr.heap.size wr W2 := (HB1.out.trans (HB2.out.mono HB1.out.size)).trans (hal2.mono (Nat.le_trans HB1.out.size HB2.out.size))
        have hpb : PBox W2 w2.heap.size A6 xs6.length c6 b6 := by rw [hW2]; exact PBox.new ..
        have hpp : PatR W2 A6 xs6 c6 b6 p := (show PatR w2 A6 xs6 c6 b6 p from HP6.out).keep hal2
        have hoo := HI.out.own.below hbx
        have HBX := Lib.hid hbx
        have HPB := Lib.hid hpb
        have HPP := Lib.hid hpp
        have HOO := Lib.hid hoo
        have hlo : ∀ gg, (Value.slice A3 m.length e3).ownBlock = some gg → gg < wr.heap.size := fun gg h => (HI.out.own.lt gg h).2
        have hw12 : wr.heap.size ≤ w2.heap.size := Nat.le_trans HB1.out.size HB2.out.size
        have hfr6 : ∀ a, A6 = some a → wr.heap.size ≤ a.block ∧ a.block < w2.heap.size := fun a ha => ⟨Nat.le_trans HB1.out.size (HF6.out a ha).1, (HF6.out a ha).2⟩
        have HFR6 := Lib.hid hfr6
        have HLO := Lib.hid hlo
        have HCF := contF_s1 (.pointer (some ⟨w2.heap.size, 0, none⟩)) (fun j => (m[j]?.map fun x => Pt.within p x.pat).getD false) A3 m e3 W2 hoo.rdB (fun j hj w' hb => by
          rw [List.getElem?_eq_getElem hj]
          exact s1_any A6 m[j].A xs6 m[j].xs c6 m[j].c b6 m[j].b p m[j].pat w2.heap.size w' (hpb.keep hb) (hpp.keep hb) ((hoo.parts _ (List.getElem_mem hj)).keep hb)) (m.any fun x => Pt.within p x.pat) (any_opt m _)
        have HDF := Lib.hid (fun (w4 : World) (hb4 : Below W2.heap.size W2 w4) => delF_round W.heap.size e3 wr.heap.size w2.heap.size A3 m w4 A6 xs6 c6 b6 p (hoo.below hb4) (hpb.keep hb4) (hpp.keep hb4) hlo hw12 (fun a ha => (hfr6 a ha).1))
        rw [← HM3.out] at HCF HDF
        have HCF := Lib.hid HCF
        clear hb2 hpb hpp hoo hlo hfr6 hbx
        generalize hva : m.any (fun x => Pt.within p x.pat) = va at HCF
        have HVA := Lib.hid hva
        clear hva
        subst hW2
        go_wp2_with fail
        with_reducible refine HCF.out.mono ?_
        rintro en w4 ⟨rfl, hb4⟩
        have HB4 := Lib.hid hb4
        have HDF4 := Lib.hid (HDF.out w4 hb4)
        clear hb4
        cases va with
        | true =>
          clear HDF4
          go_wp2
          go_roundg (nH - (k + 1))
          case measure => go_light; omega
          case rel =>
            go_light
            have hby := HBX.out.trans (HB4.out.mono HBX.out.size)
            exact ⟨k + 1, n3, A3, e3, by omega, rfl, by go_num, HBW.out.trans (hby.mono HBW.out.size), m, HM3.out, HI.out.skip hby HKH.out (step_in HOR.out HVA.out)⟩
        | false =>
          go_wp2_with fail
          with_reducible refine HDF4.out.mono ?_
          rintro en w5 ⟨bl', rfl, hbl', hown5, hpb5, hpp5, hg5⟩
          have HBL := Lib.hid hbl'
          have HO5 := Lib.hid hown5
          have HG5 := Lib.hid hg5
          have HP5 := Lib.hid hpp5
          obtain ⟨u0, u1, ul⟩ := hpb5
          have hsz5 : w2.heap.size ≤ w5.heap.size := Nat.le_of_lt ul
          have HLO5 : Hid (∀ gg, (Value.slice A3 bl'.length e3).ownBlock = some gg → gg < wr.heap.size) := Lib.hid fun gg h => HLO.out gg (by rw [own_block A3 m.length bl'.length]; exact h)
          have HAP := Lib.hid (one_apart (xs6 := xs6) (c6 := c6) (b6 := b6) HLO5.out (fun a ha => ⟨(HFR6.out a ha).1, Nat.lt_of_lt_of_le (HFR6.out a ha).2 (Nat.le_succ_of_le hsz5)⟩))
          have HNN := Lib.hid (filt_le (p := p) HBL.out HI.out.len (by omega))
          have HBS : Hid (W.heap.size ≤ w5.heap.size) := Lib.hid (Nat.le_trans HW2.out.size hsz5)
          have HYP : Hid ((⟨A6, xs6, c6, b6⟩ : BindV).pat = p) := Lib.hid HP5.out.pat
          have HNP := Lib.hid (newP w5 ⟨A6, xs6, c6, b6⟩ (by rw [HYP.out]; exact HP5.out))
          have HS5 := Lib.hid hsz5
          clear hbl' hown5 hg5 hpp5
          go_wp2_with (refine wpList_append_pt rfl _ _ rfl W.heap.size (.slice A3 bl'.length e3) bl' rfl (HO5.out.below ((Below.refl _ _).alloc (Nat.le_refl _) _)) (some ⟨w5.heap.size, 0, none⟩) [⟨A6, xs6, c6, b6⟩] 1 1 rfl rfl HNP.out (by simpa using HAP.out) HNN.out (by simpa using Nat.le_succ_of_le HBS.out) ?_; intro v9 w9 hown9 hb9 hg9)
          obtain ⟨A9, e9, hv9, _⟩ := hown9.form
          subst hv9
          go_roundg (nH - (k + 1))
          case measure => go_light; omega
          case rel =>
            go_light
            have q1 : Below W.heap.size W w4 := (HBW.out.trans (HBX.out.mono HBW.out.size)).trans (HB4.out.mono (Nat.le_trans HBW.out.size HBX.out.size))
            have q2 : Below W.heap.size w4 w5 := below_row HG5.out (fun gg h => (HI.out.own.lt gg (by rw [own_block A3 m.length n3]; exact h)).1) q1.size
            have q3 : Below W.heap.size W w9 := ((q1.trans q2).trans (((Below.refl w5.heap.size w5).alloc (Nat.le_refl _) _).mono HBS.out)).trans hb9
            have q4 : w5.heap.size ≤ w9.heap.size := Nat.le_trans (((Below.refl w5.heap.size w5).alloc (Nat.le_refl _) _).size) hb9.size
            have q5 : wr.heap.size ≤ w9.heap.size := Nat.le_trans (Nat.le_trans hw12 HS5.out) q4
            have q6 : FreshA W w9 A6 := fun a ha => ⟨Nat.le_trans HBW.out.size (HFR6.out a ha).1, Nat.lt_of_lt_of_le (HFR6.out a ha).2 (Nat.le_trans HS5.out q4)⟩
            exact ⟨k + 1, _, A9, e9, by omega, rfl, by go_num, q3, bl' ++ [⟨A6, xs6, c6, b6⟩], rfl, HI.out.add HKH.out HOR.out HVA.out HBL.out HYP.out hown9 q6 q5⟩
    · have i1 : ¬ (k : Int) < (nH : Int) := by omega
      have hkk : k = (bl.map BindV.pat).length := by rw [List.length_map, ← HH.out]; omega
      have HID : Hid (SInv W g.base (bl.map BindV.pat) wr A3 e3 m (bl.map BindV.pat).length) := Lib.hid (by rw [← hkk]; exact hI)
      have hso := sort_any W.heap.size e3 A3 m wr HID.out.own (fun x hx => (Pt.Rg.met_ok (HID.out.met x hx)).1) (fun x hx => by
        obtain ⟨h, hh, he⟩ := Pt.Rg.met_mem.1 (HID.out.met x hx)
        exact HS.out h (by rw [← HEQ.out]; exact hh) _ he) (by have := hI.len; omega) HID.out.nil
      rw [← hm3] at hso
      have HSO := Lib.hid hso
      clear hso hkk hI hbw hm3
      go_wp2_with fail
      with_reducible refine HSO.out.mono ?_
      rintro en w7 ⟨rfl, bl', hperm, hpw, hown7, hb7⟩
      have hw7 := HBW.out.trans hb7
      have HW7 := Lib.hid hw7
      have HSM := Lib.hid (HID.out.done hperm hpw)
      have HPL := Lib.hid hperm.length_eq
      have HO7 := Lib.hid hown7
      have HFX : Hid (∀ x ∈ bl', FreshA W w7 x.A) := Lib.hid fun x hx => (HID.out.fresh x (hperm.mem_iff.1 hx)).more hb7.size
      obtain ⟨v0, v1, v2, vl⟩ := HGB.out.keep hw7
      obtain ⟨z0, z1, z2, zl⟩ := HZB.out.keep hw7
      have y0 := (hw7.frozen (p := ⟨w.heap.size + 1, 0, none⟩) hz).trans (HFZ.out 0)
      have y1 := (hw7.frozen (p := ⟨w.heap.size + 1, 1, none⟩) hz).trans (HFZ.out 1)
      have y2 := (hw7.frozen (p := ⟨w.heap.size + 1, 2, none⟩) hz).trans (HFZ.out 2)
      have hcl := clone_all A xs c w7.drew (HRG.out.base.keep (below_drew hw7)).rd HXN.out
      have HCL := Lib.hid hcl
      clear hcl hperm hpw hown7 hb7 hw7 t0 t1 t2 tl
      go_upto_region 11 with fail
      go_region_held3 (fun w' => w'.cell? ⟨w.heap.size, 0, none⟩ = some (.slice A xs.length c) ∧ w'.cell? ⟨w.heap.size, 1, none⟩ = some (.bool b))
        (first | exact ⟨(hb.cell (p := ⟨w.heap.size, 0, none⟩) (by exact vl)).trans v0, (hb.cell (p := ⟨w.heap.size, 1, none⟩) (by exact vl)).trans v1⟩ | go_keep)
        ((go_at_call 72; have hcc := HCL.out; with_reducible refine hcc.mono ?_; intro e w' hh; obtain ⟨C, cz, rfl, hf1, hf2, hf3, hf4, hf5, hb⟩ := hh
          have k2 := (hb.cell (p := ⟨w.heap.size + 1, 0, none⟩) (by exact zl)).trans z0
          have k3 := (hb.cell (p := ⟨w.heap.size + 1, 1, none⟩) (by exact zl)).trans z1
          have k6 := (hb.cell (p := ⟨w.heap.size + 1, 2, none⟩) (by exact zl)).trans z2
          have k4 := (hb.frozen (p := ⟨w.heap.size + 1, 0, none⟩) (by exact zl)).trans y0
          have k5 := (hb.frozen (p := ⟨w.heap.size + 1, 1, none⟩) (by exact zl)).trans y1
          have k7 := (hb.frozen (p := ⟨w.heap.size + 1, 2, none⟩) (by exact zl)).trans y2
          have F1 := Lib.hid hf1
          have F2 := Lib.hid hf2
          have F3 := Lib.hid hf3
          have F4 := Lib.hid hf4
          have F5 := Lib.hid hf5
          clear hf1 hf2 hf3 hf4 hf5))
      all_goals go_wp2
      have hn3 : n3 = bl'.length := HM3.out.trans HPL.out.symm
      refine bodyPost_ret (v := regV C xs.length cz b A3 n3 e3) (by simp [results, Tryz.results29, go_sem, k2, k3, k6, regV]) rfl ?_
      have hb7' : Below w7.heap.size w7 w' := (show Below w7.heap.size w7 w7.drew from ⟨rfl, rfl, rfl, Nat.le_refl _, fun _ _ => rfl⟩).trans hb
      have hfin := simp_fin (q := w.heap.size + 1) (g := g) (Nat.le_succ _) hz HRG.out.base F1.out F2.out F3.out F4.out (fun a ha => ⟨Nat.le_trans HW7.out.size (F5.out a ha).1, (F5.out a ha).2⟩) (OwnP.below (by rw [← hn3]; exact HO7.out : OwnP w7 W.heap.size (.slice A3 bl'.length e3) bl') hb7') (by rw [HSM.out, HEQ.out]) (fun x hx => (HFX.out x hx).more hb7'.size)
        (HAL.out.trans ((HW7.out.mono HAL.out.size).trans (hb7'.mono (Nat.le_trans HAL.out.size HW7.out.size)))) (.slice C xs.length cz) (.bool b) (.slice A3 n3 e3) _ rfl
      exact ⟨C, xs, cz, b, A3, bl', e3, by rw [hn3], hfin.1, hfin.2.1, hfin.2.2.1, hfin.2.2.2.1, hfin.2.2.2.2⟩
end Go.Proofs.YtembmegllpkmfaaGreatDoor
