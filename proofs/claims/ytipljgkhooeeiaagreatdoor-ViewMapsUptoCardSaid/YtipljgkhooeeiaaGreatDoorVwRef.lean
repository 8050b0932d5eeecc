/- The contracts of the reference's Related, Decides, Forward of views. -/
import Derived.Test.YtipljgkhooeeiaaGreatDoorVwFn2
namespace Go.Proofs.YtipljgkhooeeiaaGreatDoor
open Go.RowKit

theorem rmatchV_any (A : Option Addr) (xs : List ByteArray) (c : Nat) (b : Bool) (p : Pt.Pat) (s : ByteArray) (w : World) (hp : PatR w A xs c b p) (hs : s.size < 4294967281) (hm : MaxL w) (j : Bool) (hj : (Pt.matchP p s.data.toList).isSome = j) :
    Calls Tryz.prog 35 #[patV A xs.length c b, .string s] w fun e w' => ∃ v, e = .returned (.tuple #[v, .bool j]) ∧ Below w.heap.size w w' := by
  subst hj
  refine (rmatch_any A xs c b p s w hp hs hm).mono fun e w' h => ?_
  cases ho : Pt.matchP p s.data.toList with
  | none => rw [ho] at h; obtain ⟨rfl, hb⟩ := h; exact ⟨_, rfl, hb⟩
  | some l => rw [ho] at h; obtain ⟨_, rfl, A2, zs, c2, rfl, _, _, _, _, hb⟩ := h; exact ⟨_, rfl, hb⟩
set_option maxRecDepth 100000 in
set_option maxHeartbeats 8000000 in
theorem qrelated_any (A : Option Addr) (rl : List RulV) (c : Nat) (s t : ByteArray) (w : World) (hr : RdV w A rl c) (hz : SzV 100000 rl) (hs : s.size ≤ 100000) (ht : t.size ≤ 4000000) (hm : MaxL w) :
    Calls Tryz.prog 85 #[.slice A rl.length c, .string s, .string t] w (GivesBB w (Pt.Vw.related (rl.map RulV.rul) s.data.toList t.data.toList)) := by
  have HR := Lib.hid hr
  have hcm := hr.cm
  have hle := hr.le
  have hmi : (rl.length : Int) ≤ 9223372036854775807 := by unfold maxLen at hcm; omega
  have HF := Lib.hid (fun (k : Nat) (hk : k < rl.length) (w' : World) (hb : Below w.heap.size w w') => qfwd_any rl[k].ex rl[k].A rl[k].xs rl[k].c rl[k].b rl[k].B rl[k].ys rl[k].d rl[k].f rl[k].rul s w' ((hr.keep hb).parts _ (List.getElem_mem hk)) (hz _ (List.getElem_mem hk)).2 hs (hm.keep hb hm.size))
  have HML0 := Lib.hid (fun (k : Nat) (hk : k < rl.length) (j : Bool) (hj : Pt.Vw.lm rl[k].rul s.data.toList = j) (w' : World) (hb : Below w.heap.size w w') => rmatchV_any rl[k].A rl[k].xs rl[k].c rl[k].b rl[k].rul.left s w' ((hr.keep hb).parts _ (List.getElem_mem hk)).left (by omega) (hm.keep hb hm.size) j hj)
  have HMR0 := Lib.hid (fun (k : Nat) (hk : k < rl.length) (j : Bool) (hj : Pt.Vw.rm rl[k].rul t.data.toList = j) (w' : World) (hb : Below w.heap.size w w') => rmatchV_any rl[k].B rl[k].ys rl[k].d rl[k].f rl[k].rul.right t w' ((hr.keep hb).parts _ (List.getElem_mem hk)).right (by omega) (hm.keep hb hm.size) j hj)
  have HST := Lib.hid (fun (k : Nat) (hk : k < rl.length) => show Pt.Vw.related ((rl.map RulV.rul).take (k + 1)) s.data.toList t.data.toList = if Pt.fwd rl[k].rul s.data.toList = some t.data.toList ∧ rl[k].ex = false then true else if Pt.Vw.lm rl[k].rul s.data.toList = true ∨ Pt.Vw.rm rl[k].rul t.data.toList = true then false else Pt.Vw.related ((rl.map RulV.rul).take k) s.data.toList t.data.toList from by
    have h := Pt.Vw.related_take (rl.map RulV.rul) s.data.toList t.data.toList k (by rw [List.length_map]; exact hk)
    rw [List.getElem_map] at h
    exact h)
  obtain ⟨v, hv⟩ : ∃ v, v = Pt.Vw.related (rl.map RulV.rul) s.data.toList t.data.toList := ⟨_, rfl⟩
  rw [← hv]
  have HV := Lib.hid (show Pt.Vw.related ((rl.map RulV.rul).take rl.length) s.data.toList t.data.toList = v from by rw [List.take_of_length_le (by rw [List.length_map]; exact Nat.le_refl _), hv])
  clear hr hz hs ht hm hv hcm hle
  go_enter Tryz.func85, Tryz.ntmps85
  go_wp2
  go_loopg [7] rl.length (fun gg s7 wx => ∃ (k : Nat), k = gg ∧ k ≤ rl.length ∧ s7 = .int .i64 ((k : Int) - 1) ∧ Below w.heap.size w wx ∧ Aside (Pt.Vw.related ((rl.map RulV.rul).take k) s.data.toList t.data.toList = v))
  case atStart => exact ⟨rl.length, rfl, Nat.le_refl _, by go_num, Below.refl _ _, HV.out⟩
  case round =>
    obtain ⟨k0, rfl, hkl, rfl, hbw, HA⟩ := hrel
    have HBW := Lib.hid hbw
    cases k0 with
    | zero =>
      have hz := HA.out
      rw [List.take_zero, Pt.Vw.related_nil] at hz
      subst hz
      rw [show ((0 : Nat) : Int) - 1 = -1 from rfl]
      clear hbw
      go_wp2
      go_ret
      exact ⟨rfl, HBW.out⟩
    | succ k =>
      rw [show ((k + 1 : Nat) : Int) - 1 = (k : Int) by omega]
      have i1 : (0 : Int) ≤ (k : Int) := Int.natCast_nonneg _
      have hk : k < rl.length := by omega
      have i2 : (k : Int) < (rl.length : Int) := by omega
      obtain ⟨q, o, hA, hq, hcell⟩ := (HR.out.keep hbw).at (by omega)
      subst hA
      obtain ⟨e0, e1, e2, e3, e4⟩ := hcell k hk
      have HQ := Lib.hid (fun (w' : World) (hb : Below wr.heap.size wr w') => show w'.cell? ⟨q, o + k * 5, none⟩ = some (.bool rl[k].ex) ∧ w'.cell? ⟨q, o + k * 5 + 1, none⟩ = some (.slice rl[k].A rl[k].xs.length rl[k].c) ∧ w'.cell? ⟨q, o + k * 5 + 2, none⟩ = some (.bool rl[k].b) ∧ w'.cell? ⟨q, o + k * 5 + 3, none⟩ = some (.slice rl[k].B rl[k].ys.length rl[k].d) ∧ w'.cell? ⟨q, o + k * 5 + 4, none⟩ = some (.bool rl[k].f) from ⟨(hb.cell (p := ⟨q, o + k * 5, none⟩) hq).trans e0, (hb.cell (p := ⟨q, o + k * 5 + 1, none⟩) hq).trans e1, (hb.cell (p := ⟨q, o + k * 5 + 2, none⟩) hq).trans e2, (hb.cell (p := ⟨q, o + k * 5 + 3, none⟩) hq).trans e3, (hb.cell (p := ⟨q, o + k * 5 + 4, none⟩) hq).trans e4⟩)
      have hst := HST.out k hk
      have HF1 := Lib.hid (HF.out k hk wr hbw)
      have HL0 := Lib.hid (fun (j : Bool) (hj : Pt.Vw.lm rl[k].rul s.data.toList = j) (w' : World) (hb : Below wr.heap.size wr w') => HML0.out k hk j hj w' (hbw.trans (hb.mono hbw.size)))
      have HR0 := Lib.hid (fun (j : Bool) (hj : Pt.Vw.rm rl[k].rul t.data.toList = j) (w' : World) (hb : Below wr.heap.size wr w') => HMR0.out k hk j hj w' (hbw.trans (hb.mono hbw.size)))
      clear hcell hbw
      cases ho : Pt.fwd rl[k].rul s.data.toList with
      | none =>
        rw [ho] at HF1 hst
        unfold GivesFw at HF1
        simp only [Option.getD_none, Option.isSome_none] at HF1
        rw [if_neg (by rintro ⟨h, _⟩; cases h)] at hst
        clear ho
        cases hl : Pt.Vw.lm rl[k].rul s.data.toList with
        | true =>
          cases hr2 : Pt.Vw.rm rl[k].rul t.data.toList with
          | true =>
            have HML := Lib.hid (fun w' hb => HL0.out true hl w' hb)
            have HMR := Lib.hid (fun w' hb => HR0.out true hr2 w' hb)
            rw [hl, hr2] at hst
            have hv : v = false := HA.out.symm.trans (hst.trans (by simp))
            subst hv
            clear hl hr2 hst
            go_wp2_with fail
            with_reducible refine HF1.out.mono ?_
            rintro e w1 ⟨rfl, hb⟩
            obtain ⟨r0, r1, r2, r3, r4⟩ := HQ.out w1 hb
            have HB1 := Lib.hid hb
            clear hb
            go_wp2_with fail
            with_reducible refine (HML.out w1 HB1.out).mono ?_
            rintro e w2 ⟨v1, rfl, hb⟩
            obtain ⟨r0, r1, r2, r3, r4⟩ := HQ.out w2 (HB1.out.trans (hb.mono HB1.out.size))
            have HB2 := Lib.hid (HB1.out.trans (hb.mono HB1.out.size))
            clear hb
            go_wp2_with fail
            with_reducible refine (HMR.out w2 HB2.out).mono ?_
            rintro e w3 ⟨v2, rfl, hb⟩
            obtain ⟨r0, r1, r2, r3, r4⟩ := HQ.out w3 (HB2.out.trans (hb.mono HB2.out.size))
            have HB3 := Lib.hid (HB2.out.trans (hb.mono HB2.out.size))
            clear hb
            go_wp2
            go_ret
            exact ⟨rfl, HBW.out.trans (HB3.out.mono HBW.out.size)⟩
          | false =>
            have HML := Lib.hid (fun w' hb => HL0.out true hl w' hb)
            have HMR := Lib.hid (fun w' hb => HR0.out false hr2 w' hb)
            rw [hl, hr2] at hst
            have hv : v = false := HA.out.symm.trans (hst.trans (by simp))
            subst hv
            clear hl hr2 hst
            go_wp2_with fail
            with_reducible refine HF1.out.mono ?_
            rintro e w1 ⟨rfl, hb⟩
            obtain ⟨r0, r1, r2, r3, r4⟩ := HQ.out w1 hb
            have HB1 := Lib.hid hb
            clear hb
            go_wp2_with fail
            with_reducible refine (HML.out w1 HB1.out).mono ?_
            rintro e w2 ⟨v1, rfl, hb⟩
            obtain ⟨r0, r1, r2, r3, r4⟩ := HQ.out w2 (HB1.out.trans (hb.mono HB1.out.size))
            have HB2 := Lib.hid (HB1.out.trans (hb.mono HB1.out.size))
            clear hb
            go_wp2_with fail
            with_reducible refine (HMR.out w2 HB2.out).mono ?_
            rintro e w3 ⟨v2, rfl, hb⟩
            obtain ⟨r0, r1, r2, r3, r4⟩ := HQ.out w3 (HB2.out.trans (hb.mono HB2.out.size))
            have HB3 := Lib.hid (HB2.out.trans (hb.mono HB2.out.size))
            clear hb
            go_wp2
            go_ret
            exact ⟨rfl, HBW.out.trans (HB3.out.mono HBW.out.size)⟩
        | false =>
          cases hr2 : Pt.Vw.rm rl[k].rul t.data.toList with
          | true =>
            have HML := Lib.hid (fun w' hb => HL0.out false hl w' hb)
            have HMR := Lib.hid (fun w' hb => HR0.out true hr2 w' hb)
            rw [hl, hr2] at hst
            have hv : v = false := HA.out.symm.trans (hst.trans (by simp))
            subst hv
            clear hl hr2 hst
            go_wp2_with fail
            with_reducible refine HF1.out.mono ?_
            rintro e w1 ⟨rfl, hb⟩
            obtain ⟨r0, r1, r2, r3, r4⟩ := HQ.out w1 hb
            have HB1 := Lib.hid hb
            clear hb
            go_wp2_with fail
            with_reducible refine (HML.out w1 HB1.out).mono ?_
            rintro e w2 ⟨v1, rfl, hb⟩
            obtain ⟨r0, r1, r2, r3, r4⟩ := HQ.out w2 (HB1.out.trans (hb.mono HB1.out.size))
            have HB2 := Lib.hid (HB1.out.trans (hb.mono HB1.out.size))
            clear hb
            go_wp2_with fail
            with_reducible refine (HMR.out w2 HB2.out).mono ?_
            rintro e w3 ⟨v2, rfl, hb⟩
            obtain ⟨r0, r1, r2, r3, r4⟩ := HQ.out w3 (HB2.out.trans (hb.mono HB2.out.size))
            have HB3 := Lib.hid (HB2.out.trans (hb.mono HB2.out.size))
            clear hb
            go_wp2
            go_ret
            exact ⟨rfl, HBW.out.trans (HB3.out.mono HBW.out.size)⟩
          | false =>
            have HML := Lib.hid (fun w' hb => HL0.out false hl w' hb)
            have HMR := Lib.hid (fun w' hb => HR0.out false hr2 w' hb)
            rw [hl, hr2] at hst
            have HNX := Lib.hid (show Pt.Vw.related ((rl.map RulV.rul).take k) s.data.toList t.data.toList = v from by rw [← HA.out, hst]; simp)
            clear hl hr2 hst
            go_wp2_with fail
            with_reducible refine HF1.out.mono ?_
            rintro e w1 ⟨rfl, hb⟩
            obtain ⟨r0, r1, r2, r3, r4⟩ := HQ.out w1 hb
            have HB1 := Lib.hid hb
            clear hb
            go_wp2_with fail
            with_reducible refine (HML.out w1 HB1.out).mono ?_
            rintro e w2 ⟨v1, rfl, hb⟩
            obtain ⟨r0, r1, r2, r3, r4⟩ := HQ.out w2 (HB1.out.trans (hb.mono HB1.out.size))
            have HB2 := Lib.hid (HB1.out.trans (hb.mono HB1.out.size))
            clear hb
            go_wp2_with fail
            with_reducible refine (HMR.out w2 HB2.out).mono ?_
            rintro e w3 ⟨v2, rfl, hb⟩
            obtain ⟨r0, r1, r2, r3, r4⟩ := HQ.out w3 (HB2.out.trans (hb.mono HB2.out.size))
            have HB3 := Lib.hid (HB2.out.trans (hb.mono HB2.out.size))
            clear hb
            go_wp2
            go_roundg k
            case measure => go_light; omega
            case rel =>
              go_light
              exact ⟨k, rfl, by omega, by go_num, HBW.out.trans (HB3.out.mono HBW.out.size), (show Aside _ from HNX.out)⟩
      | some cc =>
        rw [ho] at HF1 hst
        unfold GivesFw at HF1
        simp only [Option.getD_some, Option.isSome_some] at HF1
        clear ho
        by_cases hcc : cc = t.data.toList
        · have hS : (⟨cc.toArray⟩ : ByteArray) = t := ba_ext (by simp [hcc])
          rw [hS] at HF1
          rw [hcc] at hst
          cases hex : rl[k].ex with
          | false =>
            rw [hex, if_pos ⟨rfl, rfl⟩] at hst
            have hv := HA.out.symm.trans hst
            subst hv
            have HEX := Lib.hid hex
            clear hst hex hcc hS
            go_wp2_with fail
            with_reducible refine HF1.out.mono ?_
            rintro e w1 ⟨rfl, hb⟩
            obtain ⟨r0, r1, r2, r3, r4⟩ := HQ.out w1 hb
            rw [HEX.out] at r0
            have HB1 := Lib.hid hb
            clear hb
            go_wp2
            go_ret
            exact ⟨rfl, HBW.out.trans (HB1.out.mono HBW.out.size)⟩
          | true =>
            rw [hex, if_neg (by rintro ⟨_, h⟩; cases h)] at hst
            have HEX := Lib.hid hex
            clear hex hcc hS
            cases hl : Pt.Vw.lm rl[k].rul s.data.toList with
            | true =>
              cases hr2 : Pt.Vw.rm rl[k].rul t.data.toList with
              | true =>
                have HML := Lib.hid (fun w' hb => HL0.out true hl w' hb)
                have HMR := Lib.hid (fun w' hb => HR0.out true hr2 w' hb)
                rw [hl, hr2] at hst
                have hv : v = false := HA.out.symm.trans (hst.trans (by simp))
                subst hv
                clear hl hr2 hst
                go_wp2_with fail
                with_reducible refine HF1.out.mono ?_
                rintro e w1 ⟨rfl, hb⟩
                obtain ⟨r0, r1, r2, r3, r4⟩ := HQ.out w1 hb
                rw [HEX.out] at r0
                have HB1 := Lib.hid hb
                clear hb
                go_wp2_with fail
                with_reducible refine (HML.out w1 HB1.out).mono ?_
                rintro e w2 ⟨v1, rfl, hb⟩
                obtain ⟨r0, r1, r2, r3, r4⟩ := HQ.out w2 (HB1.out.trans (hb.mono HB1.out.size))
                have HB2 := Lib.hid (HB1.out.trans (hb.mono HB1.out.size))
                clear hb
                go_wp2_with fail
                with_reducible refine (HMR.out w2 HB2.out).mono ?_
                rintro e w3 ⟨v2, rfl, hb⟩
                obtain ⟨r0, r1, r2, r3, r4⟩ := HQ.out w3 (HB2.out.trans (hb.mono HB2.out.size))
                have HB3 := Lib.hid (HB2.out.trans (hb.mono HB2.out.size))
                clear hb
                go_wp2
                go_ret
                exact ⟨rfl, HBW.out.trans (HB3.out.mono HBW.out.size)⟩
              | false =>
                have HML := Lib.hid (fun w' hb => HL0.out true hl w' hb)
                have HMR := Lib.hid (fun w' hb => HR0.out false hr2 w' hb)
                rw [hl, hr2] at hst
                have hv : v = false := HA.out.symm.trans (hst.trans (by simp))
                subst hv
                clear hl hr2 hst
                go_wp2_with fail
                with_reducible refine HF1.out.mono ?_
                rintro e w1 ⟨rfl, hb⟩
                obtain ⟨r0, r1, r2, r3, r4⟩ := HQ.out w1 hb
                rw [HEX.out] at r0
                have HB1 := Lib.hid hb
                clear hb
                go_wp2_with fail
                with_reducible refine (HML.out w1 HB1.out).mono ?_
                rintro e w2 ⟨v1, rfl, hb⟩
                obtain ⟨r0, r1, r2, r3, r4⟩ := HQ.out w2 (HB1.out.trans (hb.mono HB1.out.size))
                have HB2 := Lib.hid (HB1.out.trans (hb.mono HB1.out.size))
                clear hb
                go_wp2_with fail
                with_reducible refine (HMR.out w2 HB2.out).mono ?_
                rintro e w3 ⟨v2, rfl, hb⟩
                obtain ⟨r0, r1, r2, r3, r4⟩ := HQ.out w3 (HB2.out.trans (hb.mono HB2.out.size))
                have HB3 := Lib.hid (HB2.out.trans (hb.mono HB2.out.size))
                clear hb
                go_wp2
                go_ret
                exact ⟨rfl, HBW.out.trans (HB3.out.mono HBW.out.size)⟩
            | false =>
              cases hr2 : Pt.Vw.rm rl[k].rul t.data.toList with
              | true =>
                have HML := Lib.hid (fun w' hb => HL0.out false hl w' hb)
                have HMR := Lib.hid (fun w' hb => HR0.out true hr2 w' hb)
                rw [hl, hr2] at hst
                have hv : v = false := HA.out.symm.trans (hst.trans (by simp))
                subst hv
                clear hl hr2 hst
                go_wp2_with fail
                with_reducible refine HF1.out.mono ?_
                rintro e w1 ⟨rfl, hb⟩
                obtain ⟨r0, r1, r2, r3, r4⟩ := HQ.out w1 hb
                rw [HEX.out] at r0
                have HB1 := Lib.hid hb
                clear hb
                go_wp2_with fail
                with_reducible refine (HML.out w1 HB1.out).mono ?_
                rintro e w2 ⟨v1, rfl, hb⟩
                obtain ⟨r0, r1, r2, r3, r4⟩ := HQ.out w2 (HB1.out.trans (hb.mono HB1.out.size))
                have HB2 := Lib.hid (HB1.out.trans (hb.mono HB1.out.size))
                clear hb
                go_wp2_with fail
                with_reducible refine (HMR.out w2 HB2.out).mono ?_
                rintro e w3 ⟨v2, rfl, hb⟩
                obtain ⟨r0, r1, r2, r3, r4⟩ := HQ.out w3 (HB2.out.trans (hb.mono HB2.out.size))
                have HB3 := Lib.hid (HB2.out.trans (hb.mono HB2.out.size))
                clear hb
                go_wp2
                go_ret
                exact ⟨rfl, HBW.out.trans (HB3.out.mono HBW.out.size)⟩
              | false =>
                have HML := Lib.hid (fun w' hb => HL0.out false hl w' hb)
                have HMR := Lib.hid (fun w' hb => HR0.out false hr2 w' hb)
                rw [hl, hr2] at hst
                have HNX := Lib.hid (show Pt.Vw.related ((rl.map RulV.rul).take k) s.data.toList t.data.toList = v from by rw [← HA.out, hst]; simp)
                clear hl hr2 hst
                go_wp2_with fail
                with_reducible refine HF1.out.mono ?_
                rintro e w1 ⟨rfl, hb⟩
                obtain ⟨r0, r1, r2, r3, r4⟩ := HQ.out w1 hb
                rw [HEX.out] at r0
                have HB1 := Lib.hid hb
                clear hb
                go_wp2_with fail
                with_reducible refine (HML.out w1 HB1.out).mono ?_
                rintro e w2 ⟨v1, rfl, hb⟩
                obtain ⟨r0, r1, r2, r3, r4⟩ := HQ.out w2 (HB1.out.trans (hb.mono HB1.out.size))
                have HB2 := Lib.hid (HB1.out.trans (hb.mono HB1.out.size))
                clear hb
                go_wp2_with fail
                with_reducible refine (HMR.out w2 HB2.out).mono ?_
                rintro e w3 ⟨v2, rfl, hb⟩
                obtain ⟨r0, r1, r2, r3, r4⟩ := HQ.out w3 (HB2.out.trans (hb.mono HB2.out.size))
                have HB3 := Lib.hid (HB2.out.trans (hb.mono HB2.out.size))
                clear hb
                go_wp2
                go_roundg k
                case measure => go_light; omega
                case rel =>
                  go_light
                  exact ⟨k, rfl, by omega, by go_num, HBW.out.trans (HB3.out.mono HBW.out.size), (show Aside _ from HNX.out)⟩
        · rw [if_neg (by rintro ⟨h, _⟩; exact hcc (Option.some.inj h))] at hst
          have hne : ((⟨cc.toArray⟩ : ByteArray).toList == t.toList) = false := by rw [beq_eq_false_iff_ne, Lib.toList_data, Lib.toList_data]; simpa using hcc
          generalize (⟨cc.toArray⟩ : ByteArray) = S at *
          clear hcc
          cases hl : Pt.Vw.lm rl[k].rul s.data.toList with
          | true =>
            cases hr2 : Pt.Vw.rm rl[k].rul t.data.toList with
            | true =>
              have HML := Lib.hid (fun w' hb => HL0.out true hl w' hb)
              have HMR := Lib.hid (fun w' hb => HR0.out true hr2 w' hb)
              rw [hl, hr2] at hst
              have hv : v = false := HA.out.symm.trans (hst.trans (by simp))
              subst hv
              clear hl hr2 hst
              go_wp2_with fail
              with_reducible refine HF1.out.mono ?_
              rintro e w1 ⟨rfl, hb⟩
              obtain ⟨r0, r1, r2, r3, r4⟩ := HQ.out w1 hb
              have HB1 := Lib.hid hb
              clear hb
              go_wp2_with fail
              with_reducible refine (HML.out w1 HB1.out).mono ?_
              rintro e w2 ⟨v1, rfl, hb⟩
              obtain ⟨r0, r1, r2, r3, r4⟩ := HQ.out w2 (HB1.out.trans (hb.mono HB1.out.size))
              have HB2 := Lib.hid (HB1.out.trans (hb.mono HB1.out.size))
              clear hb
              go_wp2_with fail
              with_reducible refine (HMR.out w2 HB2.out).mono ?_
              rintro e w3 ⟨v2, rfl, hb⟩
              obtain ⟨r0, r1, r2, r3, r4⟩ := HQ.out w3 (HB2.out.trans (hb.mono HB2.out.size))
              have HB3 := Lib.hid (HB2.out.trans (hb.mono HB2.out.size))
              clear hb
              go_wp2
              go_ret
              exact ⟨rfl, HBW.out.trans (HB3.out.mono HBW.out.size)⟩
            | false =>
              have HML := Lib.hid (fun w' hb => HL0.out true hl w' hb)
              have HMR := Lib.hid (fun w' hb => HR0.out false hr2 w' hb)
              rw [hl, hr2] at hst
              have hv : v = false := HA.out.symm.trans (hst.trans (by simp))
              subst hv
              clear hl hr2 hst
              go_wp2_with fail
              with_reducible refine HF1.out.mono ?_
              rintro e w1 ⟨rfl, hb⟩
              obtain ⟨r0, r1, r2, r3, r4⟩ := HQ.out w1 hb
              have HB1 := Lib.hid hb
              clear hb
              go_wp2_with fail
              with_reducible refine (HML.out w1 HB1.out).mono ?_
              rintro e w2 ⟨v1, rfl, hb⟩
              obtain ⟨r0, r1, r2, r3, r4⟩ := HQ.out w2 (HB1.out.trans (hb.mono HB1.out.size))
              have HB2 := Lib.hid (HB1.out.trans (hb.mono HB1.out.size))
              clear hb
              go_wp2_with fail
              with_reducible refine (HMR.out w2 HB2.out).mono ?_
              rintro e w3 ⟨v2, rfl, hb⟩
              obtain ⟨r0, r1, r2, r3, r4⟩ := HQ.out w3 (HB2.out.trans (hb.mono HB2.out.size))
              have HB3 := Lib.hid (HB2.out.trans (hb.mono HB2.out.size))
              clear hb
              go_wp2
              go_ret
              exact ⟨rfl, HBW.out.trans (HB3.out.mono HBW.out.size)⟩
          | false =>
            cases hr2 : Pt.Vw.rm rl[k].rul t.data.toList with
            | true =>
              have HML := Lib.hid (fun w' hb => HL0.out false hl w' hb)
              have HMR := Lib.hid (fun w' hb => HR0.out true hr2 w' hb)
              rw [hl, hr2] at hst
              have hv : v = false := HA.out.symm.trans (hst.trans (by simp))
              subst hv
              clear hl hr2 hst
              go_wp2_with fail
              with_reducible refine HF1.out.mono ?_
              rintro e w1 ⟨rfl, hb⟩
              obtain ⟨r0, r1, r2, r3, r4⟩ := HQ.out w1 hb
              have HB1 := Lib.hid hb
              clear hb
              go_wp2_with fail
              with_reducible refine (HML.out w1 HB1.out).mono ?_
              rintro e w2 ⟨v1, rfl, hb⟩
              obtain ⟨r0, r1, r2, r3, r4⟩ := HQ.out w2 (HB1.out.trans (hb.mono HB1.out.size))
              have HB2 := Lib.hid (HB1.out.trans (hb.mono HB1.out.size))
              clear hb
              go_wp2_with fail
              with_reducible refine (HMR.out w2 HB2.out).mono ?_
              rintro e w3 ⟨v2, rfl, hb⟩
              obtain ⟨r0, r1, r2, r3, r4⟩ := HQ.out w3 (HB2.out.trans (hb.mono HB2.out.size))
              have HB3 := Lib.hid (HB2.out.trans (hb.mono HB2.out.size))
              clear hb
              go_wp2
              go_ret
              exact ⟨rfl, HBW.out.trans (HB3.out.mono HBW.out.size)⟩
            | false =>
              have HML := Lib.hid (fun w' hb => HL0.out false hl w' hb)
              have HMR := Lib.hid (fun w' hb => HR0.out false hr2 w' hb)
              rw [hl, hr2] at hst
              have HNX := Lib.hid (show Pt.Vw.related ((rl.map RulV.rul).take k) s.data.toList t.data.toList = v from by rw [← HA.out, hst]; simp)
              clear hl hr2 hst
              go_wp2_with fail
              with_reducible refine HF1.out.mono ?_
              rintro e w1 ⟨rfl, hb⟩
              obtain ⟨r0, r1, r2, r3, r4⟩ := HQ.out w1 hb
              have HB1 := Lib.hid hb
              clear hb
              go_wp2_with fail
              with_reducible refine (HML.out w1 HB1.out).mono ?_
              rintro e w2 ⟨v1, rfl, hb⟩
              obtain ⟨r0, r1, r2, r3, r4⟩ := HQ.out w2 (HB1.out.trans (hb.mono HB1.out.size))
              have HB2 := Lib.hid (HB1.out.trans (hb.mono HB1.out.size))
              clear hb
              go_wp2_with fail
              with_reducible refine (HMR.out w2 HB2.out).mono ?_
              rintro e w3 ⟨v2, rfl, hb⟩
              obtain ⟨r0, r1, r2, r3, r4⟩ := HQ.out w3 (HB2.out.trans (hb.mono HB2.out.size))
              have HB3 := Lib.hid (HB2.out.trans (hb.mono HB2.out.size))
              clear hb
              go_wp2
              go_roundg k
              case measure => go_light; omega
              case rel =>
                go_light
                exact ⟨k, rfl, by omega, by go_num, HBW.out.trans (HB3.out.mono HBW.out.size), (show Aside _ from HNX.out)⟩
set_option maxHeartbeats 4000000 in
theorem qvdec_any (A : Option Addr) (rl : List RulV) (c : Nat) (s : ByteArray) (w : World) (hr : RdV w A rl c) (hs : s.size < 4294967281) (hm : MaxL w) :
    Calls Tryz.prog 45 #[.slice A rl.length c, .string s] w fun en w' => en = .returned (.int .i64 (Pt.Vw.decides (rl.map RulV.rul) s.data.toList)) ∧ Below w.heap.size w w' := by
  have HR := Lib.hid hr
  have hcm := hr.cm
  have hle := hr.le
  have hmi : (rl.length : Int) ≤ 9223372036854775807 := by unfold maxLen at hcm; omega
  have HCK := Lib.hid (qvcheck_any A rl c w hr)
  have HM0 := Lib.hid (fun (k : Nat) (hk : k < rl.length) (j : Bool) (hj : Pt.Vw.lm rl[k].rul s.data.toList = j) (w' : World) (hb : Below w.heap.size w w') => rmatchV_any rl[k].A rl[k].xs rl[k].c rl[k].b rl[k].rul.left s w' ((hr.keep hb).parts _ (List.getElem_mem hk)).left hs (hm.keep hb hm.size) j hj)
  have HST := Lib.hid (fun (k : Nat) (hk : k < rl.length) => show Pt.Vw.lastZ (fun r => Pt.Vw.lm r s.data.toList) ((rl.map RulV.rul).take (k + 1)) = if Pt.Vw.lm rl[k].rul s.data.toList then (k : Int) else Pt.Vw.lastZ (fun r => Pt.Vw.lm r s.data.toList) ((rl.map RulV.rul).take k) from by
    have h := Pt.Vw.lastZ_take (fun r => Pt.Vw.lm r s.data.toList) (rl.map RulV.rul) k (by rw [List.length_map]; exact hk)
    rw [List.getElem_map] at h
    exact h)
  have HV := Lib.hid (show Pt.Vw.decides (rl.map RulV.rul) s.data.toList = if (Pt.Vw.vcheck (rl.map RulV.rul)).2 = 0 then Pt.Vw.lastZ (fun r => Pt.Vw.lm r s.data.toList) ((rl.map RulV.rul).take rl.length) else -1 from by rw [List.take_of_length_le (by rw [List.length_map]; exact Nat.le_refl _)]; rfl)
  generalize Pt.Vw.decides (rl.map RulV.rul) s.data.toList = v at *
  generalize Pt.Vw.vcheck (rl.map RulV.rul) = ck at *
  obtain ⟨i, e⟩ := ck
  clear hr hm hs hcm hle
  by_cases he : e = 0
  · subst he
    have hv : v = Pt.Vw.lastZ (fun r => Pt.Vw.lm r s.data.toList) ((rl.map RulV.rul).take rl.length) := by rw [HV.out]; rfl
    have HV2 := Lib.hid hv
    clear hv HV
    go_enter Tryz.func45, Tryz.ntmps45
    go_wp2_with fail
    with_reducible refine HCK.out.mono ?_
    rintro e w1 ⟨rfl, hb⟩
    have HB := Lib.hid hb
    clear hb
    go_wp2
    go_loopg [7, 21] rl.length (fun gg s7 s21 wx => ∃ (k : Nat), k + gg = rl.length ∧ s21 = .int .i64 (k : Int) ∧ s7 = .int .i64 (Pt.Vw.lastZ (fun r => Pt.Vw.lm r s.data.toList) ((rl.map RulV.rul).take k)) ∧ Below w.heap.size w wx)
    case atStart => exact ⟨0, by omega, rfl, rfl, HB.out⟩
    case round =>
      obtain ⟨k, hk, rfl, rfl, hbw⟩ := hrel
      have HBW := Lib.hid hbw
      by_cases hkn : k < rl.length
      · have i1 : (k : Int) < (rl.length : Int) := by omega
        obtain ⟨q, o, hA, hq, hcell⟩ := (HR.out.keep hbw).at (by omega)
        subst hA
        obtain ⟨e0, e1, e2, e3, e4⟩ := hcell k hkn
        have ha : Below wr.heap.size wr (wr.alloc (.cells #[.bool rl[k].ex, .slice rl[k].A rl[k].xs.length rl[k].c, .bool rl[k].b, .slice rl[k].B rl[k].ys.length rl[k].d, .bool rl[k].f] 94)) := (Below.refl _ _).alloc (Nat.le_refl _) _
        have HW2 := Lib.hid (hbw.trans (ha.mono hbw.size))
        have hst := HST.out k hkn
        cases hl : Pt.Vw.lm rl[k].rul s.data.toList with
        | true =>
          have HC := Lib.hid (HM0.out k hkn true hl _ (hbw.trans (ha.mono hbw.size)))
          rw [hl, if_pos rfl] at hst
          have HST2 := Lib.hid hst
          clear hcell hbw ha hst hl
          generalize Pt.Vw.lastZ (fun r => Pt.Vw.lm r s.data.toList) ((rl.map RulV.rul).take k) = z at *
          go_wp2_with fail
          with_reducible refine HC.out.mono ?_
          rintro e w2 ⟨v2, rfl, hb⟩
          have HB2 := Lib.hid (HW2.out.trans (hb.mono HW2.out.size))
          clear hb
          go_wp2
          go_roundg (rl.length - (k + 1))
          case measure => go_light; omega
          case rel =>
            go_light
            exact ⟨k + 1, by omega, by go_num, by rw [HST2.out], HB2.out⟩
        | false =>
          have HC := Lib.hid (HM0.out k hkn false hl _ (hbw.trans (ha.mono hbw.size)))
          rw [hl, if_neg (by simp)] at hst
          have HST2 := Lib.hid hst
          clear hcell hbw ha hst hl
          generalize Pt.Vw.lastZ (fun r => Pt.Vw.lm r s.data.toList) ((rl.map RulV.rul).take k) = z at *
          go_wp2_with fail
          with_reducible refine HC.out.mono ?_
          rintro e w2 ⟨v2, rfl, hb⟩
          have HB2 := Lib.hid (HW2.out.trans (hb.mono HW2.out.size))
          clear hb
          go_wp2
          go_roundg (rl.length - (k + 1))
          case measure => go_light; omega
          case rel =>
            go_light
            exact ⟨k + 1, by omega, by go_num, by rw [HST2.out], HB2.out⟩
      · have i1 : ¬ (k : Int) < (rl.length : Int) := by omega
        have hkl : k = rl.length := by omega
        have HKL := Lib.hid hkl
        clear hbw hkl
        have hv := HV2.out
        rw [← HKL.out] at hv
        subst hv
        go_wp2
        go_ret
        exact ⟨rfl, HBW.out⟩
  · have hv : v = -1 := by rw [HV.out]; exact if_neg he
    subst hv
    have p1 : ((e : Int) == 0) = false := by rw [beq_eq_false_iff_ne]; omega
    have p2 : ((e : Int) != 0) = true := by rw [bne, p1]; rfl
    clear HV he
    go_enter Tryz.func45, Tryz.ntmps45
    go_wp2_with fail
    with_reducible refine HCK.out.mono ?_
    rintro e w1 ⟨rfl, hb⟩
    have HB := Lib.hid hb
    clear hb
    go_wp2
    go_ret
    exact ⟨rfl, HB.out⟩
set_option maxRecDepth 100000 in
set_option maxHeartbeats 4000000 in
theorem qvfwd_any (A : Option Addr) (rl : List RulV) (c : Nat) (s : ByteArray) (w : World) (hr : RdV w A rl c) (hz : SzV 100000 rl) (hs : s.size ≤ 100000) (hm : MaxL w) :
    Calls Tryz.prog 43 #[.slice A rl.length c, .string s] w (GivesFw w (Pt.Vw.vfwd (rl.map RulV.rul) s.data.toList)) := by
  have HR := Lib.hid hr
  have hcm := hr.cm
  have hle := hr.le
  have hmi : (rl.length : Int) ≤ 9223372036854775807 := by unfold maxLen at hcm; omega
  have HCK := Lib.hid (qvcheck_any A rl c w hr)
  have HF := Lib.hid (fun (k : Nat) (hk : k < rl.length) (w' : World) (hb : Below w.heap.size w w') => qfwd_any rl[k].ex rl[k].A rl[k].xs rl[k].c rl[k].b rl[k].B rl[k].ys rl[k].d rl[k].f rl[k].rul s w' ((hr.keep hb).parts _ (List.getElem_mem hk)) (hz _ (List.getElem_mem hk)).2 hs (hm.keep hb hm.size))
  have HRE := Lib.hid (fun (t : ByteArray) (ht : t.size ≤ 4000000) (w' : World) (hb : Below w.heap.size w w') => qrelated_any A rl c s t w' (hr.keep hb) hz hs ht (hm.keep hb hm.size))
  have hlen := fun (k : Nat) (hk : k < rl.length) (cc : List UInt8) (h : Pt.fwd rl[k].rul s.data.toList = some cc) => fwd_len h (hz.szs _ (List.mem_map_of_mem (List.getElem_mem hk))).2 (show s.data.toList.length ≤ 100000 by rw [← Lib.size_eq]; exact hs)
  have HLEN := Lib.hid hlen
  by_cases he : (Pt.Vw.vcheck (rl.map RulV.rul)).2 = 0
  rotate_left
  · have hv : Pt.Vw.vfwd (rl.map RulV.rul) s.data.toList = none := if_neg he
    rw [hv]
    have p1 : (((Pt.Vw.vcheck (rl.map RulV.rul)).2 : Int) == 0) = false := by rw [beq_eq_false_iff_ne]; omega
    have p2 : (((Pt.Vw.vcheck (rl.map RulV.rul)).2 : Int) != 0) = true := by rw [bne, p1]; rfl
    generalize (Pt.Vw.vcheck (rl.map RulV.rul)).1 = k1 at *
    generalize (Pt.Vw.vcheck (rl.map RulV.rul)).2 = k2 at *
    clear hr hz hs hm hcm hle hlen HF HRE HLEN he hv HR
    generalize rl.length = n at *
    go_enter Tryz.func43, Tryz.ntmps43
    go_wp2_with fail
    with_reducible refine HCK.out.mono ?_
    rintro e w1 ⟨rfl, hb⟩
    have HB := Lib.hid hb
    clear hb
    go_wp2
    go_ret2
    exact ⟨rfl, HB.out⟩
  · have HHIT := Lib.hid (fun (cc : List UInt8) (h : Pt.Vw.related (rl.map RulV.rul) s.data.toList cc = true) => Pt.Vw.forward_hit he h)
    have HMISS := Lib.hid (fun (h : ∀ k (hk : k < rl.length), ∀ cc, Pt.fwd rl[k].rul s.data.toList = some cc → Pt.Vw.related (rl.map RulV.rul) s.data.toList cc = false) => Pt.Vw.forward_miss he (p := s.data.toList) (fun j hj cc hc => by rw [List.getElem_map] at hc; exact h j (by rwa [List.length_map] at hj) cc hc))
    rw [Pt.Vw.vcheck_zero he] at HCK
    obtain ⟨v, hv⟩ : ∃ v, v = Pt.Vw.vfwd (rl.map RulV.rul) s.data.toList := ⟨_, rfl⟩
    rw [← hv] at HHIT HMISS ⊢
    clear hr hz hs hm hcm hle hlen he hv
    go_enter Tryz.func43, Tryz.ntmps43
    go_wp2_with fail
    with_reducible refine HCK.out.mono ?_
    rintro e w1 ⟨rfl, hb⟩
    have HB := Lib.hid hb
    clear hb
    go_wp2
    go_loopg [21] rl.length (fun gg s21 wx => ∃ (k : Nat), k + gg = rl.length ∧ s21 = .int .i64 (k : Int) ∧ Below w.heap.size w wx ∧ Aside (∀ j (hj : j < rl.length), j < k → ∀ cc, Pt.fwd rl[j].rul s.data.toList = some cc → Pt.Vw.related (rl.map RulV.rul) s.data.toList cc = false))
    case atStart => exact ⟨0, by omega, rfl, HB.out, fun j _ h => absurd h (Nat.not_lt_zero _)⟩
    case round =>
      obtain ⟨k, hk, rfl, hbw, HA⟩ := hrel
      have HBW := Lib.hid hbw
      by_cases hkn : k < rl.length
      · have i1 : (k : Int) < (rl.length : Int) := by omega
        obtain ⟨q, o, hA, hq, hcell⟩ := (HR.out.keep hbw).at (by omega)
        subst hA
        obtain ⟨e0, e1, e2, e3, e4⟩ := hcell k hkn
        have ha : Below wr.heap.size wr (wr.alloc (.cells #[.bool rl[k].ex, .slice rl[k].A rl[k].xs.length rl[k].c, .bool rl[k].b, .slice rl[k].B rl[k].ys.length rl[k].d, .bool rl[k].f] 94)) := (Below.refl _ _).alloc (Nat.le_refl _) _
        have HW2 := Lib.hid (hbw.trans (ha.mono hbw.size))
        have HC := Lib.hid (HF.out k hkn _ (hbw.trans (ha.mono hbw.size)))
        clear hcell hbw ha
        cases ho : Pt.fwd rl[k].rul s.data.toList with
        | none =>
          rw [ho] at HC
          unfold GivesFw at HC
          simp only [Option.getD_none, Option.isSome_none] at HC
          have HO := Lib.hid ho
          clear ho
          go_wp2_with fail
          with_reducible refine HC.out.mono ?_
          rintro e w2 ⟨rfl, hb⟩
          have HB2 := Lib.hid (HW2.out.trans (hb.mono HW2.out.size))
          clear hb
          go_wp2
          go_roundg (rl.length - (k + 1))
          case measure => go_light; omega
          case rel =>
            go_light
            refine ⟨k + 1, by omega, by go_num, HB2.out, (show Aside _ from fun j hj hjk cc hc => ?_)⟩
            by_cases ej : j = k
            · subst ej; rw [HO.out] at hc; cases hc
            · exact HA.out j hj (by omega) cc hc
        | some cc =>
          rw [ho] at HC
          unfold GivesFw at HC
          simp only [Option.getD_some, Option.isSome_some] at HC
          have hl := HLEN.out k hkn cc ho
          have HRC := Lib.hid (fun (w' : World) (hb : Below w.heap.size w w') => HRE.out ⟨cc.toArray⟩ (by rw [size_mk]; omega) w' hb)
          rw [show (⟨cc.toArray⟩ : ByteArray).data.toList = cc by simp] at HRC
          have HO := Lib.hid ho
          clear ho hl
          cases hrel2 : Pt.Vw.related (rl.map RulV.rul) s.data.toList cc with
          | true =>
            rw [hrel2] at HRC
            have hv := HHIT.out cc hrel2
            subst hv
            clear hrel2
            go_wp2_with fail
            with_reducible refine HC.out.mono ?_
            rintro e w2 ⟨rfl, hb⟩
            have HB2 := Lib.hid (HW2.out.trans (hb.mono HW2.out.size))
            clear hb
            go_wp2_with fail
            with_reducible refine (HRC.out w2 HB2.out).mono ?_
            rintro e w3 ⟨rfl, hb⟩
            have HB3 := Lib.hid (HB2.out.trans (hb.mono HB2.out.size))
            clear hb
            go_wp2
            go_ret2
            exact ⟨rfl, HB3.out⟩
          | false =>
            rw [hrel2] at HRC
            have HREL := Lib.hid hrel2
            clear hrel2
            go_wp2_with fail
            with_reducible refine HC.out.mono ?_
            rintro e w2 ⟨rfl, hb⟩
            have HB2 := Lib.hid (HW2.out.trans (hb.mono HW2.out.size))
            clear hb
            go_wp2_with fail
            with_reducible refine (HRC.out w2 HB2.out).mono ?_
            rintro e w3 ⟨rfl, hb⟩
            have HB3 := Lib.hid (HB2.out.trans (hb.mono HB2.out.size))
            clear hb
            go_wp2
            go_roundg (rl.length - (k + 1))
            case measure => go_light; omega
            case rel =>
              go_light
              refine ⟨k + 1, by omega, by go_num, HB3.out, (show Aside _ from fun j hj hjk cc' hc => ?_)⟩
              by_cases ej : j = k
              · subst ej
                rw [HO.out] at hc
                injection hc with hc
                subst hc
                exact HREL.out
              · exact HA.out j hj (by omega) cc' hc
      · have i1 : ¬ (k : Int) < (rl.length : Int) := by omega
        have hv := HMISS.out (fun j hj cc hc => HA.out j hj (by omega) cc hc)
        subst hv
        clear hbw
        go_wp2
        go_ret2
        exact ⟨rfl, HBW.out⟩
end Go.Proofs.YtipljgkhooeeiaaGreatDoor
