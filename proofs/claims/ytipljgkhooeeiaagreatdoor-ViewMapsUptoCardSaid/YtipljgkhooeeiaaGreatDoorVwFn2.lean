/- Contracts of package view: Decides, Forward. -/
import Derived.Test.YtipljgkhooeeiaaGreatDoorVwFn
namespace Go.Proofs.YtipljgkhooeeiaaGreatDoor
open Go.RowKit

/-- The sizes of a list of lines. -/
def SzV (N : Nat) (l : List RulV) : Prop := ∀ x ∈ l, (∀ y ∈ x.xs, y.size ≤ N) ∧ ∀ y ∈ x.ys, y.size ≤ N
theorem SzV.szs {N : Nat} {l : List RulV} (h : SzV N l) : ∀ r ∈ l.map RulV.rul, Pt.szs N r.left ∧ Pt.szs N r.right := by
  intro r hr
  obtain ⟨x, hx, rfl⟩ := List.mem_map.1 hr
  obtain ⟨h1, h2⟩ := h x hx
  refine ⟨fun y hy => ?_, fun y hy => ?_⟩
  · obtain ⟨z, hz, rfl⟩ := List.mem_map.1 (show y ∈ bs x.xs from hy)
    rw [← Lib.size_eq]; exact h1 z hz
  · obtain ⟨z, hz, rfl⟩ := List.mem_map.1 (show y ∈ bs x.ys from hy)
    rw [← Lib.size_eq]; exact h2 z hz
theorem szv_of {N : Nat} {l : List RulV} (h : ∀ r ∈ l.map RulV.rul, Pt.szs N r.left ∧ Pt.szs N r.right) : SzV N l := by
  intro x hx
  obtain ⟨h1, h2⟩ := h x.rul (List.mem_map_of_mem hx)
  refine ⟨fun y hy => ?_, fun y hy => ?_⟩
  · rw [Lib.size_eq]; exact h1 _ (show y.data.toList ∈ bs x.xs from List.mem_map_of_mem hy)
  · rw [Lib.size_eq]; exact h2 _ (show y.data.toList ∈ bs x.ys from List.mem_map_of_mem hy)
theorem RdV.drop {w : World} {g o : Nat} {rl : List RulV} {c : Nat} (h : RdV w (some ⟨g, o, none⟩) rl c) (k : Nat) (hk : k ≤ rl.length) : RdV w (some ⟨g, o + k * 5, none⟩) (rl.drop k) (c - k) := by
  refine ⟨?_, fun x hx => h.parts x (List.mem_of_mem_drop hx), by have := h.le; simp; omega, by have := h.cm; omega, fun h => by cases h⟩
  by_cases h0 : k = rl.length
  · left; rw [h0]; simp
  · obtain ⟨g', o', hA, hlt, hc⟩ := h.at (by omega)
    injection hA with hA
    injection hA with hA hB
    subst hA hB
    refine .inr ⟨g, o + k * 5, rfl, hlt, fun j hj => ?_⟩
    have hj' : k + j < rl.length := by simp at hj; omega
    have e : (rl.drop k)[j] = rl[k + j] := by simp
    obtain ⟨q0, q1, q2, q3, q4⟩ := hc (k + j) hj'
    have f : o + k * 5 + j * 5 = o + (k + j) * 5 := by omega
    rw [e, f]
    exact ⟨q0, q1, q2, q3, q4⟩
theorem RdV.none (w : World) (A : Option Addr) : RdV w A [] 0 := ⟨.inl rfl, fun x h => (by cases h), Nat.le_refl _, Nat.zero_le _, fun _ => rfl⟩
set_option maxHeartbeats 2000000 in
theorem vdec_any (A : Option Addr) (rl : List RulV) (c : Nat) (s : ByteArray) (w : World) (hr : RdV w A rl c) (hs : s.size < 4294967281) (hm : MaxL w) :
    Calls Tryz.prog 44 #[.slice A rl.length c, .string s] w fun en w' => en = .returned (.int .i64 (Pt.Vw.decides (rl.map RulV.rul) s.data.toList)) ∧ Below w.heap.size w w' := by
  obtain ⟨W0, hW0⟩ : ∃ W0, W0 = w.alloc (.cells #[.string s] 9) := ⟨_, rfl⟩
  have hal : Below w.heap.size w W0 := by rw [hW0]; exact (Below.refl _ _).alloc (Nat.le_refl _) _
  have hlt : w.heap.size < W0.heap.size := by rw [hW0]; simp
  have hc0 : W0.cell? ⟨w.heap.size, 0, none⟩ = some (.string s) := by rw [hW0]; exact cells_new _ _ _ 0 _ rfl
  have HAL := Lib.hid hal
  have HCK := Lib.hid (vcheck_any A rl c W0 (hr.keep hal))
  have HL := Lib.hid (fun (w' : World) (hb : Below W0.heap.size W0 w') => last_dec (.pointer (some ⟨w.heap.size, 0, none⟩)) (fun r => Pt.Vw.lm r s.data.toList) A rl c w' ((hr.keep hal).keep hb) (fun k hk w2 hb2 =>
    dec1_any rl[k].ex rl[k].A rl[k].xs rl[k].c rl[k].b rl[k].B rl[k].ys rl[k].d rl[k].f rl[k].rul s w.heap.size w2 ((hb2.cell (p := ⟨w.heap.size, 0, none⟩) (Nat.lt_of_lt_of_le hlt hb.size)).trans ((hb.cell (p := ⟨w.heap.size, 0, none⟩) hlt).trans hc0))
      (Nat.lt_of_lt_of_le hlt (Nat.le_trans hb.size hb2.size)) (((((hr.keep hal).keep hb).keep hb2).parts _ (List.getElem_mem hk))) hs (((hm.keep hal hm.size).keep hb (hm.keep hal hm.size).size).keep hb2 ((hm.keep hal hm.size).keep hb (hm.keep hal hm.size).size).size)))
  have HV := Lib.hid (show Pt.Vw.decides (rl.map RulV.rul) s.data.toList = if (Pt.Vw.vcheck (rl.map RulV.rul)).2 = 0 then Pt.Vw.lastZ (fun r => Pt.Vw.lm r s.data.toList) (rl.map RulV.rul) else -1 from rfl)
  generalize Pt.Vw.decides (rl.map RulV.rul) s.data.toList = v at *
  generalize Pt.Vw.vcheck (rl.map RulV.rul) = ck at *
  generalize Pt.Vw.lastZ (fun r => Pt.Vw.lm r s.data.toList) (rl.map RulV.rul) = z at *
  obtain ⟨i, e⟩ := ck
  generalize rl.length = n at *
  clear hr hal hc0 hm hlt
  by_cases he : e = 0
  · subst he
    have hv : v = z := by rw [HV.out]; rfl
    subst hv
    clear HV
    subst hW0
    go_enter Tryz.func44, Tryz.ntmps44
    go_wp2_with fail
    with_reducible refine HCK.out.mono ?_
    rintro e w1 ⟨rfl, hb⟩
    have HC2 := Lib.hid (HL.out w1 hb)
    have HB := Lib.hid hb
    clear hb
    go_wp2_with fail
    with_reducible refine HC2.out.mono ?_
    rintro e w2 ⟨rfl, hb⟩
    have HB2 := Lib.hid (HB.out.trans (hb.mono HB.out.size))
    clear hb
    go_wp2
    go_ret
    exact ⟨rfl, HAL.out.trans (HB2.out.mono HAL.out.size)⟩
  · have hv : v = -1 := by rw [HV.out]; exact if_neg he
    subst hv
    have p1 : ((e : Int) == 0) = false := by rw [beq_eq_false_iff_ne]; omega
    have p2 : ((e : Int) != 0) = true := by rw [bne, p1]; rfl
    clear HV he HL
    subst hW0
    go_enter Tryz.func44, Tryz.ntmps44
    go_wp2_with fail
    with_reducible refine HCK.out.mono ?_
    rintro e w1 ⟨rfl, hb⟩
    have HB := Lib.hid hb
    clear hb
    go_wp2
    go_ret
    exact ⟨rfl, HAL.out.trans (HB.out.mono HAL.out.size)⟩
set_option maxRecDepth 100000 in
set_option maxHeartbeats 4000000 in
theorem vfwd_any (A : Option Addr) (rl : List RulV) (c : Nat) (s : ByteArray) (w : World) (hr : RdV w A rl c) (hz : SzV 100000 rl) (hs : s.size ≤ 100000) (hm : MaxL w) :
    Calls Tryz.prog 42 #[.slice A rl.length c, .string s] w (GivesFw w (Pt.Vw.vfwd (rl.map RulV.rul) s.data.toList)) := by
  have HD := Lib.hid (vdec_any A rl c s w hr (by omega) hm)
  have hdl := Pt.Vw.decides_lt (rl.map RulV.rul) s.data.toList
  rw [List.length_map] at hdl
  have hcm := hr.cm
  have hle := hr.le
  have hmi : (rl.length : Int) ≤ 9223372036854775807 := by unfold maxLen at hcm; omega
  have hci : (c : Int) ≤ 9223372036854775807 := by unfold maxLen at hcm; omega
  by_cases hd : Pt.Vw.decides (rl.map RulV.rul) s.data.toList < 0
  · rw [Pt.Vw.vfwd_none hd]
    rw [show Pt.Vw.decides (rl.map RulV.rul) s.data.toList = -1 by omega] at HD
    generalize rl.length = n at *
    clear hr hz hdl hd hm hcm hle
    go_enter Tryz.func42, Tryz.ntmps42
    go_wp2_with fail
    with_reducible refine HD.out.mono ?_
    rintro e w1 ⟨rfl, hb⟩
    have HB := Lib.hid hb
    clear hb
    go_wp2
    go_ret2
    exact ⟨rfl, HB.out⟩
  · obtain ⟨i, hi⟩ : ∃ i : Nat, Pt.Vw.decides (rl.map RulV.rul) s.data.toList = i := ⟨(Pt.Vw.decides (rl.map RulV.rul) s.data.toList).toNat, by omega⟩
    have hin : i < rl.length := by omega
    have HV := Lib.hid (Pt.Vw.vfwd_at (v := rl.map RulV.rul) (p := s.data.toList) (i := i) (by rw [List.length_map]; exact hin) hi)
    rw [List.getElem_map] at HV
    rw [hi] at HD
    obtain ⟨g, o, hA, hg, hcell⟩ := hr.at (by omega)
    subst hA
    obtain ⟨q0, q1, q2, q3, q4⟩ := hcell i hin
    have hlen := fun (cc : List UInt8) (h : Pt.fwd rl[i].rul s.data.toList = some cc) => fwd_len h (hz.szs _ (List.mem_map_of_mem (List.getElem_mem hin))).2 (show s.data.toList.length ≤ 100000 by rw [← Lib.size_eq]; exact hs)
    have HF := Lib.hid (fun (w' : World) (hb : Below w.heap.size w w') => fwd_any rl[i].ex rl[i].A rl[i].xs rl[i].c rl[i].b rl[i].B rl[i].ys rl[i].d rl[i].f rl[i].rul s w' ((hr.keep hb).parts _ (List.getElem_mem hin)) (hz _ (List.getElem_mem hin)).2 hs (hm.keep hb hm.size))
    have HQ := Lib.hid (fun (w' : World) (hb : Below w.heap.size w w') => show w'.cell? ⟨g, o + i * 5, none⟩ = some (.bool rl[i].ex) ∧ w'.cell? ⟨g, o + i * 5 + 1, none⟩ = some (.slice rl[i].A rl[i].xs.length rl[i].c) ∧ w'.cell? ⟨g, o + i * 5 + 2, none⟩ = some (.bool rl[i].b) ∧ w'.cell? ⟨g, o + i * 5 + 3, none⟩ = some (.slice rl[i].B rl[i].ys.length rl[i].d) ∧ w'.cell? ⟨g, o + i * 5 + 4, none⟩ = some (.bool rl[i].f) from
      ⟨(hb.cell (p := ⟨g, o + i * 5, none⟩) hg).trans q0, (hb.cell (p := ⟨g, o + i * 5 + 1, none⟩) hg).trans q1, (hb.cell (p := ⟨g, o + i * 5 + 2, none⟩) hg).trans q2, (hb.cell (p := ⟨g, o + i * 5 + 3, none⟩) hg).trans q3, (hb.cell (p := ⟨g, o + i * 5 + 4, none⟩) hg).trans q4⟩)
    -- the later lines
    have HL := fun (B : Option Addr) (d : Nat) (hrd : RdV w B (rl.drop (i + 1)) d) (cc : List UInt8) (hcc : cc.length ≤ 4000000) (k : Nat) (w' : World) (hb : Below w.heap.size w w') (hkw : w.heap.size ≤ k) (hk : k < w'.heap.size) (hcs : w'.cell? ⟨k, 0, none⟩ = some (.string ⟨cc.toArray⟩)) =>
      last_fwd (.pointer (some ⟨k, 0, none⟩)) (fun r => Pt.Vw.rm r cc) B (rl.drop (i + 1)) d w' (hrd.keep hb) (fun j hj w2 hb2 => by
        have h := fwd1_any (rl.drop (i + 1))[j].ex (rl.drop (i + 1))[j].A (rl.drop (i + 1))[j].xs (rl.drop (i + 1))[j].c (rl.drop (i + 1))[j].b (rl.drop (i + 1))[j].B (rl.drop (i + 1))[j].ys (rl.drop (i + 1))[j].d (rl.drop (i + 1))[j].f (rl.drop (i + 1))[j].rul ⟨cc.toArray⟩ k w2
          ((hb2.cell (p := ⟨k, 0, none⟩) hk).trans hcs) (Nat.lt_of_lt_of_le hk hb2.size) (((hrd.keep hb).keep hb2).parts _ (List.getElem_mem hj)) (by rw [size_mk]; omega) ((hm.keep hb hm.size).keep hb2 (hm.keep hb hm.size).size)
        simpa using h)
    have hdr : (rl.drop (i + 1)).map RulV.rul = (rl.map RulV.rul).drop (i + 1) := by rw [List.map_drop]
    have hdl2 : (rl.drop (i + 1)).length = rl.length - (i + 1) := by simp
    rw [hdr, hdl2] at HL
    have hfin : ∃ B d, (c = i + 1 → B = some ⟨g, o, none⟩ ∧ d = 0) ∧ (c ≠ i + 1 → B = some ⟨g, o + (i + 1) * 5, none⟩ ∧ d = c - (i + 1)) ∧ RdV w B (rl.drop (i + 1)) d := by
      by_cases h : c = i + 1
      · refine ⟨_, _, fun _ => ⟨rfl, rfl⟩, fun h' => absurd h h', ?_⟩
        rw [List.drop_of_length_le (by omega)]
        exact RdV.none _ _
      · exact ⟨_, _, fun h' => absurd h' h, fun _ => ⟨rfl, rfl⟩, hr.drop (i + 1) (by omega)⟩
    obtain ⟨B, d, hB1, hB2, hrd⟩ := hfin
    have hL3 := fun (cc : List UInt8) (hcc : cc.length ≤ 4000000) (w2 : World) (hb : Below w.heap.size w w2) => HL B d hrd cc hcc w2.heap.size (w2.alloc (.cells #[.string ⟨cc.toArray⟩] 9)) (hb.trans (((Below.refl _ _).alloc (Nat.le_refl _) _ : Below w2.heap.size w2 (w2.alloc _)).mono hb.size)) hb.size (by simp) (cells_new _ _ _ 0 _ rfl)
    have HL3 := Lib.hid hL3
    rw [show rl[i].rul.ex = rl[i].ex from rfl] at HV
    clear HL hL3 hrd hdr hdl2
    generalize Pt.Vw.vfwd (rl.map RulV.rul) s.data.toList = v at *
    generalize (rl.map RulV.rul).drop (i + 1) = DR at *
    have HLEN := Lib.hid hlen
    clear hlen
    generalize rl[i].rul = R at *
    generalize rl[i].ex = bx at *
    generalize rl[i].A = xA at *
    generalize rl[i].xs.length = xn at *
    generalize rl[i].c = xc at *
    generalize rl[i].b = xb at *
    generalize rl[i].B = xB at *
    generalize rl[i].ys.length = xm at *
    generalize rl[i].d = xd at *
    generalize rl[i].f = xf at *
    have i1 : ¬ (i : Int) < 0 := by omega
    have i2 : (i : Int) < (rl.length : Int) := by omega
    have HB1 := Lib.hid hB1
    have HB2 := Lib.hid hB2
    clear hB1 hB2 hr hz hm hdl hd hi q0 q1 q2 q3 q4 hcell
    obtain ⟨k, hk⟩ : ∃ k : Nat, i + 1 = k := ⟨_, rfl⟩
    have hik : (i : Int) + 1 = (k : Int) := by omega
    have hki : (k : Int) ≤ 9223372036854775807 := by omega
    have hkn : (k : Int) ≤ (rl.length : Int) := by omega
    have hkc : (k : Int) ≤ (c : Int) := by omega
    have hkn' : k ≤ rl.length := by omega
    rw [hk] at HL3 HB1 HB2
    generalize rl.length = n at *
    cases bx with
    | true =>
      have hv : v = none := by rw [HV.out]; rfl
      subst hv
      clear HV HL3 HLEN HF HB1 HB2
      go_enter Tryz.func42, Tryz.ntmps42
      go_wp2_with fail
      with_reducible refine HD.out.mono ?_
      rintro e w1 ⟨rfl, hb⟩
      obtain ⟨r0, r1, r2, r3, r4⟩ := HQ.out w1 hb
      have HB := Lib.hid hb
      clear hb
      go_wp2
      go_ret2
      exact ⟨rfl, HB.out⟩
    | false =>
      cases ho : Pt.fwd R s.data.toList with
      | none =>
        have hv : v = none := by rw [HV.out, ho]; rfl
        rw [ho] at HF
        subst hv
        clear HV HL3 HLEN HB1 HB2 ho
        go_enter Tryz.func42, Tryz.ntmps42
        go_wp2_with fail
        with_reducible refine HD.out.mono ?_
        rintro e w1 ⟨rfl, hb⟩
        obtain ⟨r0, r1, r2, r3, r4⟩ := HQ.out w1 hb
        have HF2 := Lib.hid (HF.out w1 hb)
        have HB := Lib.hid hb
        clear hb
        clear hcm hci hle hs HQ HF HD hik hki hkn hkc hk hkn'
        go_wp2_with fail
        with_reducible refine HF2.out.mono ?_
        rintro e w2 ⟨rfl, hb⟩
        have HBB := Lib.hid (HB.out.trans (hb.mono HB.out.size))
        clear hb
        go_wp2
        go_ret2
        exact ⟨rfl, HBB.out.trans (((Below.refl _ _).alloc (Nat.le_refl _) _ : Below _ _ (World.alloc _ _)).mono HBB.out.size)⟩
      | some cc =>
        have hlc := HLEN.out cc ho
        have hv : v = if 0 ≤ Pt.Vw.lastZ (fun r => Pt.Vw.rm r cc) DR then none else some cc := by rw [HV.out, ho]; rfl
        have HV2 := Lib.hid hv
        have HL4 := Lib.hid (fun w2 hb => HL3.out cc (by omega) w2 hb)
        rw [ho] at HF
        unfold GivesFw at HF
        simp only [Option.getD_some, Option.isSome_some] at HF
        clear hv HV HL3 HLEN ho hlc hcm hci hs hin
        generalize Pt.Vw.lastZ (fun r => Pt.Vw.rm r cc) DR = z at *
        have hcase : (c = k ∧ n = k ∧ B = some ⟨g, o, none⟩ ∧ d = 0) ∨ (c ≠ k ∧ B = some ⟨g, o + k * 5, none⟩ ∧ d = c - k) := by
          by_cases hc1 : c = k
          · obtain ⟨h1, h2⟩ := HB1.out hc1
            exact .inl ⟨hc1, by omega, h1, h2⟩
          · obtain ⟨h1, h2⟩ := HB2.out hc1
            exact .inr ⟨hc1, h1, h2⟩
        clear HB1 HB2 hk hle
        rcases hcase with ⟨rfl, rfl, rfl, rfl⟩ | ⟨hck, rfl, rfl⟩
        · rw [Nat.sub_self] at HL4
          clear hkn hkc hkn' hmi
          by_cases hz : 0 ≤ z
          · have hv := HV2.out
            rw [if_pos hz] at hv
            subst hv
            clear HV2
            go_enter Tryz.func42, Tryz.ntmps42
            go_wp2_with fail
            with_reducible refine HD.out.mono ?_
            rintro e w1 ⟨rfl, hb⟩
            obtain ⟨r0, r1, r2, r3, r4⟩ := HQ.out w1 hb
            have HF2 := Lib.hid (HF.out w1 hb)
            have HB := Lib.hid hb
            clear hb HQ HF HD
            go_wp2_with fail
            with_reducible refine HF2.out.mono ?_
            rintro e w2 ⟨rfl, hb⟩
            have HBB := Lib.hid (HB.out.trans (hb.mono HB.out.size))
            have HL5 := Lib.hid (HL4.out w2 HBB.out)
            clear hb
            go_wp2_with fail
            with_reducible refine HL5.out.mono ?_
            rintro e w3 ⟨rfl, hb⟩
            have HBC := Lib.hid (HBB.out.trans ((((Below.refl _ _).alloc (Nat.le_refl _) _ : Below w2.heap.size w2 (w2.alloc _)).trans (hb.mono (by simp))).mono HBB.out.size))
            have hcs := (hb.cell (p := ⟨w2.heap.size, 0, none⟩) (by simp)).trans (cells_new w2 #[.string ⟨cc.toArray⟩] 9 0 _ rfl)
            clear hb
            go_wp2
            go_ret2
            exact ⟨rfl, HBC.out⟩
          · have hv := HV2.out
            rw [if_neg hz] at hv
            subst hv
            clear HV2
            go_enter Tryz.func42, Tryz.ntmps42
            go_wp2_with fail
            with_reducible refine HD.out.mono ?_
            rintro e w1 ⟨rfl, hb⟩
            obtain ⟨r0, r1, r2, r3, r4⟩ := HQ.out w1 hb
            have HF2 := Lib.hid (HF.out w1 hb)
            have HB := Lib.hid hb
            clear hb HQ HF HD
            go_wp2_with fail
            with_reducible refine HF2.out.mono ?_
            rintro e w2 ⟨rfl, hb⟩
            have HBB := Lib.hid (HB.out.trans (hb.mono HB.out.size))
            have HL5 := Lib.hid (HL4.out w2 HBB.out)
            clear hb
            go_wp2_with fail
            with_reducible refine HL5.out.mono ?_
            rintro e w3 ⟨rfl, hb⟩
            have HBC := Lib.hid (HBB.out.trans ((((Below.refl _ _).alloc (Nat.le_refl _) _ : Below w2.heap.size w2 (w2.alloc _)).trans (hb.mono (by simp))).mono HBB.out.size))
            have hcs := (hb.cell (p := ⟨w2.heap.size, 0, none⟩) (by simp)).trans (cells_new w2 #[.string ⟨cc.toArray⟩] 9 0 _ rfl)
            clear hb
            go_wp2
            go_ret2
            exact ⟨rfl, HBC.out⟩
        · have hlt : k < c := by omega
          by_cases hz : 0 ≤ z
          · have hv := HV2.out
            rw [if_pos hz] at hv
            subst hv
            clear HV2
            go_enter Tryz.func42, Tryz.ntmps42
            go_wp2_with fail
            with_reducible refine HD.out.mono ?_
            rintro e w1 ⟨rfl, hb⟩
            obtain ⟨r0, r1, r2, r3, r4⟩ := HQ.out w1 hb
            have HF2 := Lib.hid (HF.out w1 hb)
            have HB := Lib.hid hb
            clear hb HQ HF HD
            go_wp2_with fail
            with_reducible refine HF2.out.mono ?_
            rintro e w2 ⟨rfl, hb⟩
            have HBB := Lib.hid (HB.out.trans (hb.mono HB.out.size))
            have HL5 := Lib.hid (HL4.out w2 HBB.out)
            clear hb
            go_wp2_with fail
            with_reducible refine HL5.out.mono ?_
            rintro e w3 ⟨rfl, hb⟩
            have HBC := Lib.hid (HBB.out.trans ((((Below.refl _ _).alloc (Nat.le_refl _) _ : Below w2.heap.size w2 (w2.alloc _)).trans (hb.mono (by simp))).mono HBB.out.size))
            have hcs := (hb.cell (p := ⟨w2.heap.size, 0, none⟩) (by simp)).trans (cells_new w2 #[.string ⟨cc.toArray⟩] 9 0 _ rfl)
            clear hb
            go_wp2
            go_ret2
            exact ⟨rfl, HBC.out⟩
          · have hv := HV2.out
            rw [if_neg hz] at hv
            subst hv
            clear HV2
            go_enter Tryz.func42, Tryz.ntmps42
            go_wp2_with fail
            with_reducible refine HD.out.mono ?_
            rintro e w1 ⟨rfl, hb⟩
            obtain ⟨r0, r1, r2, r3, r4⟩ := HQ.out w1 hb
            have HF2 := Lib.hid (HF.out w1 hb)
            have HB := Lib.hid hb
            clear hb HQ HF HD
            go_wp2_with fail
            with_reducible refine HF2.out.mono ?_
            rintro e w2 ⟨rfl, hb⟩
            have HBB := Lib.hid (HB.out.trans (hb.mono HB.out.size))
            have HL5 := Lib.hid (HL4.out w2 HBB.out)
            clear hb
            go_wp2_with fail
            with_reducible refine HL5.out.mono ?_
            rintro e w3 ⟨rfl, hb⟩
            have HBC := Lib.hid (HBB.out.trans ((((Below.refl _ _).alloc (Nat.le_refl _) _ : Below w2.heap.size w2 (w2.alloc _)).trans (hb.mono (by simp))).mono HBB.out.size))
            have hcs := (hb.cell (p := ⟨w2.heap.size, 0, none⟩) (by simp)).trans (cells_new w2 #[.string ⟨cc.toArray⟩] 9 0 _ rfl)
            clear hb
            go_wp2
            go_ret2
            exact ⟨rfl, HBC.out⟩
end Go.Proofs.YtipljgkhooeeiaaGreatDoor
