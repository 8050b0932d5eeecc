/- The reference's Meet once more: what it makes is new. -/
import Derived.Test.YtembmegllpkmfaaGreatDoorMeetF
import Derived.Test.YtembmegllpkmfaaGreatDoorPatFnC
namespace Go.Proofs.YtembmegllpkmfaaGreatDoor
open Go.RowKit

set_option maxHeartbeats 8000000 in
theorem rmeetF_any (A B : Option Addr) (xs ys : List ByteArray) (c d : Nat) (b f : Bool) (p q : Pt.Pat) (w : World) (hp : PatR w A xs c b p) (hq : PatR w B ys d f q) :
    Calls Tryz.prog 43 #[patV A xs.length c b, patV B ys.length d f] w (GivesPBF w (Pt.meet p q)) := by
  obtain ⟨W0, hW0⟩ : ∃ W0, W0 = ((w.alloc (.cells #[.slice A xs.length c, .bool b] 24)).alloc (.cells #[.slice B ys.length d, .bool f] 24)).alloc (.cells #[.slice none 0 0, .bool false] 24) := ⟨_, rfl⟩
  have halloc : Below w.heap.size w W0 := by rw [hW0]; exact (((Below.refl _ _).alloc (Nat.le_refl _) _).alloc (by simp) _).alloc (by simp; omega) _
  have hp0 := hp.keep halloc
  have hq0 := hq.keep halloc
  have HCp := Lib.hid (fun (w' : World) (hb : Below W0.heap.size W0 w') => rcheck_any A xs c b p w' (hp0.keep hb))
  have HCq := Lib.hid (fun (w' : World) (hb : Below W0.heap.size W0 w') => rcheck_any B ys d f q w' (hq0.keep hb))
  have hv : Pt.meet p q = if Pt.check p = 0 ∧ Pt.check q = 0 then (if p.parts.length < q.parts.length then Pt.meetLong q p else Pt.meetLong p q) else none := rfl
  rw [hp.len, hq.len] at hv
  generalize Pt.meet p q = o at hv
  have h12 : Pt.check p = 0 → xs.length ≤ 12 := fun h => by rw [← hp.len]; exact (Pt.check_ok.1 h).2
  have h12' : Pt.check q = 0 → ys.length ≤ 12 := fun h => by rw [← hq.len]; exact (Pt.check_ok.1 h).2
  have hpx : (xs.length : Int) ≤ 9223372036854775807 := by have := hp.le; have := hp.cm; unfold maxLen at this; omega
  have hqx : (ys.length : Int) ≤ 9223372036854775807 := by have := hq.le; have := hq.cm; unfold maxLen at this; omega
  have hpq : Pt.meetLong p q = if (decide (ys.length < xs.length) && !f) || (decide (xs.length = ys.length) && (b != f)) then none else (Pt.meetOf p.parts q.parts).map fun l => ⟨l, b⟩ := by
    unfold Pt.meetLong
    rw [hp.len, hq.len, ← hp.rest, ← hq.rest]
  have hqp : Pt.meetLong q p = if (decide (xs.length < ys.length) && !b) || (decide (ys.length = xs.length) && (f != b)) then none else (Pt.meetOf q.parts p.parts).map fun l => ⟨l, f⟩ := by
    unfold Pt.meetLong
    rw [hp.len, hq.len, ← hp.rest, ← hq.rest]
  have HRA := Lib.hid hp.rd
  have HRB := Lib.hid hq.rd
  have HPA := Lib.hid hp.parts
  have HPB := Lib.hid hq.parts
  have HXA := Lib.hid hp.sz
  have HXB := Lib.hid hq.sz
  have HCA := Lib.hid hp.cm
  have HCB := Lib.hid hq.cm
  have hlea := hp.le
  have hleb := hq.le
  obtain ⟨n, hn⟩ : ∃ n, n = xs.length := ⟨_, rfl⟩
  obtain ⟨m, hmm⟩ : ∃ m, m = ys.length := ⟨_, rfl⟩
  rw [← hn, ← hmm] at hW0 hv hpq hqp ⊢
  rw [← hn] at hpx hlea HCp h12
  rw [← hmm] at hqx hleb HCq h12'
  have HN := Lib.hid hn
  have HM := Lib.hid hmm
  rw [hpq, hqp] at hv
  generalize Pt.check p = k1 at HCp hv h12
  generalize Pt.check q = k2 at HCq hv h12'
  subst hW0
  have HAL := Lib.hid halloc
  clear hp hq hp0 hq0 hn hmm halloc hpq hqp
  by_cases hk1 : k1 = 0
  · subst hk1
    by_cases hk2 : k2 = 0
    · subst hk2
      have hn12 := h12 rfl
      have hm12 := h12' rfl
      rw [if_pos ⟨rfl, rfl⟩] at hv
      have HV := Lib.hid hv
      clear hv h12 h12'
      have HCAI := Lib.hid (show (c : Int) ≤ 9223372036854775807 by have := HCA.out; unfold maxLen at this; omega)
      have HCBI := Lib.hid (show (d : Int) ≤ 9223372036854775807 by have := HCB.out; unfold maxLen at this; omega)
      go_enter Tryz.func43, Tryz.ntmps43
      go_wp2_with fail
      with_reducible refine (HCp.out _ (Below.refl _ _)).mono ?_
      rintro e w1 ⟨rfl, hb1⟩
      obtain ⟨c0, c1, c2, c3, c4, c5, f0, f1, f2⟩ := box3_cells hb1
      have hz1 := hb1.size
      have HB1 := Lib.hid hb1
      clear hb1
      simp at hz1
      go_wp2_with fail
      with_reducible refine (HCq.out _ HB1.out).mono ?_
      rintro e w2 ⟨rfl, hb2⟩
      obtain ⟨d0, d1, d2, d3, d4, d5, e0, e1, e2⟩ := box3_cells (HB1.out.trans (hb2.mono HB1.out.size))
      have HB2 := Lib.hid hb2
      have hz2 := hb2.size
      clear hb2 c0 c1 c2 c3 c4 c5 f0 f1 f2
      have HBW := Lib.hid (show Below w.heap.size w w2 from (HAL.out.trans (HB1.out.mono (by simp; omega))).trans (HB2.out.mono (by omega)))
      have hz3 : w.heap.size < w2.heap.size := by omega
      have hz4 : w.heap.size + 1 < w2.heap.size := by omega
      have hz5 : w.heap.size + 1 + 1 < w2.heap.size := by omega
      go_upto_if 25 with fail
      go_cut [] (fun wx => ∃ A B xs ys c d n m b f p q, Longer w wx o A B xs ys c d n m b f p q)
      case first =>
        by_cases hlt : n < m
        · rw [decide_eq_true hlt]
          have HLT := Lib.hid hlt
          clear hlt
          set_option maxRecDepth 100000 in go_wp2_with fail
          go_meet
          refine ⟨B, A, ys, xs, d, c, m, n, f, b, q, p, HRB.out, HRA.out, HPB.out, HPA.out, HXB.out, HXA.out, hleb, hlea, HCBI.out, HCAI.out, HM.out, HN.out, by have := HLT.out; omega, hm12, ?_, ?_, ?_, ?_, ?_, ?_, ?_, ?_, ?_, ?_, ?_⟩
          · exact (swap4 d0 d1 d2 d3 rfl).1
          · exact (swap4 d0 d1 d2 d3 rfl).2.1
          · exact (swap4 d0 d1 d2 d3 rfl).2.2.1
          · exact (swap4 d0 d1 d2 d3 rfl).2.2.2.1
          · exact ((swap4 d0 d1 d2 d3 rfl).2.2.2.2.1 0).trans d4
          · exact ((swap4 d0 d1 d2 d3 rfl).2.2.2.2.1 1).trans d5
          · exact ((swap4 d0 d1 d2 d3 rfl).2.2.2.2.2 0).trans ((box3_cells (HB1.out.trans (HB2.out.mono HB1.out.size))).2.2.2.2.2.2.2.2 0)
          · exact ((swap4 d0 d1 d2 d3 rfl).2.2.2.2.2 1).trans ((box3_cells (HB1.out.trans (HB2.out.mono HB1.out.size))).2.2.2.2.2.2.2.2 1)
          · exact (((HBW.out.setCell (p := ⟨w.heap.size, 0, none⟩) (by simp) _).setCell (p := ⟨w.heap.size, 1, none⟩) (by simp) _).setCell (p := ⟨w.heap.size + 1, 0, none⟩) (by simp) _).setCell (p := ⟨w.heap.size + 1, 1, none⟩) (by simp) _
          · simpa [World.setCell] using hz5
          · rw [HV.out, if_pos HLT.out]
        · rw [decide_eq_false hlt]
          have HLT := Lib.hid hlt
          clear hlt
          set_option maxRecDepth 100000 in go_wp2_with fail
          go_meet
          refine ⟨A, B, xs, ys, c, d, n, m, b, f, p, q, HRA.out, HRB.out, HPA.out, HPB.out, HXA.out, HXB.out, hlea, hleb, HCAI.out, HCBI.out, HN.out, HM.out, by have := HLT.out; omega, hn12, ?_, ?_, ?_, ?_, ?_, ?_, ?_, ?_, ?_, ?_, ?_⟩
          · exact d0
          · exact d1
          · exact d2
          · exact d3
          · exact d4
          · exact d5
          · exact (box3_cells (HB1.out.trans (HB2.out.mono HB1.out.size))).2.2.2.2.2.2.2.2 0
          · exact (box3_cells (HB1.out.trans (HB2.out.mono HB1.out.size))).2.2.2.2.2.2.2.2 1
          · exact HBW.out
          · exact hz5
          · rw [HV.out, if_neg HLT.out]
      case rest =>
        clear d0 d1 d2 d3 d4 d5 HB1 HB2 HBW hz1 hz2 hz3 hz4 hz5 HV HRA HRB HPA HPB HXA HXB HCA HCB hlea hleb hpx hqx HN HM HAL HCp HCq hn12 hm12 HCAI HCBI
        obtain ⟨A1, B1, xs1, ys1, c1, d1, n1, m1, b1, f1, p1, q1, H⟩ := hcut
        clear e0 e1 e2
        have HH := Lib.hid H
        obtain ⟨bb, hbb⟩ : ∃ bb, bb = b1 := ⟨_, rfl⟩
        have HBB := Lib.hid hbb
        have e0 := H.e0
        have e1 := H.e1
        have e2 := H.e2
        have e3 := H.e3
        have e4 := H.e4
        have e5 := H.e5
        have f4 := H.f4
        have f5 := H.f5
        have hz5 := H.hz
        have hz4 : w.heap.size + 1 < wc.heap.size := by omega
        have hz3 : w.heap.size < wc.heap.size := by omega
        have hn12 := H.n12
        have hmn := H.mn
        have hcs : (o = none ∧ f1 = false ∧ ((n1 : Int) == (m1 : Int)) = false ∧ decide (m1 < n1) = true) ∨ (o = none ∧ (b1 = true ∧ f1 = false ∨ b1 = false ∧ f1 = true) ∧ ((n1 : Int) == (m1 : Int)) = true ∧ decide (m1 < n1) = false) ∨
            (o = ((Pt.meetOf p1.parts q1.parts).map fun l => (⟨l, b1⟩ : Pt.Pat)) ∧ ((f1 = true ∧ ((n1 : Int) == (m1 : Int)) = false ∧ decide (m1 < n1) = true) ∨ ((b1 = true ∧ f1 = true ∨ b1 = false ∧ f1 = false) ∧ ((n1 : Int) == (m1 : Int)) = true ∧ decide (m1 < n1) = false))) := by
          have ho := H.ho
          rcases Nat.lt_or_ge m1 n1 with hlt | hge
          · have g4 : ((n1 : Int) == (m1 : Int)) = false := by rw [beq_eq_false_iff_ne]; omega
            have g5 : decide (m1 < n1) = true := decide_eq_true hlt
            have g6 : decide (n1 = m1) = false := decide_eq_false (by omega)
            rw [g5, g6] at ho
            cases f1 with
            | false => exact .inl ⟨by rw [ho]; rfl, rfl, g4, g5⟩
            | true => exact .inr (.inr ⟨by rw [ho]; rfl, .inl ⟨rfl, g4, g5⟩⟩)
          · have g4 : ((n1 : Int) == (m1 : Int)) = true := by rw [beq_iff_eq]; omega
            have g5 : decide (m1 < n1) = false := decide_eq_false (by omega)
            have g6 : decide (n1 = m1) = true := decide_eq_true (by omega)
            rw [g5, g6] at ho
            cases b1 <;> cases f1
            · exact .inr (.inr ⟨by rw [ho]; rfl, .inr ⟨.inr ⟨rfl, rfl⟩, g4, g5⟩⟩)
            · exact .inr (.inl ⟨by rw [ho]; rfl, .inr ⟨rfl, rfl⟩, g4, g5⟩)
            · exact .inr (.inl ⟨by rw [ho]; rfl, .inl ⟨rfl, rfl⟩, g4, g5⟩)
            · exact .inr (.inr ⟨by rw [ho]; rfl, .inr ⟨.inl ⟨rfl, rfl⟩, g4, g5⟩⟩)
        clear H hbb
        rcases hcs with ⟨rfl, rfl, g4, g5⟩ | ⟨rfl, ⟨rfl, rfl⟩ | ⟨rfl, rfl⟩, g4, g5⟩ | ⟨ho, hcs⟩
        iterate 3
          · set_option maxRecDepth 100000 in go_wp2
            refine bodyPost_ret (v := .tuple #[patV none 0 0 false, .bool false]) (by simp [results, Tryz.results43, go_sem, e4, e5]) rfl ⟨none, [], 0, false, rfl, patR_zero _, ?_, fun a h => by cases h⟩
            exact (HH.out.below.setCell (p := ⟨w.heap.size + 1 + 1, 0, none⟩) (by simp; omega) _).setCell (p := ⟨w.heap.size + 1 + 1, 1, none⟩) (by simp; omega) _
        have HO := Lib.hid ho
        clear ho
        rcases hcs with ⟨rfl, g4, g5⟩ | ⟨⟨rfl, rfl⟩ | ⟨rfl, rfl⟩, g4, g5⟩
        all_goals
          set_option maxRecDepth 100000 in go_wp2
          go_loopw [62] (fun iv wr => ∃ (k : Nat) (ls : List ByteArray) (A3 : Option Addr) (c3 : Nat), k ≤ n1 ∧ iv = .int .i64 k ∧ OwnS wr (wc.heap.size + 1) (.slice A3 k c3) ls ∧ ls.length = k ∧ wr.cell? ⟨wc.heap.size, 0, none⟩ = some (.slice A3 k c3) ∧ wr.cell? ⟨wc.heap.size, 1, none⟩ = some (.bool bb) ∧ wr.frozen? ⟨wc.heap.size, 0, none⟩ = false ∧ Below wc.heap.size wc wr ∧ wc.heap.size + 1 ≤ wr.heap.size ∧ (∀ y ∈ ls, y.size ≤ maxLen) ∧ Pt.meetOf p1.parts q1.parts = (Pt.meetOf (p1.parts.drop k) (q1.parts.drop k)).map (fun r => bs ls ++ r)) (fun iv _ => n1 - (intOf iv).toNat)
          case atStart => exact ⟨0, [], none, 0, by omega, rfl, OwnS.empty _ _, rfl, (box_cells (Below.refl _ _)).1, by rw [HBB.out]; exact (box_cells (Below.refl _ _)).2, box_free (Below.refl _ _) 0, (Below.refl _ _).alloc (Nat.le_refl _) _, by simp, by simp, by simp [bs]⟩
          case round =>
            obtain ⟨k, ls, A3, c3, hkn, rfl, hown, hlk, hc0, hc1, hf0, hbr, hzr, hlb, hmo⟩ := hrel
            have hq0 := (hbr.cell (p := ⟨w.heap.size + 1, 0, none⟩) hz4).trans e2
            have hr0 := (hbr.cell (p := ⟨w.heap.size + 1 + 1, 0, none⟩) hz5).trans e4
            have hr1 := (hbr.cell (p := ⟨w.heap.size + 1 + 1, 1, none⟩) hz5).trans e5
            have hr2 := (hbr.frozen (p := ⟨w.heap.size + 1 + 1, 0, none⟩) hz5).trans f4
            have hr3 := (hbr.frozen (p := ⟨w.heap.size + 1 + 1, 1, none⟩) hz5).trans f5
            have HOWN := Lib.hid hown
            have HBR := Lib.hid hbr
            have HLB := Lib.hid hlb
            have HMO := Lib.hid hmo
            have HLK := Lib.hid hlk
            have hy4 : w.heap.size + 1 < wr.heap.size := by omega
            have hy5 : w.heap.size + 1 + 1 < wr.heap.size := by omega
            have hy6 : wc.heap.size < wr.heap.size := by omega
            have hcmx : (d1 : Int) ≤ 9223372036854775807 := HH.out.dm
            have hmd : (m1 : Int) ≤ (d1 : Int) := by have := HH.out.md; omega
            clear hown hbr hlb hmo hlk
            by_cases hlt : k < n1
            · have hlx : k < xs1.length := by have := HH.out.na; omega
              obtain ⟨g, og, rfl, hg, hcell⟩ := HH.out.rdA.cells (by omega)
              have k1 := (HBR.out.cell (p := ⟨g, og + k, none⟩) (by show g < wc.heap.size; omega)).trans ((HH.out.below.cell (p := ⟨g, og + k, none⟩) hg).trans (hcell k hlx))
              have hlp : k < p1.parts.length := by rw [← HH.out.pa, bs_length]; exact hlx
              have ep : p1.parts[k]'hlp = xs1[k].data.toList := by
                rw [← bs_get xs1 k hlx]
                simp only [HH.out.pa]
              have HSX := Lib.hid (HH.out.sa _ (List.getElem_mem hlx))
              by_cases hkm : k < m1
              · have hly : k < ys1.length := by have := HH.out.mb; omega
                obtain ⟨g', og', rfl, hg', hcell'⟩ := HH.out.rdB.cells (by omega)
                have k2 := (HBR.out.cell (p := ⟨g', og' + k, none⟩) (by show g' < wc.heap.size; omega)).trans ((HH.out.below.cell (p := ⟨g', og' + k, none⟩) hg').trans (hcell' k hly))
                have hlq : k < q1.parts.length := by rw [← HH.out.pb, bs_length]; exact hly
                have eq : q1.parts[k]'hlq = ys1[k].data.toList := by
                  rw [← bs_get ys1 k hly]
                  simp only [HH.out.pb]
                have hst := meetOf_step hlp hlq
                rw [ep, eq] at hst
                have HST := Lib.hid hst
                have HSY := Lib.hid (HH.out.sb _ (List.getElem_mem hly))
                clear hcell hcell' hst ep eq hlp hlq
                generalize xs1[k] = x at *
                generalize ys1[k] = y at *
                have HI := Lib.hid (fun w : World => rinside_any x y w HSX.out HSY.out)
                have HI2 := Lib.hid (fun w : World => rinside_any y x w HSY.out HSX.out)
                have t1 : decide (m1 ≤ k) = false := decide_eq_false (by omega)
                cases hi : Pt.inside x.data.toList y.data.toList with
                | true =>
                  rw [hi] at HI HST
                  go_wp2_with fail
                  with_reducible refine (HI.out _).mono ?_
                  rintro e w' ⟨rfl, rfl⟩
                  go_wp2_with (refine wpList_append_ss rfl _ _ rfl (wc.heap.size + 1) _ ls rfl (HOWN.out.below ((Below.refl _ _).alloc (Nat.le_refl _) _)) (some ⟨wr.heap.size, 0, none⟩) [x] 1 rfl (new_one wr x _) (fun h => by cases h) (by simp [HLK.out]; omega) (by simp; omega) ?_; intro v' w' hown' hb'
                               obtain ⟨A', c', hv, hf1, hf2, hf3, hf4⟩ := hown'.form
                               rw [show (ls ++ [x]).length = k + 1 by simp [HLK.out]] at hv
                               subst hv
                               clear hf1 hf2 hf3 hf4
                               have HB := Lib.hid (show Below (wc.heap.size + 1) wr w' from ((Below.refl _ _).alloc hzr _).trans hb')
                               have HO2 := Lib.hid hown'
                               have kk0 := (HB.out.cell (p := ⟨wc.heap.size, 0, none⟩) (by show wc.heap.size < wc.heap.size + 1; omega)).trans hc0
                               have kk1 := (HB.out.cell (p := ⟨wc.heap.size, 1, none⟩) (by show wc.heap.size < wc.heap.size + 1; omega)).trans hc1
                               have kf0 := (HB.out.frozen (p := ⟨wc.heap.size, 0, none⟩) (by show wc.heap.size < wc.heap.size + 1; omega)).trans hf0
                               clear hown' hb')
                  go_wp2
                  go_roundw
                  case rel =>
                    refine ⟨k + 1, ls ++ [x], A', c', by omega, by go_num, HO2.out.setCell (by show wc.heap.size < wc.heap.size + 1; omega) _, by simp [HLK.out], World.cell?_setCell_same _ _ _ kk0, (World.cell?_setCell_other _ _ _ _ (by simp)).trans kk1, ?_, (HBR.out.trans (HB.out.mono (by omega))).setCell (p := ⟨wc.heap.size, 0, none⟩) (Nat.le_refl _) _, ?_, ?_, ?_⟩
                    · simpa using kf0
                    · have := HB.out.size
                      simp [World.setCell]
                      omega
                    · intro z hz
                      rcases List.mem_append.1 hz with h | h
                      · exact HLB.out z h
                      · rw [List.mem_singleton.1 h]; exact HSX.out
                    · rw [HMO.out, HST.out, bs_append]
                      simp [bs, Function.comp_def]
                  case measure => simp [intOf]; omega
                | false =>
                  rw [hi] at HI HST
                  cases hi2 : Pt.inside y.data.toList x.data.toList with
                  | true =>
                    rw [hi2] at HI2 HST
                    have i1 : (0 : Int) ≤ (k : Int) := Int.natCast_nonneg _
                    have i2 : (k : Int) < (m1 : Int) := by omega
                    have i3 := World.new_ne wr _ hc0
                    have i4 := World.new_ne wr _ hq0
                    have i5 := World.new_ne wr _ k2
                    go_wp2_with fail
                    with_reducible refine (HI.out _).mono ?_
                    rintro e w' ⟨rfl, rfl⟩
                    go_wp2_with fail
                    with_reducible refine (HI2.out _).mono ?_
                    rintro e w' ⟨rfl, rfl⟩
                    go_wp2_with fail
                    go_region_law
                      ((refine step_append_ss rfl _ _ rfl (wc.heap.size + 1) (.slice A3 k c3) ls (by rfl) (HOWN.out.below (by repeat (first | exact Below.refl _ _ | apply below_drew | refine Below.alloc ?_ (by first | exact Nat.le_refl _ | exact hzr) _))) (some ⟨wr.heap.size, 0, none⟩) [y] 1 1 rfl (by rfl) (by first | exact RdS.drew (new_one wr y _) | exact new_one wr.drew y _ | exact RdS.drew (new_one wr.drew y _) | exact RdS.drew (RdS.drew (new_one wr y _))) (fun h => by cases h) (by simp [HLK.out]; omega) (by simp; omega) ?_; intro v' w' hown' hb'
                        obtain ⟨A', c', hv, hf1, hf2, hf3, hf4⟩ := hown'.form
                        rw [show (ls ++ [y]).length = k + 1 by simp [HLK.out]] at hv
                        subst hv
                        clear hf1 hf2 hf3 hf4
                        have HB := Lib.hid (show Below (wc.heap.size + 1) wr w' from Below.trans (by repeat (first | exact Below.refl _ _ | apply below_drew | refine Below.alloc ?_ (by exact hzr) _)) hb')
                        have HO2 := Lib.hid hown'
                        have kk0 := (HB.out.cell (p := ⟨wc.heap.size, 0, none⟩) (by show wc.heap.size < wc.heap.size + 1; omega)).trans hc0
                        have kk1 := (HB.out.cell (p := ⟨wc.heap.size, 1, none⟩) (by show wc.heap.size < wc.heap.size + 1; omega)).trans hc1
                        have kf0 := (HB.out.frozen (p := ⟨wc.heap.size, 0, none⟩) (by show wc.heap.size < wc.heap.size + 1; omega)).trans hf0
                        clear hown' hb'))
                    all_goals
                      go_wp2
                      go_roundw
                      case rel =>
                        refine ⟨k + 1, ls ++ [y], A', c', by omega, by go_num, HO2.out.setCell (by show wc.heap.size < wc.heap.size + 1; omega) _, by simp [HLK.out], World.cell?_setCell_same _ _ _ kk0, (World.cell?_setCell_other _ _ _ _ (by simp)).trans kk1, ?_, (HBR.out.trans (HB.out.mono (by omega))).setCell (p := ⟨wc.heap.size, 0, none⟩) (Nat.le_refl _) _, ?_, ?_, ?_⟩
                        · simpa using kf0
                        · have := HB.out.size
                          simp [World.setCell]
                          omega
                        · intro z hz
                          rcases List.mem_append.1 hz with h | h
                          · exact HLB.out z h
                          · rw [List.mem_singleton.1 h]; exact HSY.out
                        · rw [HMO.out, HST.out, bs_append]
                          simp [bs, Function.comp_def]
                      case measure => simp [intOf]; omega
                  | false =>
                    rw [hi2] at HI2 HST
                    have hon : o = none := by
                      rw [HO.out, HMO.out, HST.out]
                      rfl
                    subst hon
                    go_wp2_with fail
                    with_reducible refine (HI.out _).mono ?_
                    rintro e w' ⟨rfl, rfl⟩
                    go_wp2_with fail
                    with_reducible refine (HI2.out _).mono ?_
                    rintro e w' ⟨rfl, rfl⟩
                    go_wp2
                    refine bodyPost_ret (v := .tuple #[patV none 0 0 false, .bool false]) (by simp [results, Tryz.results43, go_sem, hr0, hr1]) rfl ⟨none, [], 0, false, rfl, patR_zero _, ?_, fun a h => by cases h⟩
                    exact ((HH.out.below.trans (HBR.out.mono (by omega))).setCell (p := ⟨w.heap.size + 1 + 1, 0, none⟩) (by simp; omega) _).setCell (p := ⟨w.heap.size + 1 + 1, 1, none⟩) (by simp; omega) _
              · have hst : Pt.meetOf (p1.parts.drop k) (q1.parts.drop k) = (Pt.meetOf (p1.parts.drop (k + 1)) (q1.parts.drop (k + 1))).map fun r => xs1[k].data.toList :: r := by
                  rw [List.drop_of_length_le (show q1.parts.length ≤ k by rw [← HH.out.pb, bs_length, ← HH.out.mb]; omega), List.drop_of_length_le (show q1.parts.length ≤ k + 1 by rw [← HH.out.pb, bs_length, ← HH.out.mb]; omega), meetOf_none, meetOf_none, List.drop_eq_getElem_cons hlp, ep]
                  rfl
                have HST := Lib.hid hst
                have t1 : decide (m1 ≤ k) = true := decide_eq_true (by omega)
                clear hcell hst ep hlp
                generalize xs1[k] = x at *
                go_wp2_with (refine wpList_append_ss rfl _ _ rfl (wc.heap.size + 1) _ ls rfl (HOWN.out.below ((Below.refl _ _).alloc (Nat.le_refl _) _)) (some ⟨wr.heap.size, 0, none⟩) [x] 1 rfl (new_one wr x _) (fun h => by cases h) (by simp [HLK.out]; omega) (by simp; omega) ?_; intro v' w' hown' hb'
                             obtain ⟨A', c', hv, hf1, hf2, hf3, hf4⟩ := hown'.form
                             rw [show (ls ++ [x]).length = k + 1 by simp [HLK.out]] at hv
                             subst hv
                             clear hf1 hf2 hf3 hf4
                             have HB := Lib.hid (show Below (wc.heap.size + 1) wr w' from ((Below.refl _ _).alloc hzr _).trans hb')
                             have HO2 := Lib.hid hown'
                             have kk0 := (HB.out.cell (p := ⟨wc.heap.size, 0, none⟩) (by show wc.heap.size < wc.heap.size + 1; omega)).trans hc0
                             have kk1 := (HB.out.cell (p := ⟨wc.heap.size, 1, none⟩) (by show wc.heap.size < wc.heap.size + 1; omega)).trans hc1
                             have kf0 := (HB.out.frozen (p := ⟨wc.heap.size, 0, none⟩) (by show wc.heap.size < wc.heap.size + 1; omega)).trans hf0
                             clear hown' hb')
                go_wp2
                go_roundw
                case rel =>
                  refine ⟨k + 1, ls ++ [x], A', c', by omega, by go_num, HO2.out.setCell (by show wc.heap.size < wc.heap.size + 1; omega) _, by simp [HLK.out], World.cell?_setCell_same _ _ _ kk0, (World.cell?_setCell_other _ _ _ _ (by simp)).trans kk1, ?_, (HBR.out.trans (HB.out.mono (by omega))).setCell (p := ⟨wc.heap.size, 0, none⟩) (Nat.le_refl _) _, ?_, ?_, ?_⟩
                  · simpa using kf0
                  · have := HB.out.size
                    simp [World.setCell]
                    omega
                  · intro z hz
                    rcases List.mem_append.1 hz with h | h
                    · exact HLB.out z h
                    · rw [List.mem_singleton.1 h]; exact HSX.out
                  · rw [HMO.out, HST.out, bs_append]
                    simp [bs, Function.comp_def]
                case measure => simp [intOf]; omega
            · have hkn1 : k = n1 := by omega
              subst hkn1
              have hmf : Pt.meetOf p1.parts q1.parts = some (bs ls) := by
                rw [HMO.out, List.drop_of_length_le (show p1.parts.length ≤ k by rw [← HH.out.pa, bs_length, ← HH.out.na]; omega), List.drop_of_length_le (show q1.parts.length ≤ k by rw [← HH.out.pb, bs_length, ← HH.out.mb]; omega), meetOf_none]
                simp
              have hoo : o = some ⟨bs ls, bb⟩ := by
                rw [HO.out, hmf, HBB.out]
                rfl
              subst hoo
              obtain ⟨A', c', hv, h1, h2, h3, h4⟩ := HOWN.out.form
              injection hv with v1 v2 v3
              have HPR := Lib.hid (show PatR wr A3 ls c3 bb ⟨bs ls, bb⟩ from ⟨by rw [v1]; exact h3, rfl, rfl, by rw [v3]; exact h1, by rw [v3]; exact h2, by rw [v1, v3]; exact h4, HLB.out⟩)
              clear v1 v2 v3 h1 h2 h3 h4 hmf
              go_wp2
              refine bodyPost_ret (v := .tuple #[patV A3 k c3 bb, .bool true]) (by simp [results, Tryz.results43, go_sem, hr0, hr1]) rfl ⟨A3, ls, c3, bb, by rw [HLK.out]; rfl, ?_, ?_, ?_⟩
              · exact HPR.out.store2 _ _ _ _ _ hr0 hr1 (fun _ h => by cases h) (fun _ h => by cases h)
              · exact ((HH.out.below.trans (HBR.out.mono (by omega))).setCell (p := ⟨w.heap.size + 1 + 1, 0, none⟩) (by simp; omega) _).setCell (p := ⟨w.heap.size + 1 + 1, 1, none⟩) (by simp; omega) _
              · intro a ha
                obtain ⟨q1, q2⟩ := World.ownsRow.lt HOWN.out a.block (by rw [ha]; rfl)
                have q3 := HH.out.below.size
                exact ⟨by omega, by simpa using q2⟩
    · have hv0 : o = none := by rw [hv, if_neg]; intro h; exact hk2 h.2
      have t1 : ((k2 : Int) == 0) = false := by rw [beq_eq_false_iff_ne]; omega
      have t2 : ((k2 : Int) != 0) = true := by simpa using (show (k2 : Int) ≠ 0 by omega)
      subst hv0
      clear hv h12 h12' hk2
      go_enter Tryz.func43, Tryz.ntmps43
      go_wp2_with fail
      with_reducible refine (HCp.out _ (Below.refl _ _)).mono ?_
      rintro e w1 ⟨rfl, hb1⟩
      obtain ⟨c0, c1, c2, c3, c4, c5, f0, f1, f2⟩ := box3_cells hb1
      have hz1 := hb1.size
      have HB1 := Lib.hid hb1
      clear hb1
      simp at hz1
      go_wp2_with fail
      with_reducible refine (HCq.out _ HB1.out).mono ?_
      rintro e w2 ⟨rfl, hb2⟩
      obtain ⟨d0, d1, d2, d3, d4, d5, e0, e1, e2⟩ := box3_cells (HB1.out.trans (hb2.mono HB1.out.size))
      have HB2 := Lib.hid hb2
      have hz2 := hb2.size
      clear hb2 c0 c1 c2 c3 c4 c5 f0 f1 f2
      have HBW := Lib.hid (show Below w.heap.size w w2 from (HAL.out.trans (HB1.out.mono (by simp; omega))).trans (HB2.out.mono (by omega)))
      go_wp2
      refine bodyPost_ret (v := .tuple #[patV none 0 0 false, .bool false]) (by simp [results, Tryz.results43, go_sem, d4, d5]) rfl ⟨none, [], 0, false, rfl, patR_zero _, ?_, fun a h => by cases h⟩
      exact (HBW.out.setCell (p := ⟨w.heap.size + 1 + 1, 0, none⟩) (by simp; omega) _).setCell (p := ⟨w.heap.size + 1 + 1, 1, none⟩) (by simp; omega) _
  · have hv0 : o = none := by rw [hv, if_neg]; intro h; exact hk1 h.1
    have t1 : ((k1 : Int) == 0) = false := by rw [beq_eq_false_iff_ne]; omega
    have t2 : ((k1 : Int) != 0) = true := by simpa using (show (k1 : Int) ≠ 0 by omega)
    subst hv0
    clear hv h12 h12' hk1
    go_enter Tryz.func43, Tryz.ntmps43
    go_wp2_with fail
    with_reducible refine (HCp.out _ (Below.refl _ _)).mono ?_
    rintro e w1 ⟨rfl, hb1⟩
    obtain ⟨d0, d1, d2, d3, d4, d5, e0, e1, e2⟩ := box3_cells hb1
    have hz1 := hb1.size
    have HB1 := Lib.hid hb1
    clear hb1
    simp at hz1
    have HBW := Lib.hid (show Below w.heap.size w w1 from HAL.out.trans (HB1.out.mono (by simp; omega)))
    go_wp2
    refine bodyPost_ret (v := .tuple #[patV none 0 0 false, .bool false]) (by simp [results, Tryz.results43, go_sem, d4, d5]) rfl ⟨none, [], 0, false, rfl, patR_zero _, ?_, fun a h => by cases h⟩
    exact (HBW.out.setCell (p := ⟨w.heap.size + 1 + 1, 0, none⟩) (by simp; omega) _).setCell (p := ⟨w.heap.size + 1 + 1, 1, none⟩) (by simp; omega) _
end Go.Proofs.YtembmegllpkmfaaGreatDoor
