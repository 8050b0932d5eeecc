/- The contract of the reference's Within. -/
import Derived.Test.YthgcnlhlhipllaaGreatDoorPatFn6
namespace Go.Proofs.YthgcnlhlhipllaaGreatDoor
open Go.RowKit

theorem box2_cells {w w' : World} {v0 v1 u0 u1 : Value} {t : TypeId} (h : Below ((w.alloc (.cells #[v0, v1] t)).alloc (.cells #[u0, u1] t)).heap.size ((w.alloc (.cells #[v0, v1] t)).alloc (.cells #[u0, u1] t)) w') :
    w'.cell? ⟨w.heap.size, 0, none⟩ = some v0 ∧ w'.cell? ⟨w.heap.size, 1, none⟩ = some v1 ∧ w'.cell? ⟨w.heap.size + 1, 0, none⟩ = some u0 ∧ w'.cell? ⟨w.heap.size + 1, 1, none⟩ = some u1 := by
  have h1 : Below (w.alloc (.cells #[v0, v1] t)).heap.size (w.alloc (.cells #[v0, v1] t)) w' := ((Below.refl _ _).alloc (Nat.le_refl _) _).trans (h.mono (by simp))
  obtain ⟨a, b⟩ := box_cells h1
  obtain ⟨c, d⟩ := box_cells h
  simp only [World.alloc, Array.size_push] at c d
  exact ⟨a, b, c, d⟩
theorem in_step {ps qs : List (List UInt8)} {k : Nat} (h1 : k < ps.length) (h2 : k < qs.length) : Pt.allIn (ps.drop k) (qs.drop k) = (Pt.inside ps[k] qs[k] && Pt.allIn (ps.drop (k + 1)) (qs.drop (k + 1))) := by
  rw [List.drop_eq_getElem_cons h1, List.drop_eq_getElem_cons h2, Pt.allIn]
theorem in_nil (ps : List (List UInt8)) : Pt.allIn ps [] = true := by cases ps <;> rfl

set_option maxHeartbeats 8000000 in
theorem rwithin_any (A B : Option Addr) (xs ys : List ByteArray) (c d : Nat) (b b' : Bool) (p q : Pt.Pat) (w : World) (hp : PatR w A xs c b p) (hq : PatR w B ys d b' q) :
    Calls Tryz.prog 64 #[patV A xs.length c b, patV B ys.length d b'] w (GivesBB w (Pt.within p q)) := by
  obtain ⟨W0, hW0⟩ : ∃ W0, W0 = (w.alloc (.cells #[.slice A xs.length c, .bool b] 24)).alloc (.cells #[.slice B ys.length d, .bool b'] 24) := ⟨_, rfl⟩
  have halloc : Below w.heap.size w W0 := by rw [hW0]; exact ((Below.refl _ _).alloc (Nat.le_refl _) _).alloc (by simp) _
  have hp0 := hp.keep halloc
  have hq0 := hq.keep halloc
  have HCp := Lib.hid (fun (w' : World) (hb : Below W0.heap.size W0 w') => rcheck_any A xs c b p w' (hp0.keep hb))
  have HCq := Lib.hid (fun (w' : World) (hb : Below W0.heap.size W0 w') => rcheck_any B ys d b' q w' (hq0.keep hb))
  have hv : Pt.within p q = (decide (Pt.check p = 0) && decide (Pt.check q = 0) && Pt.counts p q && Pt.allIn p.parts q.parts) := rfl
  have hco : Pt.counts p q = (decide (ys.length ≤ xs.length) && (if b' then decide (ys.length < xs.length) || b else !b && decide (xs.length = ys.length))) := by
    unfold Pt.counts
    rw [hp.len, hq.len, ← hp.rest, ← hq.rest]
  rw [hco] at hv
  generalize Pt.within p q = v at hv
  have hpx : (xs.length : Int) ≤ 9223372036854775807 := by have := hp.le; have := hp.cm; unfold maxLen at this; omega
  have hqx : (ys.length : Int) ≤ 9223372036854775807 := by have := hq.le; have := hq.cm; unfold maxLen at this; omega
  have HRA := Lib.hid hp.rd
  have HRB := Lib.hid hq.rd
  have HPA := Lib.hid hp.parts
  have HPB := Lib.hid hq.parts
  have HXA := Lib.hid hp.sz
  have HXB := Lib.hid hq.sz
  have hlea := hp.le
  have hleb := hq.le
  obtain ⟨n, hn⟩ : ∃ n, n = xs.length := ⟨_, rfl⟩
  obtain ⟨m, hmm⟩ : ∃ m, m = ys.length := ⟨_, rfl⟩
  rw [← hn, ← hmm] at hW0 hv ⊢
  rw [← hn] at hpx hlea HCp
  rw [← hmm] at hqx hleb HCq
  have HN := Lib.hid hn
  have HM := Lib.hid hmm
  generalize Pt.check p = k1 at HCp hv
  generalize Pt.check q = k2 at HCq hv
  subst hW0
  have HAL := Lib.hid halloc
  clear hp hq hp0 hq0 hco hn hmm halloc
  by_cases hk1 : k1 = 0
  · subst hk1
    by_cases hk2 : k2 = 0
    · subst hk2
      by_cases hlt : n < m
      · have hf : v = false := by rw [hv, decide_eq_false (show ¬ m ≤ n by omega)]; simp
        subst hf
        have g1 : (n : Int) < (m : Int) := by omega
        clear hv
        go_enter Tryz.func64, Tryz.ntmps64
        go_wp2_with fail
        with_reducible refine (HCp.out _ (Below.refl _ _)).mono ?_
        rintro e w1 ⟨rfl, hb1⟩
        obtain ⟨c0, c1, c2, c3⟩ := box2_cells hb1
        have hz1 := hb1.size
        have HB1 := Lib.hid hb1
        clear hb1
        simp at hz1
        go_wp2_with fail
        with_reducible refine (HCq.out _ HB1.out).mono ?_
        rintro e w2 ⟨rfl, hb2⟩
        obtain ⟨d0, d1, d2, d3⟩ := box2_cells (HB1.out.trans (hb2.mono HB1.out.size))
        have HB2 := Lib.hid hb2
        clear hb2 c0 c1 c2 c3
        go_wp2
        go_ret
        exact ⟨rfl, (HAL.out.trans (HB1.out.mono (by simp; omega))).trans (HB2.out.mono (by omega))⟩
      · have g1 : ¬ (n : Int) < (m : Int) := by omega
        have g2 : decide (n < m) = false := by rw [decide_eq_false_iff_not]; exact hlt
        rw [decide_eq_true (show m ≤ n by omega)] at hv
        have hcs : (b' = false ∧ b = true ∧ v = false) ∨ (b' = false ∧ b = false ∧ m < n ∧ v = false) ∨ (b' = true ∧ b = false ∧ m = n ∧ v = false) ∨
            (v = Pt.allIn p.parts q.parts ∧ ((b' = false ∧ b = false ∧ m = n) ∨ (b' = true ∧ b = true ∧ m = n) ∨ (b' = true ∧ b = true ∧ m < n) ∨ (b' = true ∧ b = false ∧ m < n))) := by
          cases b' with
          | false =>
            cases b with
            | true => left; rw [hv]; simp
            | false =>
              by_cases hx : m < n
              · right; left; rw [hv]; simp [hx]; omega
              · right; right; right; rw [hv]; simp; omega
          | true =>
            cases b with
            | true =>
              right; right; right
              rcases Nat.lt_or_ge m n with h | h
              · rw [hv]; simp [h]
              · rw [hv]; simp; omega
            | false =>
              by_cases hx : m < n
              · right; right; right; rw [hv]; simp [hx]
              · right; right; left; rw [hv]; simp; omega
        have HV0 := Lib.hid hv
        clear hv hlt
        rcases hcs with ⟨rfl, rfl, rfl⟩ | ⟨rfl, rfl, h, rfl⟩ | ⟨rfl, rfl, rfl, rfl⟩ | ⟨hva, hcs⟩
        · clear HV0
          go_enter Tryz.func64, Tryz.ntmps64
          go_wp2_with fail
          with_reducible refine (HCp.out _ (Below.refl _ _)).mono ?_
          rintro e w1 ⟨rfl, hb1⟩
          obtain ⟨c0, c1, c2, c3⟩ := box2_cells hb1
          have hz1 := hb1.size
          have HB1 := Lib.hid hb1
          clear hb1
          simp at hz1
          go_wp2_with fail
          with_reducible refine (HCq.out _ HB1.out).mono ?_
          rintro e w2 ⟨rfl, hb2⟩
          obtain ⟨d0, d1, d2, d3⟩ := box2_cells (HB1.out.trans (hb2.mono HB1.out.size))
          have HB2 := Lib.hid hb2
          clear hb2 c0 c1 c2 c3
          go_wp2
          go_ret
          exact ⟨rfl, (HAL.out.trans (HB1.out.mono (by simp; omega))).trans (HB2.out.mono (by omega))⟩
        · have g3 : (m : Int) < (n : Int) := by omega
          clear HV0
          go_enter Tryz.func64, Tryz.ntmps64
          go_wp2_with fail
          with_reducible refine (HCp.out _ (Below.refl _ _)).mono ?_
          rintro e w1 ⟨rfl, hb1⟩
          obtain ⟨c0, c1, c2, c3⟩ := box2_cells hb1
          have hz1 := hb1.size
          have HB1 := Lib.hid hb1
          clear hb1
          simp at hz1
          go_wp2_with fail
          with_reducible refine (HCq.out _ HB1.out).mono ?_
          rintro e w2 ⟨rfl, hb2⟩
          obtain ⟨d0, d1, d2, d3⟩ := box2_cells (HB1.out.trans (hb2.mono HB1.out.size))
          have HB2 := Lib.hid hb2
          clear hb2 c0 c1 c2 c3
          go_wp2
          go_ret
          exact ⟨rfl, (HAL.out.trans (HB1.out.mono (by simp; omega))).trans (HB2.out.mono (by omega))⟩
        · clear HV0
          go_enter Tryz.func64, Tryz.ntmps64
          go_wp2_with fail
          with_reducible refine (HCp.out _ (Below.refl _ _)).mono ?_
          rintro e w1 ⟨rfl, hb1⟩
          obtain ⟨c0, c1, c2, c3⟩ := box2_cells hb1
          have hz1 := hb1.size
          have HB1 := Lib.hid hb1
          clear hb1
          simp at hz1
          go_wp2_with fail
          with_reducible refine (HCq.out _ HB1.out).mono ?_
          rintro e w2 ⟨rfl, hb2⟩
          obtain ⟨d0, d1, d2, d3⟩ := box2_cells (HB1.out.trans (hb2.mono HB1.out.size))
          have HB2 := Lib.hid hb2
          clear hb2 c0 c1 c2 c3
          go_wp2
          go_ret
          exact ⟨rfl, (HAL.out.trans (HB1.out.mono (by simp; omega))).trans (HB2.out.mono (by omega))⟩
        · have HVA := Lib.hid hva
          have hmn : m ≤ n := by omega
          clear hva HV0
          have hcs2 : (b' = false ∧ b = false ∧ ¬ (m : Int) < (n : Int) ∧ decide (m < n) = false) ∨ (b' = true ∧ b = true ∧ ((n : Int) == (m : Int)) = true ∧ decide (m < n) = false) ∨ (b' = true ∧ b = true ∧ ((n : Int) == (m : Int)) = false ∧ decide (m < n) = true) ∨ (b' = true ∧ b = false ∧ ((n : Int) == (m : Int)) = false ∧ decide (m < n) = true) := by
            rcases hcs with ⟨h1, h2, h3⟩ | ⟨h1, h2, h3⟩ | ⟨h1, h2, h3⟩ | ⟨h1, h2, h3⟩
            · exact .inl ⟨h1, h2, by omega, by rw [decide_eq_false_iff_not]; omega⟩
            · exact .inr (.inl ⟨h1, h2, by rw [beq_iff_eq]; omega, by rw [decide_eq_false_iff_not]; omega⟩)
            · exact .inr (.inr (.inl ⟨h1, h2, by rw [beq_eq_false_iff_ne]; omega, by rw [decide_eq_true_iff]; omega⟩))
            · exact .inr (.inr (.inr ⟨h1, h2, by rw [beq_eq_false_iff_ne]; omega, by rw [decide_eq_true_iff]; omega⟩))
          clear hcs
          rcases hcs2 with ⟨rfl, rfl, g4, g5⟩ | ⟨rfl, rfl, g4, g5⟩ | ⟨rfl, rfl, g4, g5⟩ | ⟨rfl, rfl, g4, g5⟩
          all_goals
            go_enter Tryz.func64, Tryz.ntmps64
            go_wp2_with fail
            with_reducible refine (HCp.out _ (Below.refl _ _)).mono ?_
            rintro e w1 ⟨rfl, hb1⟩
            obtain ⟨c0, c1, c2, c3⟩ := box2_cells hb1
            have hz1 := hb1.size
            have HB1 := Lib.hid hb1
            clear hb1
            simp at hz1
            go_wp2_with fail
            with_reducible refine (HCq.out _ HB1.out).mono ?_
            rintro e w2 ⟨rfl, hb2⟩
            obtain ⟨d0, d1, d2, d3⟩ := box2_cells (HB1.out.trans (hb2.mono HB1.out.size))
            have HB2 := Lib.hid hb2
            clear hb2 c0 c1 c2 c3
            have HBW := Lib.hid (show Below w.heap.size w w2 from (HAL.out.trans (HB1.out.mono (by simp; omega))).trans (HB2.out.mono (by omega)))
            go_wp2
            go_loop [59] (fun i => ∃ k : Nat, k ≤ m ∧ i = .int .i64 k ∧ Pt.allIn (p.parts.drop k) (q.parts.drop k) = v) (fun i => m - (intOf i).toNat)
            case atStart => exact ⟨0, by omega, rfl, by rw [HVA.out]; simp⟩
            case round =>
              obtain ⟨k, hkm, rfl, hall⟩ := hrel
              have HA := Lib.hid hall
              clear hall
              by_cases hkl : k < m
              · have l1 : k < xs.length := by rw [← HN.out]; omega
                have l2 : k < ys.length := by rw [← HM.out]; exact hkl
                obtain ⟨ga, oa, rfl, hga, hca⟩ := HRA.out.cells (by omega)
                obtain ⟨gb, ob, rfl, hgb, hcb⟩ := HRB.out.cells (by omega)
                have e1 := (HBW.out.cell (p := ⟨ga, oa + k, none⟩) hga).trans (hca k l1)
                have e2 := (HBW.out.cell (p := ⟨gb, ob + k, none⟩) hgb).trans (hcb k l2)
                have HST := Lib.hid (in_step (ps := p.parts) (qs := q.parts) (k := k) (by rw [← HPA.out, bs_length]; exact l1) (by rw [← HPB.out, bs_length]; exact l2))
                have ep : p.parts[k]'(by rw [← HPA.out, bs_length]; exact l1) = xs[k].data.toList := by
                  rw [← bs_get xs k l1]
                  simp only [HPA.out]
                have eq : q.parts[k]'(by rw [← HPB.out, bs_length]; exact l2) = ys[k].data.toList := by
                  rw [← bs_get ys k l2]
                  simp only [HPB.out]
                rw [ep, eq] at HST
                have HI := Lib.hid (fun w : World => rinside_any xs[k] ys[k] w (HXA.out _ (List.getElem_mem l1)) (HXB.out _ (List.getElem_mem l2)))
                clear hca hcb ep eq
                generalize xs[k] = x at *
                generalize ys[k] = y at *
                have hkn : (k : Int) < (n : Int) := by omega
                cases hi : Pt.inside x.data.toList y.data.toList with
                | true =>
                  rw [hi] at HI HST
                  go_wp2_with fail
                  with_reducible refine (HI.out _).mono ?_
                  rintro e w' ⟨rfl, rfl⟩
                  go_wp2
                  go_round
                  case rel => exact ⟨k + 1, by omega, by go_num, by have := HST.out; rw [HA.out] at this; simpa using this.symm⟩
                  case measure => simp [intOf]; omega
                | false =>
                  rw [hi] at HI HST
                  have hvf : v = false := by have := HST.out; rw [HA.out] at this; simpa using this
                  subst hvf
                  go_wp2_with fail
                  with_reducible refine (HI.out _).mono ?_
                  rintro e w' ⟨rfl, rfl⟩
                  go_wp2
                  go_ret
                  exact ⟨rfl, HBW.out⟩
              · have hvt : v = true := by
                  rw [← HA.out, List.drop_of_length_le (show q.parts.length ≤ k by rw [← HPB.out, bs_length, ← HM.out]; omega)]
                  exact in_nil _
                subst hvt
                go_wp2
                go_ret
                exact ⟨rfl, HBW.out⟩
    · have hf : v = false := by rw [hv, decide_eq_false hk2]; simp
      subst hf
      have t1 : ((k2 : Int) == 0) = false := by rw [beq_eq_false_iff_ne]; omega
      have t2 : ((k2 : Int) != 0) = true := by simpa using (show (k2 : Int) ≠ 0 by omega)
      clear hv hk2
      go_enter Tryz.func64, Tryz.ntmps64
      go_wp2_with fail
      with_reducible refine (HCp.out _ (Below.refl _ _)).mono ?_
      rintro e w1 ⟨rfl, hb1⟩
      obtain ⟨c0, c1, c2, c3⟩ := box2_cells hb1
      have hz1 := hb1.size
      have HB1 := Lib.hid hb1
      clear hb1
      simp at hz1
      go_wp2_with fail
      with_reducible refine (HCq.out _ HB1.out).mono ?_
      rintro e w2 ⟨rfl, hb2⟩
      obtain ⟨d0, d1, d2, d3⟩ := box2_cells (HB1.out.trans (hb2.mono HB1.out.size))
      have HB2 := Lib.hid hb2
      clear hb2 c0 c1 c2 c3
      go_wp2
      go_ret
      exact ⟨rfl, (HAL.out.trans (HB1.out.mono (by simp; omega))).trans (HB2.out.mono (by omega))⟩
  · have hf : v = false := by rw [hv, decide_eq_false hk1]; simp
    subst hf
    have t1 : ((k1 : Int) == 0) = false := by rw [beq_eq_false_iff_ne]; omega
    have t2 : ((k1 : Int) != 0) = true := by simpa using (show (k1 : Int) ≠ 0 by omega)
    clear hv hk1
    go_enter Tryz.func64, Tryz.ntmps64
    go_wp2_with fail
    with_reducible refine (HCp.out _ (Below.refl _ _)).mono ?_
    rintro e w1 ⟨rfl, hb1⟩
    have HB1 := Lib.hid hb1
    clear hb1
    go_wp2
    go_ret
    exact ⟨rfl, HAL.out.trans (HB1.out.mono (by simp; omega))⟩
end Go.Proofs.YthgcnlhlhipllaaGreatDoor
