/- The contract of the program's Match once more, with what a nil answer says; how long captures are. -/
import Derived.Test.YthgcnlhlhipllaaGreatDoorPatGo11
namespace Go.Proofs.YthgcnlhlhipllaaGreatDoor
open Go.RowKit

def GivesPN (w : World) (o : Option (List (List UInt8))) (e : Ending) (w' : World) : Prop :=
  match o with
  | none => e = .returned (.tuple #[.slice none 0 0, .bool false]) ∧ Below w.heap.size w w'
  | some l => ∃ A xs c, e = .returned (.tuple #[.slice A (List.length xs) c, .bool true]) ∧ bs xs = l ∧ xs.length ≤ c ∧ c ≤ maxLen ∧ (A = none → c = 0) ∧ RdS w' w'.heap.size A xs ∧ Below w.heap.size w w'
theorem caps_sizes : ∀ {ps cs r : List (List UInt8)}, Pt.capsOf ps cs = some r → ∀ x ∈ r, ∃ c ∈ cs, x.length ≤ c.length
  | [], _, r, h, x, hx => by
    simp only [Pt.capsOf, Option.some.injEq] at h
    subst h
    cases hx
  | _ :: _, [], r, h, x, hx => by cases h
  | p :: ps, c :: cs, r, h, x, hx => by
    rw [Pt.capsOf_cons] at h
    cases hc : Pt.capture p c with
    | none => rw [hc] at h; cases h
    | some y =>
      rw [hc] at h
      simp only [Option.map_eq_some_iff] at h
      obtain ⟨r', hr', rfl⟩ := h
      have hy : y.length ≤ c.length := by
        unfold Pt.capture at hc
        split at hc
        · split at hc
          · injection hc with hc; subst hc; simp
          · cases hc
        · split at hc
          · injection hc with hc; subst hc; simp
          · cases hc
      have hm : x = y ∨ x ∈ r' := by
        split at hx
        · exact List.mem_cons.1 hx
        · exact .inr hx
      rcases hm with rfl | h2
      · exact ⟨c, by simp, hy⟩
      · obtain ⟨c', hc', hl⟩ := caps_sizes hr' x h2
        exact ⟨c', List.mem_cons_of_mem _ hc', hl⟩
theorem match_sizes {p : Pt.Pat} {path : List UInt8} {r : List (List UInt8)} (h : Pt.matchP p path = some r) : ∀ x ∈ r, x.length ≤ path.length := by
  obtain ⟨_, l, cs, hl, _, hcs, hr⟩ := Pt.matchP_some.1 h
  obtain ⟨hp, h2, hc⟩ := Pt.pathO_some.1 hl
  have hj : (Lib.join l [47]).length ≤ path.length := by
    rw [hp]
    unfold Pm.join
    simp only [List.length_cons]
    omega
  have hseg : Pm.segs (Lib.join l [47]) = l := Pm.segs_join l (by rintro rfl; simp at h2) fun x hx => Pm.comp_slash (hc x hx)
  have he : ∀ c ∈ l, c.length ≤ path.length := fun c hcl => by
    rw [← hseg] at hcl
    exact Nat.le_trans (segs_elem_le _ c hcl) hj
  intro x hx
  have hx2 : x ∈ cs ∨ x = Lib.join (l.drop p.parts.length) [47] := by
    rw [hr] at hx
    split at hx
    · rcases List.mem_append.1 hx with h | h
      · exact .inl h
      · exact .inr (List.mem_singleton.1 h)
    · exact .inl hx
  rcases hx2 with h | rfl
  · obtain ⟨c, hc1, hc2⟩ := caps_sizes hcs x h
    exact Nat.le_trans hc2 (he c hc1)
  · exact Nat.le_trans (join_drop_le _ _) hj
theorem filled_len {p : Pt.Pat} {caps : List (List UInt8)} (h : Pt.fillErr p caps = 0) (hp : ∀ x ∈ p.parts, x.length ≤ 100000) (hc : ∀ x ∈ caps, x.length ≤ 100000) (hl : caps.length ≤ 20) : (Pt.filled p caps).length ≤ 8000000 := by
  obtain ⟨hck, _, _⟩ := Pt.fillErr_zero.1 h
  have hok : Pt.capsOk p caps = true := by
    have h2 := Pt.fill_err p caps
    rw [if_pos hck, h] at h2
    cases hk : Pt.capsOk p caps with
    | true => rfl
    | false => rw [hk] at h2; simp at h2
  rw [Pt.fill_text hck hok]
  have h1 := lib_join_len 200000 (Pt.fillsOf p.parts caps ++ caps.drop (Pt.stars p.parts)) (by
    intro x hx
    rcases List.mem_append.1 hx with h | h
    · exact fills_sizes hp hc x h
    · exact Nat.le_trans (hc x (List.mem_of_mem_drop h)) (by decide))
  have h2 : (Pt.fillsOf p.parts caps ++ caps.drop (Pt.stars p.parts)).length ≤ 32 := by
    rw [List.length_append, Pt.fillsOf_len, List.length_drop]
    have := (Pt.check_ok.1 hck).2
    omega
  have h3 := Nat.mul_le_mul_right 200001 h2
  unfold Pm.join
  simp only [List.length_cons]
  omega

set_option maxHeartbeats 4000000 in
theorem match_any2 (A : Option Addr) (xs : List ByteArray) (c : Nat) (b : Bool) (p : Pt.Pat) (s : ByteArray) (w : World) (hp : PatR w A xs c b p) (hs : s.size < 4294967281) (hm : MaxL w) :
    Calls Tryz.prog 80 #[patV A xs.length c b, .string s] w (GivesPN w (Pt.matchP p s.data.toList)) := by
  obtain ⟨W0, hW0⟩ : ∃ W0, W0 = w.alloc (.cells #[.slice A xs.length c, .bool b] 24) := ⟨_, rfl⟩
  have halloc : Below w.heap.size w W0 := by rw [hW0]; exact (Below.refl _ _).alloc (Nat.le_refl _) _
  have hp0 := hp.keep halloc
  have hm0 := hm.keep halloc hm.size
  have HP := Lib.hid (split_path_any s W0 hs hm0)
  cases ho : Pt.pathO s.data.toList with
  | none =>
    have hon : Pt.matchP p s.data.toList = none := by unfold Pt.matchP; rw [ho]; simp
    rw [hon]
    rw [pathO_eq, ho] at HP
    generalize xs.length = n at *
    subst hW0
    have HAL := Lib.hid halloc
    clear ho hon hp hp0 halloc hs hm0
    go_enter Tryz.func80, Tryz.ntmps80
    go_wp2_with fail
    with_reducible refine HP.out.mono ?_
    rintro e w1 ⟨rfl, hb⟩
    have HB := Lib.hid hb
    clear hb
    go_wp2
    go_ret2
    exact ⟨rfl, HAL.out.trans (HB.out.mono (by simp))⟩
  | some l =>
    rw [pathO_eq, ho] at HP
    have HCk := Lib.hid (fun (w' : World) (hb : Below W0.heap.size W0 w') => check_any A xs c b p w' (hp0.keep hb))
    by_cases hk : Pt.check p = 0
    · have hn12 : xs.length ≤ 12 := by rw [← hp.len]; exact (Pt.check_ok.1 hk).2
      have hmn := Pt.match_narr hk ho
      have hlj : l = Pm.segs (Lib.join l [47]) := (Pm.segs_join l (by rintro rfl; simp [Pt.pathO_some] at ho) fun x hx => Pm.comp_slash ((Pt.pathO_some.1 ho).2.2 x hx)).symm
      have hjs : (Lib.join l [47]).length ≤ s.size := by
        have h3 := congrArg List.length (Pt.pathO_some.1 ho).1
        rw [← Lib.size_eq] at h3
        unfold Pm.join at h3
        simp only [List.length_cons] at h3
        omega
      have HEL := Lib.hid (show ∀ x ∈ l, x.length ≤ maxLen from fun x hx => by
        rw [hlj] at hx
        have h4 := segs_elem_le _ x hx
        unfold maxLen
        omega)
      have hml9 : l.length ≤ 4294967300 := by
        have h2 := segs_le (Lib.join l [47])
        rw [← hlj] at h2
        omega
      have HJD := Lib.hid (fun k => Nat.le_trans (join_drop_le k l) hjs)
      have hsz9 : s.size ≤ 4294967281 := by omega
      have HNr := Lib.hid (fun (w' : World) (hb : Below W0.heap.size W0 w') (B : Option Addr) (ys : List ByteArray) (d : Nat) (hr : RdS w' w'.heap.size B ys) (hd : ys.length ≤ d) (hdm : d ≤ maxLen) (hby : bs ys = l) =>
        narrowings_any A xs c b p B ys d false w' (hp0.keep hb) hr hd hdm (fun y hy => by rw [Lib.size_eq]; exact HEL.out _ (by rw [← hby]; exact List.mem_map_of_mem hy)) (by omega))
      rw [hk] at HCk
      have hns : ∀ r, Pt.narr p ⟨l, false⟩ = some r → if b then xs.length < l.length else l.length = xs.length := fun r h => by
        have h2 := narr_some h
        rw [← hp.rest, hp.len] at h2
        exact h2
      rw [hmn, ← hp.rest, hp.len]
      have HNE := Lib.hid (show ∀ ys : List ByteArray, bs ys = l → Pt.narr p ⟨bs ys, false⟩ = Pt.narr p ⟨l, false⟩ from fun ys h => by rw [h])
      have hpl12 : p.parts.length ≤ 12 := (Pt.check_ok.1 hk).2
      have HPL := Lib.hid hpl12
      clear hpl12
      generalize hnr : Pt.narr p ⟨l, false⟩ = o at *
      have HNRO := Lib.hid hnr
      obtain ⟨n, hn⟩ : ∃ n, n = xs.length := ⟨_, rfl⟩
      rw [← hn] at hW0 HCk HNr hns hn12 ⊢
      subst hW0
      have HAL := Lib.hid halloc
      have HNS := Lib.hid hns
      clear hmn ho hp hp0 halloc hs hm0 hlj hjs hk hnr hn hns
      cases o with
      | none =>
        go_enter Tryz.func80, Tryz.ntmps80
        go_wp2_with fail
        with_reducible refine HP.out.mono ?_
        rintro e w1 ⟨v, rfl, B, ys, d, rfl, hby, hd, hdm, hr, hb⟩
        obtain ⟨c0, c1⟩ := box_cells hb
        have hz : w.heap.size < w1.heap.size := by have := hb.size; simp at this; omega
        have HB := Lib.hid hb
        have HBY := Lib.hid hby
        have HR := Lib.hid hr
        have HD := Lib.hid (And.intro hd hdm)
        clear hb hby hr hd hdm
        go_wp2_with fail
        with_reducible refine (HCk.out _ HB.out).mono ?_
        rintro e w2 ⟨rfl, hb2⟩
        have HB2 := Lib.hid (show Below (w.alloc (.cells #[.slice A n c, .bool b] 24)).heap.size _ w2 from HB.out.trans (hb2.mono HB.out.size))
        have HR2 := Lib.hid ((HR.out.keep hb2).more hb2.size)
        obtain ⟨c2, c3⟩ := box_cells HB2.out
        have hz2 := hb2.size
        clear hb2 c0 c1
        have HN2 := Lib.hid (HNr.out w2 HB2.out B ys d HR2.out HD.out.1 HD.out.2 HBY.out)
        rw [HNE.out ys HBY.out] at HN2
        generalize ys.length = m at *
        go_wp2_with fail
        with_reducible refine HN2.out.mono ?_
        rintro e w3 ⟨rfl, hb3⟩
        have HB3 := Lib.hid hb3
        clear hb3
        go_wp2
        all_goals
          go_ret2
          exact ⟨rfl, (HAL.out.trans (HB2.out.mono (by simp))).trans (HB3.out.mono (by omega))⟩
      | some r =>
        cases b with
        | false =>
          go_enter Tryz.func80, Tryz.ntmps80
          go_wp2_with fail
          with_reducible refine HP.out.mono ?_
          rintro e w1 ⟨v, rfl, B, ys, d, rfl, hby, hd, hdm, hr, hb⟩
          obtain ⟨c0, c1⟩ := box_cells hb
          have hz : w.heap.size < w1.heap.size := by have := hb.size; simp at this; omega
          have HB := Lib.hid hb
          have HBY := Lib.hid hby
          have HR := Lib.hid hr
          have HD := Lib.hid (And.intro hd hdm)
          clear hb hby hr hd hdm
          go_wp2_with fail
          with_reducible refine (HCk.out _ HB.out).mono ?_
          rintro e w2 ⟨rfl, hb2⟩
          have HB2 := Lib.hid (show Below (w.alloc (.cells #[.slice A n c, .bool false] 24)).heap.size _ w2 from HB.out.trans (hb2.mono HB.out.size))
          have HR2 := Lib.hid ((HR.out.keep hb2).more hb2.size)
          obtain ⟨c2, c3⟩ := box_cells HB2.out
          have hz2 := hb2.size
          clear hb2 c0 c1
          have HN2 := Lib.hid (HNr.out w2 HB2.out B ys d HR2.out HD.out.1 HD.out.2 HBY.out)
          rw [HNE.out ys HBY.out] at HN2
          generalize ys.length = m at *
          go_wp2_with fail
          with_reducible refine HN2.out.mono ?_
          rintro e w3 ⟨v, zs, rfl, hown, hbz, hb3⟩
          have hb4 := HB2.out.trans (hb3.mono HB2.out.size)
          obtain ⟨c4, c5⟩ := box_cells hb4
          have HB3 := Lib.hid hb4
          obtain ⟨A', c', rfl, hc', hcm', hr', hn'⟩ := hown.form
          have HF := Lib.hid (And.intro hc' (And.intro hcm' (And.intro hr' hbz)))
          have HN' := Lib.hid hn'
          clear hb3 hb4 hown hbz hc' hcm' hr' c2 c3 hn'
          go_wp2
          go_ret2
          exact ⟨A', zs, c', rfl, HF.out.2.2.2, HF.out.1, HF.out.2.1, HN'.out, HF.out.2.2.1, HAL.out.trans (HB3.out.mono (by simp))⟩
        | true =>
          go_enter Tryz.func80, Tryz.ntmps80
          go_wp2_with fail
          with_reducible refine HP.out.mono ?_
          rintro e w1 ⟨v, rfl, B, ys, d, rfl, hby, hd, hdm, hr, hb⟩
          obtain ⟨c0, c1⟩ := box_cells hb
          have hz : w.heap.size < w1.heap.size := by have := hb.size; simp at this; omega
          have HB := Lib.hid hb
          have HBY := Lib.hid hby
          have HR := Lib.hid hr
          have HD := Lib.hid (And.intro hd hdm)
          have hlen : n < ys.length := by rw [← bs_length, hby]; simpa using HNS.out r rfl
          have hm9 : ys.length ≤ 4294967300 := by rw [← bs_length, hby]; exact hml9
          obtain ⟨m, hmy⟩ : ∃ m, m = ys.length := ⟨_, rfl⟩
          rw [← hmy] at hlen hm9 hd ⊢
          have HMY := Lib.hid hmy
          clear hb hby hr hdm hmy
          go_wp2_with fail
          with_reducible refine (HCk.out _ HB.out).mono ?_
          rintro e w2 ⟨rfl, hb2⟩
          have HB2 := Lib.hid (show Below (w.alloc (.cells #[.slice A n c, .bool true] 24)).heap.size _ w2 from HB.out.trans (hb2.mono HB.out.size))
          have HR2 := Lib.hid ((HR.out.keep hb2).more hb2.size)
          obtain ⟨c2, c3⟩ := box_cells HB2.out
          have hz2 := hb2.size
          clear hb2 c0 c1
          have HN2 := Lib.hid (HNr.out w2 HB2.out B ys d HR2.out HD.out.1 HD.out.2 HBY.out)
          rw [HNE.out ys HBY.out, ← HMY.out] at HN2
          go_wp2_with fail
          with_reducible refine HN2.out.mono ?_
          rintro e w3 ⟨v, zs, rfl, hown, hbz, hb3⟩
          have hb4 := HB2.out.trans (hb3.mono HB2.out.size)
          obtain ⟨c4, c5⟩ := box_cells hb4
          have HB3 := Lib.hid hb4
          have HR3 := Lib.hid ((HR2.out.keep hb3).more hb3.size)
          have HOWN := Lib.hid hown
          have HBZ := Lib.hid hbz
          have hz3 := hb3.size
          clear hb3 hb4 hown hbz c2 c3
          obtain ⟨g', og', rfl, hg', _⟩ := HR3.out.cells (by rw [← HMY.out]; omega)
          have hyd : (ys.drop n).length = m - n := by rw [List.length_drop, ← HMY.out]
          have hrd : RdS w3 w3.heap.size (some ⟨g', og' + n, none⟩) (ys.drop n) := HR3.out.drop n
          have HJ := Lib.hid (sjoin_any (some ⟨g', og' + n, none⟩) (ys.drop n) (d - n) ⟨#[47]⟩ w3 hrd (by rw [hyd]; omega) rfl (by rw [bs_dropN, HBY.out]; have := HJD.out n; omega) (by rw [hyd]; omega))
          rw [hyd, bs_dropN, HBY.out] at HJ
          have i1 : (n : Int) ≤ (m : Int) := by omega
          have i2 : (m : Int) ≤ (d : Int) := by omega
          have i3 : ¬ d = n := by omega
          have i4 : (d : Int) ≤ 9223372036854775807 := by have := HD.out.2; unfold maxLen at this; omega
          have hzl : zs.length ≤ 12 := by
            have := narr_len HNRO.out
            rw [← HBZ.out, bs_length] at this
            exact Nat.le_trans this HPL.out
          clear hyd hrd
          go_wp2_with fail
          with_reducible refine HJ.out.mono ?_
          rintro e w4 ⟨rfl, hb4⟩
          have hz4 := hb4.size
          have HB4 := Lib.hid hb4
          clear hb4
          go_wp2_with (refine wpList_append_ss rfl _ _ rfl w2.heap.size _ zs rfl ((HOWN.out.below HB4.out).below ((Below.refl _ _).alloc (Nat.le_refl _) _)) (some ⟨w4.heap.size, 0, none⟩) [⟨(Lib.join (l.drop n) [47]).toArray⟩] 1 rfl (new_one w4 _ _) (fun h => by cases h) (by simp; omega) (by simp; omega) ?_; intro v' w' hown' hb')
          obtain ⟨A', c', rfl, hc', hcm', hr', hn'⟩ := hown'.form
          have HF := Lib.hid (And.intro hc' (And.intro hcm' hr'))
          have HN' := Lib.hid hn'
          clear hn'
          have HB5 := Lib.hid (show Below w2.heap.size w4 w' from ((Below.refl _ _).alloc (by omega) _).trans hb')
          clear hc' hr' hcm' hown' hb'
          go_wp2
          go_ret2
          refine ⟨A', zs ++ [⟨(Lib.join (l.drop n) [47]).toArray⟩], c', rfl, ?_, HF.out.1, HF.out.2.1, HN'.out, HF.out.2.2, ((HAL.out.trans (HB3.out.mono (by simp))).trans (HB4.out.mono (by omega))).trans (HB5.out.mono (by omega))⟩
          rw [bs_append, HBZ.out]
          rfl
    · have hon : Pt.matchP p s.data.toList = none := by unfold Pt.matchP; rw [if_neg hk]
      rw [hon]
      have u1 : ((Pt.check p : Int) == 0) = false := by rw [beq_eq_false_iff_ne]; omega
      have u2 : ((Pt.check p : Int) != 0) = true := by rw [bne, u1]; rfl
      generalize Pt.check p = k1 at *
      generalize xs.length = n at *
      subst hW0
      have HAL := Lib.hid halloc
      clear ho hon hp hp0 halloc hs hm0 hk
      go_enter Tryz.func80, Tryz.ntmps80
      go_wp2_with fail
      with_reducible refine HP.out.mono ?_
      rintro e w1 ⟨v, rfl, B, ys, d, rfl, hby, hd, hdm, hr, hb⟩
      obtain ⟨c0, c1⟩ := box_cells hb
      have hz : w.heap.size < w1.heap.size := by have := hb.size; simp at this; omega
      have HB := Lib.hid hb
      clear hb hby hr hd hdm
      generalize ys.length = m at *
      go_wp2_with fail
      with_reducible refine (HCk.out _ HB.out).mono ?_
      rintro e w2 ⟨rfl, hb2⟩
      have HB2 := Lib.hid hb2
      clear hb2
      go_wp2
      go_ret2
      exact ⟨rfl, (HAL.out.trans (HB.out.mono (by simp))).trans (HB2.out.mono (by omega))⟩
end Go.Proofs.YthgcnlhlhipllaaGreatDoor
