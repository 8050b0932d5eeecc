/- The contracts of the program's starsIn, Within, Match. The contracts of the program's textOf, Format, Kinds, Literal. The contracts of the program's areComponents, wildcards, areCaptures, filled. -/
import Derived.Test.YtembmegllpkmfaaGreatDoorPatGoA
import Derived.Test.YtembmegllpkmfaaGreatDoorPatFnB
import Derived.Test.YtembmegllpkmfaaGreatDoorPatFnC
namespace Go.Proofs.YtembmegllpkmfaaGreatDoor
open Go.RowKit

set_option maxHeartbeats 2000000 in
theorem starsIn_any (A B : Option Addr) (xs ys : List ByteArray) (c d : Nat) (b b' : Bool) (p q : Pt.Pat) (w : World) (hp : PatR w A xs c b p) (hq : PatR w B ys d b' q) :
    Calls Tryz.prog 109 #[patV A xs.length c b, patV B ys.length d b'] w (GivesNr w (if Pt.check p = 0 ∧ Pt.check q = 0 then Pt.narr p q else none)) := by
  obtain ⟨W0, hW0⟩ : ∃ W0, W0 = (w.alloc (.cells #[.slice A xs.length c, .bool b] 24)).alloc (.cells #[.slice B ys.length d, .bool b'] 24) := ⟨_, rfl⟩
  have halloc : Below w.heap.size w W0 := by rw [hW0]; exact ((Below.refl _ _).alloc (Nat.le_refl _) _).alloc (by simp) _
  have hp0 := hp.keep halloc
  have hq0 := hq.keep halloc
  have HCp := Lib.hid (fun (w' : World) (hb : Below W0.heap.size W0 w') => check_any A xs c b p w' (hp0.keep hb))
  have HCq := Lib.hid (fun (w' : World) (hb : Below W0.heap.size W0 w') => check_any B ys d b' q w' (hq0.keep hb))
  have hqe : (⟨bs ys, b'⟩ : Pt.Pat) = q := Pt.Pat.ext' hq.parts hq.rest
  by_cases hk1 : Pt.check p = 0
  · have hn12 : xs.length ≤ 12 := by rw [← hp.len]; exact (Pt.check_ok.1 hk1).2
    rw [hk1] at HCp
    by_cases hk2 : Pt.check q = 0
    · rw [if_pos ⟨hk1, hk2⟩]
      rw [hk2] at HCq
      have HNr := Lib.hid (fun (w' : World) (hb : Below W0.heap.size W0 w') => narrowings_any A xs c b p B ys d b' w' (hp0.keep hb) ((hq0.keep hb).rd) hq.le hq.cm hq.sz (by omega))
      rw [hqe] at HNr
      generalize Pt.narr p q = o at HNr ⊢
      generalize xs.length = n at *
      generalize ys.length = m at *
      subst hW0
      have HAL := Lib.hid halloc
      clear hp hq hp0 hq0 hqe halloc hk1 hk2 hn12
      cases o with
      | none =>
        go_enter Tryz.func109, Tryz.ntmps109
        go_wp2_with fail
        with_reducible refine (HCp.out _ (Below.refl _ _)).mono ?_
        rintro e w1 ⟨rfl, hb1⟩
        obtain ⟨c0, c1, c2, c3⟩ := box2_cells hb1
        have HB1 := Lib.hid hb1
        have hz1 := hb1.size
        clear hb1
        simp at hz1
        go_wp2_with fail
        with_reducible refine (HCq.out _ HB1.out).mono ?_
        rintro e w2 ⟨rfl, hb2⟩
        have hb3 := HB1.out.trans (hb2.mono HB1.out.size)
        obtain ⟨d0, d1, d2, d3⟩ := box2_cells hb3
        have HB2 := Lib.hid hb3
        have hz2 := hb3.size
        clear hb2 hb3 c0 c1 c2 c3
        simp at hz2
        go_wp2_with fail
        with_reducible refine (HNr.out _ HB2.out).mono ?_
        rintro e w3 ⟨rfl, hb3⟩
        have HB3 := Lib.hid hb3
        clear hb3
        go_wp2
        go_ret2
        exact ⟨rfl, (HAL.out.trans (HB2.out.mono (by simp; omega))).trans (HB3.out.mono (by omega))⟩
      | some l =>
        go_enter Tryz.func109, Tryz.ntmps109
        go_wp2_with fail
        with_reducible refine (HCp.out _ (Below.refl _ _)).mono ?_
        rintro e w1 ⟨rfl, hb1⟩
        obtain ⟨c0, c1, c2, c3⟩ := box2_cells hb1
        have HB1 := Lib.hid hb1
        have hz1 := hb1.size
        clear hb1
        simp at hz1
        go_wp2_with fail
        with_reducible refine (HCq.out _ HB1.out).mono ?_
        rintro e w2 ⟨rfl, hb2⟩
        have hb3 := HB1.out.trans (hb2.mono HB1.out.size)
        obtain ⟨d0, d1, d2, d3⟩ := box2_cells hb3
        have HB2 := Lib.hid hb3
        have hz2 := hb3.size
        clear hb2 hb3 c0 c1 c2 c3
        simp at hz2
        go_wp2_with fail
        with_reducible refine (HNr.out _ HB2.out).mono ?_
        rintro e w3 ⟨v, zs, rfl, hown, hbz, hb3⟩
        have HB3 := Lib.hid hb3
        have HOWN := Lib.hid hown
        have HBZ := Lib.hid hbz
        clear hb3 hown hbz
        go_wp2
        go_ret2
        exact ⟨v, zs, rfl, HOWN.out.more (by omega), HBZ.out, (HAL.out.trans (HB2.out.mono (by simp; omega))).trans (HB3.out.mono (by omega))⟩
    · rw [if_neg (fun h => hk2 h.2)]
      have u1 : ((Pt.check q : Int) == 0) = false := by rw [beq_eq_false_iff_ne]; omega
      have u2 : ((Pt.check q : Int) != 0) = true := by rw [bne, u1]; rfl
      generalize Pt.check q = k2 at *
      generalize xs.length = n at *
      generalize ys.length = m at *
      subst hW0
      have HAL := Lib.hid halloc
      clear hp hq hp0 hq0 hqe halloc hk1 hk2 hn12
      go_enter Tryz.func109, Tryz.ntmps109
      go_wp2_with fail
      with_reducible refine (HCp.out _ (Below.refl _ _)).mono ?_
      rintro e w1 ⟨rfl, hb1⟩
      obtain ⟨c0, c1, c2, c3⟩ := box2_cells hb1
      have HB1 := Lib.hid hb1
      have hz1 := hb1.size
      clear hb1
      simp at hz1
      go_wp2_with fail
      with_reducible refine (HCq.out _ HB1.out).mono ?_
      rintro e w2 ⟨rfl, hb2⟩
      have HB2 := Lib.hid hb2
      clear hb2
      go_wp2
      go_ret2
      exact ⟨rfl, (HAL.out.trans (HB1.out.mono (by simp; omega))).trans (HB2.out.mono (by omega))⟩
  · rw [if_neg (fun h => hk1 h.1)]
    have u1 : ((Pt.check p : Int) == 0) = false := by rw [beq_eq_false_iff_ne]; omega
    have u2 : ((Pt.check p : Int) != 0) = true := by rw [bne, u1]; rfl
    generalize Pt.check p = k1 at *
    generalize xs.length = n at *
    generalize ys.length = m at *
    subst hW0
    have HAL := Lib.hid halloc
    clear hp hq hp0 hq0 hqe halloc hk1
    go_enter Tryz.func109, Tryz.ntmps109
    go_wp2_with fail
    with_reducible refine (HCp.out _ (Below.refl _ _)).mono ?_
    rintro e w1 ⟨rfl, hb1⟩
    have HB1 := Lib.hid hb1
    clear hb1
    go_wp2
    go_ret2
    exact ⟨rfl, HAL.out.trans (HB1.out.mono (by simp; omega))⟩

theorem within_stars (p q : Pt.Pat) : Pt.within p q = (if Pt.check q = 0 ∧ Pt.check p = 0 then Pt.narr q p else none).isSome := by
  by_cases h : Pt.check q = 0 ∧ Pt.check p = 0
  · rw [if_pos h, Pt.within_narr h.1 h.2]
  · rw [if_neg h]
    cases hw : Pt.within p q with
    | false => rfl
    | true =>
      obtain ⟨h1, h2, _⟩ := Pt.within_parts hw
      exact absurd ⟨h2, h1⟩ h
theorem within_any (A B : Option Addr) (xs ys : List ByteArray) (c d : Nat) (b b' : Bool) (p q : Pt.Pat) (w : World) (hp : PatR w A xs c b p) (hq : PatR w B ys d b' q) :
    Calls Tryz.prog 65 #[patV A xs.length c b, patV B ys.length d b'] w (GivesBB w (Pt.within p q)) := by
  obtain ⟨W0, hW0⟩ : ∃ W0, W0 = (w.alloc (.cells #[.slice A xs.length c, .bool b] 24)).alloc (.cells #[.slice B ys.length d, .bool b'] 24) := ⟨_, rfl⟩
  have halloc : Below w.heap.size w W0 := by rw [hW0]; exact ((Below.refl _ _).alloc (Nat.le_refl _) _).alloc (by simp) _
  have HS := Lib.hid (starsIn_any B A ys xs d c b' b q p W0 (hq.keep halloc) (hp.keep halloc))
  rw [within_stars]
  generalize (if Pt.check q = 0 ∧ Pt.check p = 0 then Pt.narr q p else none) = o at HS ⊢
  generalize xs.length = n at *
  generalize ys.length = m at *
  subst hW0
  have HAL := Lib.hid halloc
  clear hp hq halloc
  cases o with
  | none =>
    go_enter Tryz.func65, Tryz.ntmps65
    go_wp2_with fail
    with_reducible refine HS.out.mono ?_
    rintro e w1 ⟨rfl, hb1⟩
    have HB1 := Lib.hid hb1
    clear hb1
    go_wp2
    go_ret
    exact ⟨rfl, HAL.out.trans (HB1.out.mono (by simp; omega))⟩
  | some l =>
    go_enter Tryz.func65, Tryz.ntmps65
    go_wp2_with fail
    with_reducible refine HS.out.mono ?_
    rintro e w1 ⟨v, zs, rfl, _, _, hb1⟩
    have HB1 := Lib.hid hb1
    clear hb1
    go_wp2
    go_ret
    exact ⟨rfl, HAL.out.trans (HB1.out.mono (by simp; omega))⟩

theorem narr_some {p : Pt.Pat} {l r : List (List UInt8)} (h : Pt.narr p ⟨l, false⟩ = some r) : if p.rest then p.parts.length < l.length else l.length = p.parts.length := by
  unfold Pt.narr at h
  split at h
  · rename_i hc
    rw [Pt.counts_path] at hc
    unfold Pt.fits at hc
    cases hr : p.rest <;> rw [hr] at hc <;> simpa using hc
  · cases h
theorem narrsOf_len : ∀ {ps qs r : List (List UInt8)}, Pt.narrsOf ps qs = some r → r.length ≤ ps.length
  | [], _, r, h => by
    simp only [Pt.narrsOf, Option.some.injEq] at h
    subst h
    simp
  | _ :: _, [], r, h => by cases h
  | x :: ps, y :: qs, r, h => by
    rw [Pt.narrsOf_cons] at h
    cases hn : Pt.narrO x y with
    | none => rw [hn] at h; cases h
    | some u =>
      rw [hn] at h
      simp only [Option.map_eq_some_iff] at h
      obtain ⟨r', hr, rfl⟩ := h
      have := narrsOf_len hr
      split <;> simp <;> omega
theorem narr_len {p q : Pt.Pat} {r : List (List UInt8)} (h : Pt.narr p q = some r) : r.length ≤ p.parts.length := by
  unfold Pt.narr at h
  split at h
  · exact narrsOf_len h
  · cases h

set_option maxHeartbeats 4000000 in
theorem match_any (A : Option Addr) (xs : List ByteArray) (c : Nat) (b : Bool) (p : Pt.Pat) (s : ByteArray) (w : World) (hp : PatR w A xs c b p) (hs : s.size < 4294967281) (hm : MaxL w) :
    Calls Tryz.prog 104 #[patV A xs.length c b, .string s] w (GivesP w (Pt.matchP p s.data.toList)) := by
  obtain ⟨W0, hW0⟩ : ∃ W0, W0 = w.alloc (.cells #[.slice A xs.length c, .bool b] 24) := ⟨_, rfl⟩
  have halloc : Below w.heap.size w W0 := by rw [hW0]; exact (Below.refl _ _).alloc (Nat.le_refl _) _
  have hp0 := hp.keep halloc
  have hm0 := hm.keep halloc hm.size
  have HP := Lib.hid (split_path_any s W0 hs hm0)
  cases ho : Pt.pathO s.data.toList with
  | none =>
    have hon : Pt.matchP p s.data.toList = none := by unfold Pt.matchP; rw [ho]; simp
    rw [hon]
    rw [pathO_eq, ho] at HP
    generalize xs.length = n at *
    subst hW0
    have HAL := Lib.hid halloc
    clear ho hon hp hp0 halloc hs hm0
    go_enter Tryz.func104, Tryz.ntmps104
    go_wp2_with fail
    with_reducible refine HP.out.mono ?_
    rintro e w1 ⟨rfl, hb⟩
    have HB := Lib.hid hb
    clear hb
    go_wp2
    go_ret2
    exact ⟨rfl, HAL.out.trans (HB.out.mono (by simp))⟩
  | some l =>
    rw [pathO_eq, ho] at HP
    have HCk := Lib.hid (fun (w' : World) (hb : Below W0.heap.size W0 w') => check_any A xs c b p w' (hp0.keep hb))
    by_cases hk : Pt.check p = 0
    · have hn12 : xs.length ≤ 12 := by rw [← hp.len]; exact (Pt.check_ok.1 hk).2
      have hmn := Pt.match_narr hk ho
      have hlj : l = Pm.segs (Lib.join l [47]) := (Pm.segs_join l (by rintro rfl; simp [Pt.pathO_some] at ho) fun x hx => Pm.comp_slash ((Pt.pathO_some.1 ho).2.2 x hx)).symm
      have hjs : (Lib.join l [47]).length ≤ s.size := by
        have h3 := congrArg List.length (Pt.pathO_some.1 ho).1
        rw [← Lib.size_eq] at h3
        unfold Pm.join at h3
        simp only [List.length_cons] at h3
        omega
      have HEL := Lib.hid (show ∀ x ∈ l, x.length ≤ maxLen from fun x hx => by
        rw [hlj] at hx
        have h4 := segs_elem_le _ x hx
        unfold maxLen
        omega)
      have hml9 : l.length ≤ 4294967300 := by
        have h2 := segs_le (Lib.join l [47])
        rw [← hlj] at h2
        omega
      have HJD := Lib.hid (fun k => Nat.le_trans (join_drop_le k l) hjs)
      have hsz9 : s.size ≤ 4294967281 := by omega
      have HNr := Lib.hid (fun (w' : World) (hb : Below W0.heap.size W0 w') (B : Option Addr) (ys : List ByteArray) (d : Nat) (hr : RdS w' w'.heap.size B ys) (hd : ys.length ≤ d) (hdm : d ≤ maxLen) (hby : bs ys = l) =>
        narrowings_any A xs c b p B ys d false w' (hp0.keep hb) hr hd hdm (fun y hy => by rw [Lib.size_eq]; exact HEL.out _ (by rw [← hby]; exact List.mem_map_of_mem hy)) (by omega))
      rw [hk] at HCk
      have hns : ∀ r, Pt.narr p ⟨l, false⟩ = some r → if b then xs.length < l.length else l.length = xs.length := fun r h => by
        have h2 := narr_some h
        rw [← hp.rest, hp.len] at h2
        exact h2
      rw [hmn, ← hp.rest, hp.len]
      have HNE := Lib.hid (show ∀ ys : List ByteArray, bs ys = l → Pt.narr p ⟨bs ys, false⟩ = Pt.narr p ⟨l, false⟩ from fun ys h => by rw [h])
      have hpl12 : p.parts.length ≤ 12 := (Pt.check_ok.1 hk).2
      have HPL := Lib.hid hpl12
      clear hpl12
      generalize hnr : Pt.narr p ⟨l, false⟩ = o at *
      have HNRO := Lib.hid hnr
      obtain ⟨n, hn⟩ : ∃ n, n = xs.length := ⟨_, rfl⟩
      rw [← hn] at hW0 HCk HNr hns hn12 ⊢
      subst hW0
      have HAL := Lib.hid halloc
      have HNS := Lib.hid hns
      clear hmn ho hp hp0 halloc hs hm0 hlj hjs hk hnr hn hns
      cases o with
      | none =>
        go_enter Tryz.func104, Tryz.ntmps104
        go_wp2_with fail
        with_reducible refine HP.out.mono ?_
        rintro e w1 ⟨v, rfl, B, ys, d, rfl, hby, hd, hdm, hr, hb⟩
        obtain ⟨c0, c1⟩ := box_cells hb
        have hz : w.heap.size < w1.heap.size := by have := hb.size; simp at this; omega
        have HB := Lib.hid hb
        have HBY := Lib.hid hby
        have HR := Lib.hid hr
        have HD := Lib.hid (And.intro hd hdm)
        clear hb hby hr hd hdm
        go_wp2_with fail
        with_reducible refine (HCk.out _ HB.out).mono ?_
        rintro e w2 ⟨rfl, hb2⟩
        have HB2 := Lib.hid (show Below (w.alloc (.cells #[.slice A n c, .bool b] 24)).heap.size _ w2 from HB.out.trans (hb2.mono HB.out.size))
        have HR2 := Lib.hid ((HR.out.keep hb2).more hb2.size)
        obtain ⟨c2, c3⟩ := box_cells HB2.out
        have hz2 := hb2.size
        clear hb2 c0 c1
        have HN2 := Lib.hid (HNr.out w2 HB2.out B ys d HR2.out HD.out.1 HD.out.2 HBY.out)
        rw [HNE.out ys HBY.out] at HN2
        generalize ys.length = m at *
        go_wp2_with fail
        with_reducible refine HN2.out.mono ?_
        rintro e w3 ⟨rfl, hb3⟩
        have HB3 := Lib.hid hb3
        clear hb3
        go_wp2
        all_goals
          go_ret2
          exact ⟨rfl, (HAL.out.trans (HB2.out.mono (by simp))).trans (HB3.out.mono (by omega))⟩
      | some r =>
        cases b with
        | false =>
          go_enter Tryz.func104, Tryz.ntmps104
          go_wp2_with fail
          with_reducible refine HP.out.mono ?_
          rintro e w1 ⟨v, rfl, B, ys, d, rfl, hby, hd, hdm, hr, hb⟩
          obtain ⟨c0, c1⟩ := box_cells hb
          have hz : w.heap.size < w1.heap.size := by have := hb.size; simp at this; omega
          have HB := Lib.hid hb
          have HBY := Lib.hid hby
          have HR := Lib.hid hr
          have HD := Lib.hid (And.intro hd hdm)
          clear hb hby hr hd hdm
          go_wp2_with fail
          with_reducible refine (HCk.out _ HB.out).mono ?_
          rintro e w2 ⟨rfl, hb2⟩
          have HB2 := Lib.hid (show Below (w.alloc (.cells #[.slice A n c, .bool false] 24)).heap.size _ w2 from HB.out.trans (hb2.mono HB.out.size))
          have HR2 := Lib.hid ((HR.out.keep hb2).more hb2.size)
          obtain ⟨c2, c3⟩ := box_cells HB2.out
          have hz2 := hb2.size
          clear hb2 c0 c1
          have HN2 := Lib.hid (HNr.out w2 HB2.out B ys d HR2.out HD.out.1 HD.out.2 HBY.out)
          rw [HNE.out ys HBY.out] at HN2
          generalize ys.length = m at *
          go_wp2_with fail
          with_reducible refine HN2.out.mono ?_
          rintro e w3 ⟨v, zs, rfl, hown, hbz, hb3⟩
          have hb4 := HB2.out.trans (hb3.mono HB2.out.size)
          obtain ⟨c4, c5⟩ := box_cells hb4
          have HB3 := Lib.hid hb4
          obtain ⟨A', c', rfl, hc', hcm', hr', _⟩ := hown.form
          have HF := Lib.hid (And.intro hc' (And.intro hcm' (And.intro hr' hbz)))
          clear hb3 hb4 hown hbz hc' hcm' hr' c2 c3
          go_wp2
          go_ret2
          exact ⟨_, rfl, A', zs, c', rfl, HF.out.2.2.2, HF.out.1, HF.out.2.1, HF.out.2.2.1, HAL.out.trans (HB3.out.mono (by simp))⟩
        | true =>
          go_enter Tryz.func104, Tryz.ntmps104
          go_wp2_with fail
          with_reducible refine HP.out.mono ?_
          rintro e w1 ⟨v, rfl, B, ys, d, rfl, hby, hd, hdm, hr, hb⟩
          obtain ⟨c0, c1⟩ := box_cells hb
          have hz : w.heap.size < w1.heap.size := by have := hb.size; simp at this; omega
          have HB := Lib.hid hb
          have HBY := Lib.hid hby
          have HR := Lib.hid hr
          have HD := Lib.hid (And.intro hd hdm)
          have hlen : n < ys.length := by rw [← bs_length, hby]; simpa using HNS.out r rfl
          have hm9 : ys.length ≤ 4294967300 := by rw [← bs_length, hby]; exact hml9
          obtain ⟨m, hmy⟩ : ∃ m, m = ys.length := ⟨_, rfl⟩
          rw [← hmy] at hlen hm9 hd ⊢
          have HMY := Lib.hid hmy
          clear hb hby hr hdm hmy
          go_wp2_with fail
          with_reducible refine (HCk.out _ HB.out).mono ?_
          rintro e w2 ⟨rfl, hb2⟩
          have HB2 := Lib.hid (show Below (w.alloc (.cells #[.slice A n c, .bool true] 24)).heap.size _ w2 from HB.out.trans (hb2.mono HB.out.size))
          have HR2 := Lib.hid ((HR.out.keep hb2).more hb2.size)
          obtain ⟨c2, c3⟩ := box_cells HB2.out
          have hz2 := hb2.size
          clear hb2 c0 c1
          have HN2 := Lib.hid (HNr.out w2 HB2.out B ys d HR2.out HD.out.1 HD.out.2 HBY.out)
          rw [HNE.out ys HBY.out, ← HMY.out] at HN2
          go_wp2_with fail
          with_reducible refine HN2.out.mono ?_
          rintro e w3 ⟨v, zs, rfl, hown, hbz, hb3⟩
          have hb4 := HB2.out.trans (hb3.mono HB2.out.size)
          obtain ⟨c4, c5⟩ := box_cells hb4
          have HB3 := Lib.hid hb4
          have HR3 := Lib.hid ((HR2.out.keep hb3).more hb3.size)
          have HOWN := Lib.hid hown
          have HBZ := Lib.hid hbz
          have hz3 := hb3.size
          clear hb3 hb4 hown hbz c2 c3
          obtain ⟨g', og', rfl, hg', _⟩ := HR3.out.cells (by rw [← HMY.out]; omega)
          have hyd : (ys.drop n).length = m - n := by rw [List.length_drop, ← HMY.out]
          have hrd : RdS w3 w3.heap.size (some ⟨g', og' + n, none⟩) (ys.drop n) := HR3.out.drop n
          have HJ := Lib.hid (sjoin_any (some ⟨g', og' + n, none⟩) (ys.drop n) (d - n) ⟨#[47]⟩ w3 hrd (by rw [hyd]; omega) rfl (by rw [bs_dropN, HBY.out]; have := HJD.out n; omega) (by rw [hyd]; omega))
          rw [hyd, bs_dropN, HBY.out] at HJ
          have i1 : (n : Int) ≤ (m : Int) := by omega
          have i2 : (m : Int) ≤ (d : Int) := by omega
          have i3 : ¬ d = n := by omega
          have i4 : (d : Int) ≤ 9223372036854775807 := by have := HD.out.2; unfold maxLen at this; omega
          have hzl : zs.length ≤ 12 := by
            have := narr_len HNRO.out
            rw [← HBZ.out, bs_length] at this
            exact Nat.le_trans this HPL.out
          clear hyd hrd
          go_wp2_with fail
          with_reducible refine HJ.out.mono ?_
          rintro e w4 ⟨rfl, hb4⟩
          have hz4 := hb4.size
          have HB4 := Lib.hid hb4
          clear hb4
          go_wp2_with (refine wpList_append_ss rfl _ _ rfl w2.heap.size _ zs rfl ((HOWN.out.below HB4.out).below ((Below.refl _ _).alloc (Nat.le_refl _) _)) (some ⟨w4.heap.size, 0, none⟩) [⟨(Lib.join (l.drop n) [47]).toArray⟩] 1 rfl (new_one w4 _ _) (fun h => by cases h) (by simp; omega) (by simp; omega) ?_; intro v' w' hown' hb')
          obtain ⟨A', c', rfl, hc', hcm', hr', _⟩ := hown'.form
          have HF := Lib.hid (And.intro hc' (And.intro hcm' hr'))
          have HB5 := Lib.hid (show Below w2.heap.size w4 w' from ((Below.refl _ _).alloc (by omega) _).trans hb')
          clear hc' hr' hcm' hown' hb'
          go_wp2
          go_ret2
          refine ⟨_, rfl, A', zs ++ [⟨(Lib.join (l.drop n) [47]).toArray⟩], c', rfl, ?_, HF.out.1, HF.out.2.1, HF.out.2.2, ((HAL.out.trans (HB3.out.mono (by simp))).trans (HB4.out.mono (by omega))).trans (HB5.out.mono (by omega))⟩
          rw [bs_append, HBZ.out]
          rfl
    · have hon : Pt.matchP p s.data.toList = none := by unfold Pt.matchP; rw [if_neg hk]
      rw [hon]
      have u1 : ((Pt.check p : Int) == 0) = false := by rw [beq_eq_false_iff_ne]; omega
      have u2 : ((Pt.check p : Int) != 0) = true := by rw [bne, u1]; rfl
      generalize Pt.check p = k1 at *
      generalize xs.length = n at *
      subst hW0
      have HAL := Lib.hid halloc
      clear ho hon hp hp0 halloc hs hm0 hk
      go_enter Tryz.func104, Tryz.ntmps104
      go_wp2_with fail
      with_reducible refine HP.out.mono ?_
      rintro e w1 ⟨v, rfl, B, ys, d, rfl, hby, hd, hdm, hr, hb⟩
      obtain ⟨c0, c1⟩ := box_cells hb
      have hz : w.heap.size < w1.heap.size := by have := hb.size; simp at this; omega
      have HB := Lib.hid hb
      clear hb hby hr hd hdm
      generalize ys.length = m at *
      go_wp2_with fail
      with_reducible refine (HCk.out _ HB.out).mono ?_
      rintro e w2 ⟨rfl, hb2⟩
      have HB2 := Lib.hid hb2
      clear hb2
      go_wp2
      go_ret2
      exact ⟨rfl, (HAL.out.trans (HB.out.mono (by simp))).trans (HB2.out.mono (by omega))⟩
end Go.Proofs.YtembmegllpkmfaaGreatDoor

namespace Go.Proofs.YtembmegllpkmfaaGreatDoor
open Go.RowKit

theorem textOf_any (A : Option Addr) (xs : List ByteArray) (c : Nat) (w : World) (hr : RdS w w.heap.size A xs) (hc : xs.length ≤ c) (hlen : (Lib.join (bs xs) [47]).length ≤ 140737488355000) (hN : xs.length ≤ 140737488355328) :
    Calls Tryz.prog 135 #[.slice A xs.length c] w (GivesS w (Pm.join (bs xs))) := by
  have HJ := Lib.hid (sjoin_any A xs c ⟨#[47]⟩ w hr hc rfl (by omega) hN)
  have hj : Pm.join (bs xs) = 47 :: 47 :: Lib.join (bs xs) [47] := rfl
  rw [hj]
  clear hj hr hc
  generalize Lib.join (bs xs) [47] = l at HJ hlen
  generalize xs.length = n at HJ hN
  go_enter Tryz.func135, Tryz.ntmps135
  go_wp2_with fail
  with_reducible refine HJ.out.mono ?_
  rintro e w1 ⟨rfl, hb⟩
  go_wp2
  go_ret
  exact ⟨ret_str (slash2 l), hb⟩

theorem dots3 (l : List UInt8) : (ByteArray.mk l.toArray) ++ (ByteArray.mk #[47, 46, 46, 46]) = ⟨(l ++ [47, 46, 46, 46]).toArray⟩ := by
  apply ba_ext
  simp [ByteArray.data_append]
def formatted (p : Pt.Pat) : List UInt8 := if Pt.check p = 0 then Pt.text p else []
theorem format_any (A : Option Addr) (xs : List ByteArray) (c : Nat) (b : Bool) (p : Pt.Pat) (w : World) (hp : PatR w A xs c b p) (hlen : (Lib.join p.parts [47]).length ≤ 140737488350000) (hN : xs.length ≤ 140737488355328) :
    Calls Tryz.prog 113 #[patV A xs.length c b] w (GivesS2 w (formatted p) (Pt.check p)) := by
  have halloc : Below w.heap.size w (w.alloc (.cells #[.slice A xs.length c, .bool b] 24)) := (Below.refl _ _).alloc (Nat.le_refl _) _
  have HCk := Lib.hid (check_any A xs c b p _ (hp.keep halloc))
  have HT := Lib.hid (fun (w' : World) (hb : Below w.heap.size w w') => textOf_any A xs c w' ((hp.keep hb).rd) hp.le (by rw [hp.parts]; omega) hN)
  rw [hp.parts] at HT
  have ht : Pt.text p = Pm.join p.parts ++ (if b then [47, 46, 46, 46] else []) := by rw [hp.rest]; rfl
  have hjl : (Pm.join p.parts).length ≤ 140737488350100 := by unfold Pm.join; simp only [List.length_cons]; omega
  unfold formatted
  rw [ht]
  have HAL := Lib.hid halloc
  generalize Pm.join p.parts = l at HT hjl
  by_cases hk : Pt.check p = 0
  · rw [if_pos hk, hk]
    rw [hk] at HCk
    generalize xs.length = n at *
    clear hp hlen hN halloc ht hk
    cases b with
    | false =>
      simp only [Bool.false_eq_true, if_false, List.append_nil]
      go_enter Tryz.func113, Tryz.ntmps113
      go_wp2_with fail
      with_reducible refine HCk.out.mono ?_
      rintro e w1 ⟨rfl, hb⟩
      obtain ⟨c0, c1⟩ := box_cells hb
      have HB := Lib.hid (HAL.out.trans (hb.mono HAL.out.size))
      clear hb
      go_wp2_with fail
      with_reducible refine (HT.out _ HB.out).mono ?_
      rintro e w2 ⟨rfl, hb2⟩
      have HB2 := Lib.hid (HB.out.trans (hb2.mono HB.out.size))
      have d1 := (hb2.cell (p := ⟨w.heap.size, 1, none⟩) (by have := World.block_lt_of_cell? w1 _ c1; exact this)).trans c1
      clear hb2 c0 c1
      go_wp2
      go_ret2
      exact ⟨rfl, HB2.out⟩
    | true =>
      simp only [if_true]
      go_enter Tryz.func113, Tryz.ntmps113
      go_wp2_with fail
      with_reducible refine HCk.out.mono ?_
      rintro e w1 ⟨rfl, hb⟩
      obtain ⟨c0, c1⟩ := box_cells hb
      have HB := Lib.hid (HAL.out.trans (hb.mono HAL.out.size))
      clear hb
      go_wp2_with fail
      with_reducible refine (HT.out _ HB.out).mono ?_
      rintro e w2 ⟨rfl, hb2⟩
      have HB2 := Lib.hid (HB.out.trans (hb2.mono HB.out.size))
      have d1 := (hb2.cell (p := ⟨w.heap.size, 1, none⟩) (by have := World.block_lt_of_cell? w1 _ c1; exact this)).trans c1
      clear hb2 c0 c1
      go_wp2
      go_ret2
      exact ⟨ret_str2 (dots3 l) rfl, HB2.out⟩
  · rw [if_neg hk]
    have u1 : ((Pt.check p : Int) == 0) = false := by rw [beq_eq_false_iff_ne]; omega
    have u2 : ((Pt.check p : Int) != 0) = true := by rw [bne, u1]; rfl
    generalize Pt.check p = k1 at *
    generalize xs.length = n at *
    clear hp hlen hN halloc ht hk
    go_enter Tryz.func113, Tryz.ntmps113
    go_wp2_with fail
    with_reducible refine HCk.out.mono ?_
    rintro e w1 ⟨rfl, hb⟩
    have HB := Lib.hid (HAL.out.trans (hb.mono HAL.out.size))
    clear hb
    go_wp2
    go_ret2
    exact ⟨rfl, HB.out⟩

def GivesK (w : World) (n : Nat) (r : Bool) (k : Nat) (e : Ending) (w' : World) : Prop := e = .returned (.tuple #[.int .i64 (n : Int), .bool r, .int .i64 (k : Int)]) ∧ Below w.heap.size w w'
def kindsN (p : Pt.Pat) : Nat := if Pt.check p = 0 then Pt.stars p.parts else 0
def kindsR (p : Pt.Pat) : Bool := if Pt.check p = 0 then p.rest else false
theorem star_formN (x : List UInt8) : (((Pt.formN x : Int) == 2) = (Pt.star x).isSome) := by
  cases hs : Pt.star x with
  | none =>
    have : Pt.formN x ≠ 2 := fun h => by
      obtain ⟨s, h2⟩ := Pt.form_two_iff.1 h
      rw [hs] at h2
      cases h2
    rw [Option.isSome_none, beq_eq_false_iff_ne]
    omega
  | some s => rw [Pt.form_two_iff.2 ⟨s, hs⟩]; rfl
set_option maxHeartbeats 1000000 in
theorem kinds_any (A : Option Addr) (xs : List ByteArray) (c : Nat) (b : Bool) (p : Pt.Pat) (w : World) (hp : PatR w A xs c b p) : Calls Tryz.prog 122 #[patV A xs.length c b] w (GivesK w (kindsN p) (kindsR p) (Pt.check p)) := by
  have halloc : Below w.heap.size w (w.alloc (.cells #[.slice A xs.length c, .bool b] 24)) := (Below.refl _ _).alloc (Nat.le_refl _) _
  have HCk := Lib.hid (check_any A xs c b p _ (hp.keep halloc))
  have hcm := hp.cm
  have hle := hp.le
  unfold maxLen at hcm
  unfold kindsN kindsR
  by_cases hk : Pt.check p = 0
  · rw [if_pos hk, if_pos hk, hk]
    rw [hk] at HCk
    rw [← hp.parts, ← hp.rest]
    have HCE := Lib.hid (fun h => hp.rd.cells h)
    have HSZ := Lib.hid hp.sz
    have HST := Lib.hid (fun k => stars_le ((bs xs).take k))
    obtain ⟨n, hn⟩ : ∃ n, n = xs.length := ⟨_, rfl⟩
    rw [← hn] at hle halloc HCk ⊢
    have HN := Lib.hid hn
    have hnn : (n : Int) ≤ 9223372036854775807 := by omega
    have HAL := Lib.hid halloc
    clear hp hn halloc hk
    go_enter Tryz.func122, Tryz.ntmps122
    go_wp2_with fail
    with_reducible refine HCk.out.mono ?_
    rintro e w1 ⟨rfl, hb⟩
    obtain ⟨c0, c1⟩ := box_cells hb
    have HB := Lib.hid (HAL.out.trans (hb.mono HAL.out.size))
    clear hb
    go_wp2
    go_loop [2, 16] (fun t i => ∃ k : Nat, k ≤ n ∧ i = .int .i64 k ∧ t = .int .i64 (Pt.stars ((bs xs).take k) : Nat)) (fun _ i => n - (intOf i).toNat)
    case atStart => exact ⟨0, by omega, rfl, rfl⟩
    case round =>
      obtain ⟨k, hkn, rfl, rfl⟩ := hrel
      have hst := HST.out k
      rw [List.length_take, bs_length, ← HN.out] at hst
      have hst2 : Pt.stars ((bs xs).take k) ≤ k := by omega
      by_cases hlt : k < n
      · have hlx : k < xs.length := by rw [← HN.out]; exact hlt
        obtain ⟨g, o, rfl, hg, hcell⟩ := HCE.out (by omega)
        have hce := (HB.out.cell (p := ⟨g, o + k, none⟩) hg).trans (hcell k hlx)
        have hsz := HSZ.out _ (List.getElem_mem hlx)
        have HT := Lib.hid (stars_take (l := bs xs) (k := k) (by rw [bs_length]; exact hlx))
        rw [bs_get xs k hlx] at HT
        clear hcell hst
        generalize xs[k] = x at hce hsz HT
        have HS := Lib.hid (fun w : World => formOf_any x w hsz)
        have hf := star_formN x.data.toList
        generalize Pt.stars ((bs xs).take k) = t at *
        generalize Pt.formN x.data.toList = f at *
        have ht9 : (t : Int) ≤ (k : Int) := by omega
        have hk9 : (k : Int) + 1 ≤ 9223372036854775807 := by omega
        cases ho : Pt.star x.data.toList with
        | none =>
          rw [ho] at HT hf
          go_wp2_with fail
          with_reducible refine (HS.out _).mono ?_
          rintro e w' ⟨rfl, rfl⟩
          go_wp2
          go_round
          case rel => exact ⟨k + 1, by omega, by go_num, by rw [HT.out]; rfl⟩
          case measure => simp [intOf]; omega
        | some s =>
          rw [ho] at HT hf
          go_wp2_with fail
          with_reducible refine (HS.out _).mono ?_
          rintro e w' ⟨rfl, rfl⟩
          go_wp2
          go_round
          case rel => exact ⟨k + 1, by omega, by go_num, by rw [HT.out]; simp⟩
          case measure => simp [intOf]; omega
      · obtain rfl : k = n := by omega
        have hv : (bs xs).take k = bs xs := List.take_of_length_le (by rw [bs_length, ← HN.out]; omega)
        rw [hv]
        clear hv hst hst2
        generalize Pt.stars (bs xs) = t at *
        go_wp2
        go_quiet (fail)
        go_wp2
        refine bodyPost_ret (v := .tuple #[.int .i64 t, .bool b, .int .i64 0]) (by simp [results, Tryz.results122, go_sem]) rfl ⟨rfl, ?_⟩
        exact below_drewN HB.out _
  · rw [if_neg hk, if_neg hk]
    have u1 : ((Pt.check p : Int) == 0) = false := by rw [beq_eq_false_iff_ne]; omega
    have u2 : ((Pt.check p : Int) != 0) = true := by rw [bne, u1]; rfl
    generalize Pt.check p = k1 at *
    generalize xs.length = n at *
    have HAL := Lib.hid halloc
    clear hp halloc hk
    go_enter Tryz.func122, Tryz.ntmps122
    go_wp2_with fail
    with_reducible refine HCk.out.mono ?_
    rintro e w1 ⟨rfl, hb⟩
    have HB := Lib.hid (HAL.out.trans (hb.mono HAL.out.size))
    clear hb
    go_wp2
    refine bodyPost_ret (v := .tuple #[.int .i64 (0 : Nat), .bool false, .int .i64 k1]) (by simp [results, Tryz.results122, go_sem]) rfl ⟨rfl, HB.out⟩

/-- What Literal hands back. -/
def litOk (p : Pt.Pat) : Bool := decide (Pt.check p = 0) && decide (Pt.stars p.parts = 0) && !p.rest
def GivesLit (w : World) (p : Pt.Pat) (e : Ending) (w' : World) : Prop := e = .returned (.tuple #[.string ⟨(if litOk p then Pm.join p.parts else []).toArray⟩, .bool (litOk p)]) ∧ Below w.heap.size w w'
end Go.Proofs.YtembmegllpkmfaaGreatDoor

namespace Go.Proofs.YtembmegllpkmfaaGreatDoor
open Go.RowKit

theorem areComponents_any (A : Option Addr) (xs : List ByteArray) (c : Nat) (w : World) (hr : RdS w w.heap.size A xs) (hc : xs.length ≤ c) (hcm : c ≤ maxLen) (hx : ∀ x ∈ xs, x.size ≤ maxLen) :
    Calls Tryz.prog 162 #[.slice A xs.length c] w fun e w' => e = .returned (.bool ((bs xs).all Pm.comp)) ∧ w = w' := by
  unfold maxLen at hcm
  have HX := Lib.hid hx
  have HR := Lib.hid hr
  have HA := Lib.hid (show ((bs xs).drop 0).all Pm.comp = (bs xs).all Pm.comp by simp)
  generalize (bs xs).all Pm.comp = b at HA ⊢
  obtain ⟨n, hn⟩ : ∃ n, n = xs.length := ⟨_, rfl⟩
  rw [← hn] at hc ⊢
  have HN := Lib.hid hn
  have hnm : (n : Int) ≤ 9223372036854775807 := by omega
  clear hn hr hx
  go_enter Tryz.func162, Tryz.ntmps162
  go_wp2
  go_loop [7] (fun i => ∃ k : Nat, k ≤ n ∧ i = .int .i64 k ∧ ((bs xs).drop k).all Pm.comp = b) (fun i => n - (intOf i).toNat)
  case atStart => exact ⟨0, by omega, rfl, HA.out⟩
  case round =>
    obtain ⟨k, hkn, rfl, hall⟩ := hrel
    have HB := Lib.hid hall
    clear hall
    by_cases hlt : k < n
    · have hlx : k < xs.length := by rw [← HN.out]; exact hlt
      obtain ⟨g, o, rfl, hg, hcell0⟩ := HR.out.cells (by omega)
      have hcell := hcell0 k hlx
      have hsz : xs[k].size ≤ maxLen := HX.out _ (List.getElem_mem hlx)
      have HD := Lib.hid (bs_drop hlx)
      clear hcell0
      generalize xs[k] = x at hcell hsz HD
      have HF := Lib.hid (fun w : World => comp_any x w hsz)
      clear hsz
      cases hv : Pm.comp x.data.toList with
      | true =>
        rw [hv] at HD HF
        go_wp2_with fail
        with_reducible refine (HF.out _).mono ?_
        rintro e w' ⟨rfl, rfl⟩
        go_wp2
        go_round
        case rel => exact ⟨k + 1, by omega, by go_num, by have := HD.out; rw [HB.out] at this; simpa using this.symm⟩
        case measure => simp [intOf]; omega
      | false =>
        rw [hv] at HD HF
        have hb : b = false := by have := HD.out; rw [HB.out] at this; simpa using this
        subst hb
        go_wp2_with fail
        with_reducible refine (HF.out _).mono ?_
        rintro e w' ⟨rfl, rfl⟩
        go_wp2
        go_ret
        exact ⟨rfl, rfl⟩
    · have hb : b = true := by
        rw [← HB.out, List.drop_of_length_le (by rw [bs_length, ← HN.out]; omega)]
        rfl
      subst hb
      go_wp2
      go_ret
      exact ⟨rfl, rfl⟩

theorem wildcards_any (s : Nat) (r : Bool) (w : World) (hs : s ≤ 1000000) : Calls Tryz.prog 161 #[.int .i64 (s : Int), .bool r] w fun e w' => e = .returned (.int .i64 ((s + if r then 1 else 0 : Nat) : Int)) ∧ w = w' := by
  cases r with
  | false =>
    go_enter Tryz.func161, Tryz.ntmps161
    go_wp2
    go_ret
    exact ⟨rfl, rfl⟩
  | true =>
    go_enter Tryz.func161, Tryz.ntmps161
    go_wp2
    go_ret
    exact ⟨rfl, rfl⟩

def capsOkN (s : Nat) (r : Bool) (caps : List (List UInt8)) : Bool := decide (caps.length = s + if r then 1 else 0) && (caps.take s).all Pm.comp && (!r || (Pm.segs (caps.getD s [])).all Pm.comp)
theorem strs_sizes {l : List UInt8} {ys : List ByteArray} (h : bs ys = Pm.segs l) (hl : l.length ≤ 9000000000) : ∀ y ∈ ys, y.size ≤ maxLen := by
  intro y hy
  have h5 := segs_elem_le l y.data.toList (by rw [← h]; exact List.mem_map_of_mem hy)
  rw [← Lib.size_eq] at h5
  unfold maxLen
  omega
set_option maxHeartbeats 1000000 in
theorem areCaptures_any (A : Option Addr) (ys : List ByteArray) (d s : Nat) (r : Bool) (w : World) (hr : RdS w w.heap.size A ys) (hd : ys.length ≤ d) (hdm : d ≤ maxLen) (hnil : A = none → d = 0) (hy : ∀ y ∈ ys, y.size ≤ 100000) (hs : s ≤ 1000) (hm : MaxL w) :
    Calls Tryz.prog 134 #[.slice A ys.length d, .int .i64 (s : Int), .bool r] w (GivesBB w (capsOkN s r (bs ys))) := by
  have hv : capsOkN s r (bs ys) = (decide (ys.length = s + if r then 1 else 0) && ((bs ys).take s).all Pm.comp && (!r || (Pm.segs ((bs ys).getD s [])).all Pm.comp)) := by unfold capsOkN; rw [bs_length]
  have HW := Lib.hid (fun w : World => wildcards_any s r w (by omega))
  have HAC := Lib.hid (fun (hl : s ≤ ys.length) (w' : World) (hb : Below w.heap.size w w') => areComponents_any A (ys.take s) d w' (((hr.take s).keep hb).more hb.size) (by rw [List.length_take]; omega) hdm (fun y hy' => Nat.le_trans (hy y (List.mem_of_mem_take hy')) (by decide)))
  have hdi : (d : Int) ≤ 9223372036854775807 := by unfold maxLen at hdm; omega
  have HY := Lib.hid hy
  have HR := Lib.hid hr
  generalize capsOkN s r (bs ys) = v at hv ⊢
  by_cases hl : ys.length = s + if r then 1 else 0
  · have hsl : s ≤ ys.length := by omega
    have htl : (ys.take s).length = s := by rw [List.length_take]; omega
    have HA2 := Lib.hid (HAC.out hsl)
    rw [htl, bs_takeN] at HA2
    rw [decide_eq_true hl, Bool.true_and] at hv
    have hd2 : (s : Int) ≤ (d : Int) := by omega
    have hs2 : (s : Int) ≤ (ys.length : Int) := by omega
    generalize hca : ((bs ys).take s).all Pm.comp = ca at HA2 hv
    cases ca with
    | false =>
      have hvf : v = false := by rw [hv]; rfl
      subst hvf
      rw [← hl] at HW
      generalize ys.length = m at *
      clear hv hl HAC hr hy hca
      go_enter Tryz.func134, Tryz.ntmps134
      go_wp2_with fail
      with_reducible refine (HW.out _).mono ?_
      rintro e w' ⟨rfl, rfl⟩
      go_wp2_with fail
      with_reducible refine (HA2.out _ (Below.refl _ _)).mono ?_
      rintro e w' ⟨rfl, rfl⟩
      go_wp2
      go_ret
      exact ⟨rfl, Below.refl _ _⟩
    | true =>
      cases r with
      | false =>
        have hvt : v = true := by rw [hv]; rfl
        subst hvt
        rw [← hl] at HW
        generalize ys.length = m at *
        clear hv hl HAC hr hy hca
        go_enter Tryz.func134, Tryz.ntmps134
        go_wp2_with fail
        with_reducible refine (HW.out _).mono ?_
        rintro e w' ⟨rfl, rfl⟩
        go_wp2_with fail
        with_reducible refine (HA2.out _ (Below.refl _ _)).mono ?_
        rintro e w' ⟨rfl, rfl⟩
        go_wp2
        go_ret
        exact ⟨rfl, Below.refl _ _⟩
      | true =>
        simp only [if_true] at hl
        have hly : s < ys.length := by omega
        have hgd : (bs ys).getD s [] = ys[s].data.toList := by
          rw [List.getD_eq_getElem?_getD, List.getElem?_eq_getElem (by rw [bs_length]; exact hly)]
          exact bs_get ys s hly
        rw [hgd] at hv
        simp only [Bool.not_true, Bool.false_or, Bool.true_and] at hv
        obtain ⟨g, o, rfl, hg, hcell⟩ := hr.cells (by omega)
        have hce := hcell s hly
        have hsz : ys[s].size ≤ 100000 := hy _ (List.getElem_mem hly)
        generalize ys[s] = y at *
        have HS := Lib.hid (fun (w : World) (hm : MaxL w) => split_any y ⟨#[47]⟩ w rfl (by omega) hm)
        have hyl : y.data.toList.length ≤ 9000000000 := by rw [← Lib.size_eq]; omega
        have HSL := Lib.hid hyl
        have hls : ((ys.length : Nat) : Int) = ((s + 1 : Nat) : Int) := by omega
        rw [if_pos rfl, ← hl] at HW
        have i1 : (s : Int) < (ys.length : Int) := by omega
        clear hl HAC hr hy hca hgd hcell hyl hly
        generalize ys.length = m at *
        have HV := Lib.hid hv
        clear hv
        go_enter Tryz.func134, Tryz.ntmps134
        go_wp2_with fail
        with_reducible refine (HW.out _).mono ?_
        rintro e w' ⟨rfl, rfl⟩
        go_wp2_with fail
        with_reducible refine (HA2.out _ (Below.refl _ _)).mono ?_
        rintro e w' ⟨rfl, rfl⟩
        go_wp2_with fail
        with_reducible refine (HS.out _ hm).mono ?_
        rintro e w1 ⟨_, rfl, B, zs, c', rfl, hbz, hc', hcm', hr', hb1⟩
        have HAZ := Lib.hid (areComponents_any B zs c' w1 hr' hc' hcm' (strs_sizes hbz HSL.out))
        rw [hbz, ← HV.out] at HAZ
        have HB1 := Lib.hid hb1
        clear hbz hc' hcm' hr' hb1
        generalize zs.length = z at *
        go_wp2_with fail
        with_reducible refine HAZ.out.mono ?_
        rintro e w' ⟨rfl, rfl⟩
        go_wp2
        go_ret
        exact ⟨rfl, HB1.out⟩
  · have hvf : v = false := by rw [hv, decide_eq_false hl]; rfl
    subst hvf
    have hli : ((ys.length : Int) == ((s + if r then 1 else 0 : Nat) : Int)) = false := by rw [beq_eq_false_iff_ne]; omega
    have hli2 : ((ys.length : Int) != ((s + if r then 1 else 0 : Nat) : Int)) = true := by rw [bne, hli]; rfl
    generalize (s + if r then 1 else 0) = t at *
    generalize ys.length = m at *
    clear hv HAC hr hy hl
    go_enter Tryz.func134, Tryz.ntmps134
    go_wp2_with fail
    with_reducible refine (HW.out _).mono ?_
    rintro e w' ⟨rfl, rfl⟩
    go_wp2
    go_ret
    exact ⟨rfl, Below.refl _ _⟩
end Go.Proofs.YtembmegllpkmfaaGreatDoor
