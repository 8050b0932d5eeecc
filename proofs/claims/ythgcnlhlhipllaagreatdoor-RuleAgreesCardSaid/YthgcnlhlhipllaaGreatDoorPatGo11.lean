/- The contract of the program's Fill. -/
import Derived.Test.YthgcnlhlhipllaaGreatDoorPatGo10
import Derived.Test.YthgcnlhlhipllaaGreatDoorPathOwnAll
import Derived.Deep.RegionHeld3
import Derived.Deep.RegionLaw
namespace Go.Proofs.YthgcnlhlhipllaaGreatDoor
open Go.RowKit

/-- The box of a call's parameter, and all behind it, at a later world. -/
structure In1 (w : World) (v0 v1 : Value) (t : TypeId) (w' : World) : Prop where
  below : Below (w.alloc (.cells #[v0, v1] t)).heap.size (w.alloc (.cells #[v0, v1] t)) w'
theorem In1.held {w w' : World} {v0 v1 : Value} {t : TypeId} (h : In1 w v0 v1 t w') : w'.cell? ⟨w.heap.size, 0, none⟩ = some v0 ∧ w'.cell? ⟨w.heap.size, 1, none⟩ = some v1 ∧ In1 w v0 v1 t w' := by
  obtain ⟨a, b⟩ := box_cells h.below
  exact ⟨a, b, h⟩
theorem In1.next {w w1 w' : World} {v0 v1 : Value} {t : TypeId} (h : In1 w v0 v1 t w1) (hb : Below w1.heap.size w1 w') : In1 w v0 v1 t w' := ⟨h.below.trans (hb.mono h.below.size)⟩
theorem In1.drew {w w' : World} {v0 v1 : Value} {t : TypeId} (h : In1 w v0 v1 t w') : In1 w v0 v1 t w'.drew := ⟨h.below.trans ⟨rfl, rfl, rfl, Nat.le_refl _, fun _ _ => rfl⟩⟩

abbrev S1 (w : World) (v0 v1 : Value) (t : TypeId) (w' : World) : Prop := w'.cell? ⟨w.heap.size, 0, none⟩ = some v0 ∧ w'.cell? ⟨w.heap.size, 1, none⟩ = some v1 ∧ In1 w v0 v1 t w'
theorem S1.next {w w1 w' : World} {v0 v1 : Value} {t : TypeId} (h : S1 w v0 v1 t w1) (hb : Below w1.heap.size w1 w') : S1 w v0 v1 t w' := (In1.next h.2.2 hb).held
theorem S1.nxt {w w1 w' : World} {v0 v1 : Value} {t : TypeId} (hb : Below w1.heap.size w1 w') (h : S1 w v0 v1 t w1) : S1 w v0 v1 t w' := (In1.next h.2.2 hb).held
theorem S1.drew {w w' : World} {v0 v1 : Value} {t : TypeId} (h : S1 w v0 v1 t w') : S1 w v0 v1 t w'.drew := (In1.drew h.2.2).held
theorem capsOkN_eq (p : Pt.Pat) (caps : List (List UInt8)) : capsOkN (Pt.stars p.parts) p.rest caps = Pt.capsOk p caps := by
  unfold capsOkN Pt.capsOk Pt.wilds
  rfl
theorem fills_sizes : ∀ {X T : List (List UInt8)}, (∀ x ∈ X, x.length ≤ 100000) → (∀ t ∈ T, t.length ≤ 100000) → ∀ z ∈ Pt.fillsOf X T, z.length ≤ 200000
  | [], _, _, _, z, hz => by cases hz
  | x :: X, T, h1, h2, z, hz => by
    cases hs : Pt.star x with
    | none =>
      rw [Pt.fillsOf_comp _ _ hs] at hz
      rcases List.mem_cons.1 hz with rfl | h
      · exact Nat.le_trans (h1 _ (by simp)) (by decide)
      · exact fills_sizes (fun y hy => h1 y (List.mem_cons_of_mem _ hy)) h2 z h
    | some s =>
      rw [Pt.fillsOf_star _ _ hs] at hz
      rcases List.mem_cons.1 hz with rfl | h
      · have hl := star_len hs
        have hx := h1 x (by simp)
        rw [List.length_append]
        cases T with
        | nil => simp; omega
        | cons t T =>
          have := h2 t (by simp)
          simp only [List.headD_cons]
          omega
      · exact fills_sizes (fun y hy => h1 y (List.mem_cons_of_mem _ hy)) (fun t ht => h2 t (List.mem_of_mem_drop ht)) z h

set_option maxHeartbeats 4000000 in
theorem fill_any (A B : Option Addr) (xs ys : List ByteArray) (c d : Nat) (b : Bool) (p : Pt.Pat) (w : World) (hp : PatR w A xs c b p) (hsx : ∀ x ∈ xs, x.size ≤ 100000) (hr : RdS w w.heap.size B ys) (hd : ys.length ≤ d) (hdm : d ≤ maxLen) (hnil : B = none → d = 0) (hsy : ∀ y ∈ ys, y.size ≤ 100000) (hm : MaxL w) :
    Calls Tryz.prog 81 #[patV A xs.length c b, .slice B ys.length d] w (GivesS2 w (Pt.filled p (bs ys)) (Pt.fillErr p (bs ys))) := by
  obtain ⟨W0, hW0⟩ : ∃ W0, W0 = w.alloc (.cells #[.slice A xs.length c, .bool b] 24) := ⟨_, rfl⟩
  have halloc : Below w.heap.size w W0 := by rw [hW0]; exact (Below.refl _ _).alloc (Nat.le_refl _) _
  have hp0 := hp.keep halloc
  have hr0 := (hr.keep halloc).more halloc.size
  have hm0 := hm.keep halloc hm.size
  have HK := Lib.hid (kinds_any A xs c b p W0 hp0)
  by_cases hk : Pt.check p = 0
  · have h0 : kindsN p = Pt.stars p.parts := if_pos hk
    have h1 : kindsR p = p.rest := if_pos hk
    rw [h0, h1, hk, ← hp.rest] at HK
    have hn12 : xs.length ≤ 12 := by rw [← hp.len]; exact (Pt.check_ok.1 hk).2
    have hst12 : Pt.stars p.parts ≤ 12 := by have := stars_le p.parts; rw [hp.len] at this; omega
    have HAC := Lib.hid (fun (w' : World) (hb : Below W0.heap.size W0 w') => areCaptures_any B ys d (Pt.stars p.parts) b w' ((hr0.keep hb).more hb.size) hd hdm hnil hsy (by omega) (hm0.keep hb hm0.size))
    have hce : capsOkN (Pt.stars p.parts) b (bs ys) = Pt.capsOk p (bs ys) := by rw [hp.rest]; exact capsOkN_eq p (bs ys)
    rw [hce] at HAC
    have hfe := Pt.fill_err p (bs ys)
    rw [if_pos hk] at hfe
    cases hok : Pt.capsOk p (bs ys) with
    | false =>
      rw [hok] at hfe HAC
      have hfv : Pt.filled p (bs ys) = [] := by unfold Pt.filled; rw [hfe]; rfl
      rw [hfe, hfv]
      simp only [Bool.false_eq_true, if_false]
      generalize Pt.stars p.parts = s at *
      generalize xs.length = n at *
      generalize ys.length = m at *
      subst hW0
      have HAL := Lib.hid halloc
      clear hp hr hp0 hr0 hm0 hfe hfv hok hce h0 h1 hk halloc hsx hsy
      go_enter Tryz.func81, Tryz.ntmps81
      go_wp2_with fail
      with_reducible refine HK.out.mono ?_
      rintro e w1 ⟨rfl, hb1⟩
      have HB1 := Lib.hid hb1
      clear hb1
      go_wp2_with fail
      with_reducible refine (HAC.out _ HB1.out).mono ?_
      rintro e w2 ⟨rfl, hb2⟩
      have HB2 := Lib.hid hb2
      clear hb2
      go_wp2
      go_ret2
      exact ⟨rfl, (HAL.out.trans (HB1.out.mono (by simp))).trans (HB2.out.mono (by have := HB1.out.size; simp at this; omega))⟩
    | true =>
      have hft := Pt.fill_text hk hok
      rw [hok] at hfe HAC
      simp only [if_true] at hfe
      rw [hfe, hft]
      unfold Pt.capsOk at hok
      simp only [Bool.and_eq_true, decide_eq_true_eq, bs_length] at hok
      have hwl : ys.length = Pt.stars p.parts + if b then 1 else 0 := by rw [hok.1.1]; unfold Pt.wilds; rw [hp.rest]
      have hsl : Pt.stars p.parts ≤ ys.length := by omega
      have htl : (ys.take (Pt.stars p.parts)).length = Pt.stars p.parts := by rw [List.length_take]; omega
      have HFl := Lib.hid (fun (w' : World) (hb : Below W0.heap.size W0 w') => filled_any A B xs (ys.take (Pt.stars p.parts)) c d w' ((hp0.keep hb).rd) hp.le hp.cm (((hr0.take _).keep hb).more hb.size) (by rw [htl]; omega) hdm
        (by rw [hp.parts]; exact Pt.form_parts (Pt.check_ok.1 hk).1) (by rw [htl, hp.parts]; exact Nat.le_refl _) hsx (fun y hy => hsy y (List.mem_of_mem_take hy)) (by omega))
      rw [htl, bs_takeN, hp.parts, Pt.fillsOf_take] at HFl
      have HZ := Lib.hid (fills_sizes (X := p.parts) (T := bs ys) (by rw [← hp.parts]; intro x hx; obtain ⟨y, hy, rfl⟩ := List.mem_map.1 hx; rw [← Lib.size_eq]; exact hsx y hy) (by intro x hx; obtain ⟨y, hy, rfl⟩ := List.mem_map.1 hx; rw [← Lib.size_eq]; exact hsy y hy))
      have hzl12 : (Pt.fillsOf p.parts (bs ys)).length ≤ 12 := by rw [Pt.fillsOf_len, hp.len]; exact hn12
      have HZL := Lib.hid (show (Pt.fillsOf p.parts (bs ys)).length ≤ 12 by rw [Pt.fillsOf_len, hp.len]; exact hn12)
      have HYS := Lib.hid hsy
      generalize Pt.fillsOf p.parts (bs ys) = fl at *
      generalize Pt.stars p.parts = s at *
      have hdi : (d : Int) ≤ 9223372036854775807 := by unfold maxLen at hdm; omega
      generalize xs.length = n at *
      cases b with
      | true =>
        simp only [if_true] at hwl
        obtain ⟨g, o, rfl, hg, hcell⟩ := hr.cells (by omega)
        have HRd := Lib.hid (fun (w' : World) (h : S1 w (.slice A n c) (.bool true) 24 w') => ((hr.keep (halloc.trans ((hW0 ▸ h.2.2.below).mono halloc.size))).more (halloc.trans ((hW0 ▸ h.2.2.below).mono halloc.size)).size).drop s)
        have HFlI := Lib.hid (fun (w' : World) (h : S1 w (.slice A n c) (.bool true) 24 w') => HFl.out w' (hW0 ▸ h.2.2.below))
        have i1 : (s : Int) ≤ (ys.length : Int) := by omega
        have i2 : (ys.length : Int) ≤ (d : Int) := by omega
        have i3 : ¬ d = s := by omega
        have HTX := Lib.hid (fun (w' : World) (A' : Option Addr) (zs L : List ByteArray) (c' : Nat) (hr' : RdS w' w'.heap.size A' L) (hc' : L.length ≤ c') (hbz : bs zs = fl) (hL : zs ++ ys.drop s = L) => by
          have hbL : bs L = fl ++ (bs ys).drop s := by rw [← hL, bs_append, hbz, bs_dropN]
          have hLl : L.length ≤ 13 := by rw [← bs_length, hbL, List.length_append, List.length_drop, bs_length]; omega
          have hj := lib_join_len 200000 (bs L) (by
            rw [hbL]
            intro x hx
            rcases List.mem_append.1 hx with h | h
            · exact HZ.out x h
            · obtain ⟨y, hy, rfl⟩ := List.mem_map.1 (List.mem_of_mem_drop h)
              rw [← Lib.size_eq]
              exact Nat.le_trans (HYS.out y hy) (by decide))
          rw [bs_length] at hj
          have := Nat.mul_le_mul_right 200001 hLl
          have ht := textOf_any A' L c' w' hr' hc' (by omega) (by omega)
          rw [hbL] at ht
          exact ht)
        have i0 : (0 : Int) ≤ (s : Int) := Int.natCast_nonneg _
        have i5 : (s : Int) ≤ (d : Int) := by omega
        have hyd : (ys.drop s).length = 1 := by rw [List.length_drop]; omega
        have i4 : s < ys.length := by omega
        obtain ⟨m, hm1⟩ : ∃ m, m = ys.length := ⟨_, rfl⟩
        rw [← hm1] at HAC i1 i2 i4 ⊢
        have HW := Lib.hid hwl
        have HM1 := Lib.hid hm1
        have HMS := Lib.hid (show m - s = (ys.drop s).length by rw [hm1, List.length_drop])
        have HZB := Lib.hid (show ∀ zs : List ByteArray, bs zs = fl → zs.length + (ys.drop s).length ≤ 1000000 from fun zs h => by rw [← bs_length zs, h, hyd]; omega)
        clear hwl hm1
        subst hW0
        have HAL := Lib.hid halloc
        clear hp hr hp0 hr0 hm0 hfe hft hok hce h0 h1 hk halloc hsx hsy HFl hcell
        go_enter Tryz.func81, Tryz.ntmps81
        go_wp2_with fail
        with_reducible refine HK.out.mono ?_
        rintro e w1 ⟨rfl, hb1⟩
        have HB1 := Lib.hid hb1
        clear hb1
        go_wp2_with fail
        with_reducible refine (HAC.out _ HB1.out).mono ?_
        rintro e w2 ⟨rfl, hb2⟩
        have hin : S1 w (.slice A n c) (.bool true) 24 w2 := In1.held ⟨HB1.out.trans (hb2.mono HB1.out.size)⟩
        clear hb2 HB1 HK HAC
        go_wp2_with fail
        set_option maxRecDepth 100000 in
        go_region_held3 (fun w' => w'.cell? ⟨w.heap.size, 0, none⟩ = some (.slice A n c) ∧ w'.cell? ⟨w.heap.size, 1, none⟩ = some (.bool true) ∧ In1 w (.slice A n c) (.bool true) 24 w')
          (first | exact S1.nxt hb4 (by assumption) | exact S1.nxt hbb (S1.drew hin) | exact S1.nxt hb (S1.drew hin) | exact S1.nxt hb (by assumption) | exact S1.drew (by assumption) | exact hin | go_keep)
          (first
            | (go_at_call 136; refine (HFlI.out _ (by assumption)).mono ?_; rintro e w' ⟨v, zs, rfl, hown, hbz, hb⟩; obtain ⟨A0, c0, rfl, hg1, hg2, hg3, hg4⟩ := hown.form)
            | (go_at_call 135; refine (HTX.out _ _ _ _ _ hf3 hf1 hbz hL).mono ?_; rintro e w4 ⟨rfl, hb4⟩)
            | (refine step_append_ss rfl _ _ rfl _ (.slice A0 zs.length c0) zs rfl hown (some ⟨g, o + s, none⟩) (ys.drop s) _ _ HMS.out rfl (HRd.out _ (by assumption)) (fun h => by cases h) (HZB.out zs hbz) hb.size ?_; intro v' w' hown' hb'; have hbb := hb.trans hb'; generalize hL : zs ++ ys.drop s = L at hown'; obtain ⟨A', c', rfl, hf1, hf2, hf3, hf4⟩ := hown'.form))
        go_wp2
        go_ret2
        exact ⟨rfl, HAL.out.trans (((S1.nxt hb4 (S1.nxt hbb (S1.drew hin))).2.2.below).mono HAL.out.size)⟩
      | false =>
        simp only [Bool.false_eq_true, if_false, Nat.add_zero] at hwl
        obtain rfl : ys.length = s := hwl
        have hnl : ys.drop ys.length = [] := List.drop_of_length_le (Nat.le_refl _)
        cases B with
        | none =>
          have HFlI := Lib.hid (fun (w' : World) (h : S1 w (.slice A n c) (.bool false) 24 w') => HFl.out w' (hW0 ▸ h.2.2.below))
          have HTX := Lib.hid (fun (w' : World) (A' : Option Addr) (zs L : List ByteArray) (c' : Nat) (hr' : RdS w' w'.heap.size A' L) (hc' : L.length ≤ c') (hbz : bs zs = fl) (hL : zs ++ ys.drop ys.length = L) => by
            have hbL : bs L = fl ++ (bs ys).drop ys.length := by rw [← hL, bs_append, hbz, bs_dropN]
            have hLl : L.length ≤ 13 := by rw [← bs_length, hbL, List.length_append, List.length_drop, bs_length]; omega
            have hj := lib_join_len 200000 (bs L) (by
              rw [hbL]
              intro x hx
              rcases List.mem_append.1 hx with h | h
              · exact HZ.out x h
              · obtain ⟨y, hy, rfl⟩ := List.mem_map.1 (List.mem_of_mem_drop h)
                rw [← Lib.size_eq]
                exact Nat.le_trans (HYS.out y hy) (by decide))
            rw [bs_length] at hj
            have := Nat.mul_le_mul_right 200001 hLl
            have ht := textOf_any A' L c' w' hr' hc' (by omega) (by omega)
            rw [hbL] at ht
            exact ht)
          obtain rfl : d = 0 := hnil rfl
          have hyd : (ys.drop ys.length).length = 0 := by rw [hnl]; rfl
          have HZB := Lib.hid (show ∀ zs : List ByteArray, bs zs = fl → zs.length + (ys.drop ys.length).length ≤ 1000000 from fun zs h => by rw [← bs_length zs, h, hyd]; omega)
          have HNL := Lib.hid hnl
          have HMS := Lib.hid (show 0 = (ys.drop ys.length).length from hyd.symm)
          have hy0 : ys.length = 0 := by omega
          rw [hy0] at HK HAC HFlI HTX HZB HNL HMS hyd ⊢
          simp only [show ((0 : Nat) : Int) = 0 from rfl] at HK HAC
          clear htl hsl hnl hd hy0 hok
          subst hW0
          have HAL := Lib.hid halloc
          clear hp hr hp0 hr0 hm0 hfe hft hce h0 h1 hk halloc hsx hsy HFl
          go_enter Tryz.func81, Tryz.ntmps81
          go_wp2_with fail
          with_reducible refine HK.out.mono ?_
          rintro e w1 ⟨rfl, hb1⟩
          have HB1 := Lib.hid hb1
          clear hb1
          go_wp2_with fail
          with_reducible refine (HAC.out _ HB1.out).mono ?_
          rintro e w2 ⟨rfl, hb2⟩
          have hin : S1 w (.slice A n c) (.bool false) 24 w2 := In1.held ⟨HB1.out.trans (hb2.mono HB1.out.size)⟩
          clear hb2 HB1 HK HAC
          go_wp2_with fail
          set_option maxRecDepth 100000 in
          go_region_held3 (fun w' => w'.cell? ⟨w.heap.size, 0, none⟩ = some (.slice A n c) ∧ w'.cell? ⟨w.heap.size, 1, none⟩ = some (.bool false) ∧ In1 w (.slice A n c) (.bool false) 24 w')
            (first | exact S1.nxt hb4 (by assumption) | exact S1.nxt hbb (S1.drew hin) | exact S1.nxt hb (S1.drew hin) | exact S1.nxt hb (by assumption) | exact S1.drew (by assumption) | exact hin | go_keep)
            (first
              | (go_at_call 136; refine (HFlI.out _ (by assumption)).mono ?_; rintro e w' ⟨v, zs, rfl, hown, hbz, hb⟩; obtain ⟨A0, c0, rfl, hg1, hg2, hg3, hg4⟩ := hown.form)
              | (go_at_call 135; refine (HTX.out _ _ _ _ _ hf3 hf1 hbz hL).mono ?_; rintro e w4 ⟨rfl, hb4⟩)
              | (refine step_append_ss rfl _ _ rfl _ (.slice A0 zs.length c0) zs rfl hown none (ys.drop 0) _ _ HMS.out rfl (.inl HNL.out) (fun _ => rfl) (HZB.out zs hbz) hb.size ?_; intro v' w' hown' hb'; have hbb := hb.trans hb'; generalize hL : zs ++ ys.drop 0 = L at hown'; obtain ⟨A', c', rfl, hf1, hf2, hf3, hf4⟩ := hown'.form))
          go_wp2
          go_ret2
          exact ⟨rfl, HAL.out.trans (((S1.nxt hb4 (S1.nxt hbb (S1.drew hin))).2.2.below).mono HAL.out.size)⟩
        | some B =>
          by_cases hds : d = ys.length
          · skip
            have HFlI := Lib.hid (fun (w' : World) (h : S1 w (.slice A n c) (.bool false) 24 w') => HFl.out w' (hW0 ▸ h.2.2.below))
            have HTX := Lib.hid (fun (w' : World) (A' : Option Addr) (zs L : List ByteArray) (c' : Nat) (hr' : RdS w' w'.heap.size A' L) (hc' : L.length ≤ c') (hbz : bs zs = fl) (hL : zs ++ ys.drop ys.length = L) => by
              have hbL : bs L = fl ++ (bs ys).drop ys.length := by rw [← hL, bs_append, hbz, bs_dropN]
              have hLl : L.length ≤ 13 := by rw [← bs_length, hbL, List.length_append, List.length_drop, bs_length]; omega
              have hj := lib_join_len 200000 (bs L) (by
                rw [hbL]
                intro x hx
                rcases List.mem_append.1 hx with h | h
                · exact HZ.out x h
                · obtain ⟨y, hy, rfl⟩ := List.mem_map.1 (List.mem_of_mem_drop h)
                  rw [← Lib.size_eq]
                  exact Nat.le_trans (HYS.out y hy) (by decide))
              rw [bs_length] at hj
              have := Nat.mul_le_mul_right 200001 hLl
              have ht := textOf_any A' L c' w' hr' hc' (by omega) (by omega)
              rw [hbL] at ht
              exact ht)
            have i1 : (0 : Int) ≤ (ys.length : Int) := Int.natCast_nonneg _
            have i5 : (ys.length : Int) ≤ (d : Int) := by omega
            have i3 : d = ys.length := hds
            have hwl0 := hds
            have hyd : (ys.drop ys.length).length = 0 := by rw [hnl]; rfl
            have HZB := Lib.hid (show ∀ zs : List ByteArray, bs zs = fl → zs.length + (ys.drop ys.length).length ≤ 1000000 from fun zs h => by rw [← bs_length zs, h, hyd]; omega)
            have HNL := Lib.hid hnl
            obtain ⟨m, hm1⟩ : ∃ m, m = ys.length := ⟨_, rfl⟩
            rw [← hm1] at HK HAC HFlI HTX HZB HNL i1 i3 i5 hyd hst12 hwl0 ⊢
            have i4 : m = d := i3.symm
            clear i3 hwl0 hds
            have HMS0 := Lib.hid hm1
            have HMS := Lib.hid (show 0 = (ys.drop m).length from hyd.symm)
            have HM1 := Lib.hid hm1
            clear hm1 htl hsl hnl hd hok
            subst i4
            subst hW0
            have HAL := Lib.hid halloc
            clear hp hr hp0 hr0 hm0 hfe hft hce h0 h1 hk halloc hsx hsy HFl
            go_enter Tryz.func81, Tryz.ntmps81
            go_wp2_with fail
            with_reducible refine HK.out.mono ?_
            rintro e w1 ⟨rfl, hb1⟩
            have HB1 := Lib.hid hb1
            clear hb1
            go_wp2_with fail
            with_reducible refine (HAC.out _ HB1.out).mono ?_
            rintro e w2 ⟨rfl, hb2⟩
            have hin : S1 w (.slice A n c) (.bool false) 24 w2 := In1.held ⟨HB1.out.trans (hb2.mono HB1.out.size)⟩
            clear hb2 HB1 HK HAC
            go_wp2_with fail
            set_option maxRecDepth 100000 in
            go_region_held3 (fun w' => w'.cell? ⟨w.heap.size, 0, none⟩ = some (.slice A n c) ∧ w'.cell? ⟨w.heap.size, 1, none⟩ = some (.bool false) ∧ In1 w (.slice A n c) (.bool false) 24 w')
              (first | exact S1.nxt hb4 (by assumption) | exact S1.nxt hbb (S1.drew hin) | exact S1.nxt hb (S1.drew hin) | exact S1.nxt hb (by assumption) | exact S1.drew (by assumption) | exact hin | go_keep)
              (first
                | (go_at_call 136; refine (HFlI.out _ (by assumption)).mono ?_; rintro e w' ⟨v, zs, rfl, hown, hbz, hb⟩; obtain ⟨A0, c0, rfl, hg1, hg2, hg3, hg4⟩ := hown.form)
                | (go_at_call 135; refine (HTX.out _ _ _ _ _ hf3 hf1 hbz hL).mono ?_; rintro e w4 ⟨rfl, hb4⟩)
                | (refine step_append_ss rfl _ _ rfl _ (.slice A0 zs.length c0) zs rfl hown (some _) (ys.drop m) _ _ HMS.out rfl (.inl HNL.out) (fun h => by cases h) (HZB.out zs hbz) hb.size ?_; intro v' w' hown' hb'; have hbb := hb.trans hb'; generalize hL : zs ++ ys.drop m = L at hown'; obtain ⟨A', c', rfl, hf1, hf2, hf3, hf4⟩ := hown'.form))
            go_wp2
            go_ret2
            exact ⟨rfl, HAL.out.trans (((S1.nxt hb4 (S1.nxt hbb (S1.drew hin))).2.2.below).mono HAL.out.size)⟩
          · skip
            have HFlI := Lib.hid (fun (w' : World) (h : S1 w (.slice A n c) (.bool false) 24 w') => HFl.out w' (hW0 ▸ h.2.2.below))
            have HTX := Lib.hid (fun (w' : World) (A' : Option Addr) (zs L : List ByteArray) (c' : Nat) (hr' : RdS w' w'.heap.size A' L) (hc' : L.length ≤ c') (hbz : bs zs = fl) (hL : zs ++ ys.drop ys.length = L) => by
              have hbL : bs L = fl ++ (bs ys).drop ys.length := by rw [← hL, bs_append, hbz, bs_dropN]
              have hLl : L.length ≤ 13 := by rw [← bs_length, hbL, List.length_append, List.length_drop, bs_length]; omega
              have hj := lib_join_len 200000 (bs L) (by
                rw [hbL]
                intro x hx
                rcases List.mem_append.1 hx with h | h
                · exact HZ.out x h
                · obtain ⟨y, hy, rfl⟩ := List.mem_map.1 (List.mem_of_mem_drop h)
                  rw [← Lib.size_eq]
                  exact Nat.le_trans (HYS.out y hy) (by decide))
              rw [bs_length] at hj
              have := Nat.mul_le_mul_right 200001 hLl
              have ht := textOf_any A' L c' w' hr' hc' (by omega) (by omega)
              rw [hbL] at ht
              exact ht)
            have i1 : (0 : Int) ≤ (ys.length : Int) := Int.natCast_nonneg _
            have i5 : (ys.length : Int) ≤ (d : Int) := by omega
            have i3 : ¬ d = ys.length := hds
            have hwl0 := hds
            have hyd : (ys.drop ys.length).length = 0 := by rw [hnl]; rfl
            have HZB := Lib.hid (show ∀ zs : List ByteArray, bs zs = fl → zs.length + (ys.drop ys.length).length ≤ 1000000 from fun zs h => by rw [← bs_length zs, h, hyd]; omega)
            have HNL := Lib.hid hnl
            obtain ⟨m, hm1⟩ : ∃ m, m = ys.length := ⟨_, rfl⟩
            rw [← hm1] at HK HAC HFlI HTX HZB HNL i1 i3 i5 hyd hst12 ⊢
            have HMS := Lib.hid (show 0 = (ys.drop m).length from hyd.symm)
            have HM1 := Lib.hid hm1
            clear hm1 htl hsl hwl0 hnl hd hok
            subst hW0
            have HAL := Lib.hid halloc
            clear hp hr hp0 hr0 hm0 hfe hft hce h0 h1 hk halloc hsx hsy HFl
            go_enter Tryz.func81, Tryz.ntmps81
            go_wp2_with fail
            with_reducible refine HK.out.mono ?_
            rintro e w1 ⟨rfl, hb1⟩
            have HB1 := Lib.hid hb1
            clear hb1
            go_wp2_with fail
            with_reducible refine (HAC.out _ HB1.out).mono ?_
            rintro e w2 ⟨rfl, hb2⟩
            have hin : S1 w (.slice A n c) (.bool false) 24 w2 := In1.held ⟨HB1.out.trans (hb2.mono HB1.out.size)⟩
            clear hb2 HB1 HK HAC
            go_wp2_with fail
            set_option maxRecDepth 100000 in
            go_region_held3 (fun w' => w'.cell? ⟨w.heap.size, 0, none⟩ = some (.slice A n c) ∧ w'.cell? ⟨w.heap.size, 1, none⟩ = some (.bool false) ∧ In1 w (.slice A n c) (.bool false) 24 w')
              (first | exact S1.nxt hb4 (by assumption) | exact S1.nxt hbb (S1.drew hin) | exact S1.nxt hb (S1.drew hin) | exact S1.nxt hb (by assumption) | exact S1.drew (by assumption) | exact hin | go_keep)
              (first
                | (go_at_call 136; refine (HFlI.out _ (by assumption)).mono ?_; rintro e w' ⟨v, zs, rfl, hown, hbz, hb⟩; obtain ⟨A0, c0, rfl, hg1, hg2, hg3, hg4⟩ := hown.form)
                | (go_at_call 135; refine (HTX.out _ _ _ _ _ hf3 hf1 hbz hL).mono ?_; rintro e w4 ⟨rfl, hb4⟩)
                | (refine step_append_ss rfl _ _ rfl _ (.slice A0 zs.length c0) zs rfl hown (some _) (ys.drop m) _ _ HMS.out rfl (.inl HNL.out) (fun h => by cases h) (HZB.out zs hbz) hb.size ?_; intro v' w' hown' hb'; have hbb := hb.trans hb'; generalize hL : zs ++ ys.drop m = L at hown'; obtain ⟨A', c', rfl, hf1, hf2, hf3, hf4⟩ := hown'.form))
            go_wp2
            go_ret2
            exact ⟨rfl, HAL.out.trans (((S1.nxt hb4 (S1.nxt hbb (S1.drew hin))).2.2.below).mono HAL.out.size)⟩
  · have u1 : ((Pt.check p : Int) == 0) = false := by rw [beq_eq_false_iff_ne]; omega
    have u2 : ((Pt.check p : Int) != 0) = true := by rw [bne, u1]; rfl
    have hfe := Pt.fill_err p (bs ys)
    rw [if_neg hk] at hfe
    have hfv : Pt.filled p (bs ys) = [] := by unfold Pt.filled; rw [hfe, if_neg hk]
    have h0 : kindsN p = 0 := if_neg hk
    have h1 : kindsR p = false := if_neg hk
    rw [h0, h1] at HK
    rw [hfe, hfv]
    generalize Pt.check p = k at *
    generalize xs.length = n at *
    generalize ys.length = m at *
    subst hW0
    have HAL := Lib.hid halloc
    clear hp hr hp0 hr0 hm0 hfe hfv h0 h1 hk halloc hsx hsy
    go_enter Tryz.func81, Tryz.ntmps81
    go_wp2_with fail
    with_reducible refine HK.out.mono ?_
    rintro e w1 ⟨rfl, hb1⟩
    have HB1 := Lib.hid hb1
    clear hb1
    go_wp2
    go_ret2
    exact ⟨rfl, HAL.out.trans (HB1.out.mono HAL.out.size)⟩
end Go.Proofs.YthgcnlhlhipllaaGreatDoor
