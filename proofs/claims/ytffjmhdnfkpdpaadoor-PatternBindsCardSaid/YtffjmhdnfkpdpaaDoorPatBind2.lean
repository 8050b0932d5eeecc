/- The contract of the program's Bind. -/
import Derived.Test.YtffjmhdnfkpdpaaDoorPatBind
import Derived.Test.YtffjmhdnfkpdpaaDoorPatGo7
import Derived.Test.YtffjmhdnfkpdpaaDoorPatHeld2
import Derived.Test.YtffjmhdnfkpdpaaDoorPatCopies
namespace Go.Proofs.YtffjmhdnfkpdpaaDoor
open Go.RowKit

/-- What Bind hands back. -/
def GivesBd (w : World) (o : Option (List Pt.Pat)) (e : Ending) (w' : World) : Prop :=
  match o with
  | none => e = .returned (.tuple #[.slice none 0 0, .bool false]) ∧ Below w.heap.size w w'
  | some l => ∃ v bl, e = .returned (.tuple #[v, .bool true]) ∧ OwnB w' w.heap.size v bl ∧ bl.map BindV.pat = l ∧ Below w.heap.size w w'
theorem OwnB.more {w : World} {base base' : Nat} {v : Value} {l : List BindV} (h : OwnB w base v l) (hB : base' ≤ base) : OwnB w base' v l := by
  refine ⟨⟨h.row.1, ?_⟩, h.parts, h.apart⟩
  rcases h.row.2 with hv | ⟨g, cap, cur, hv, hbg, r⟩
  · exact .inl hv
  · exact .inr ⟨g, cap, cur, hv, by omega, r⟩
theorem OwnB.form {w : World} {base : Nat} {v : Value} {l : List BindV} (h : OwnB w base v l) : ∃ A e, v = .slice A l.length e ∧ e ≤ maxLen := by
  rcases h.row.2 with ⟨hv, hn⟩ | ⟨g, cap, cur, hv, hbg, hg, hnc, hcm, r⟩
  · exact ⟨none, 0, by rw [hv, hn], Nat.zero_le _⟩
  · exact ⟨some ⟨g, 0, none⟩, cap, hv, hcm⟩
/-- slices.Clone of any slice of strings: a slice of the call's own. -/
theorem clone_all (A : Option Addr) (xs : List ByteArray) (c : Nat) (w : World) (hr : RdS w w.heap.size A xs) (h2 : xs.length ≤ 1000000) :
    Calls Tryd.prog 63 #[.slice A xs.length c] w fun e w' => ∃ C cz, e = .returned (.slice C xs.length cz) ∧ RdS w' w'.heap.size C xs ∧ xs.length ≤ cz ∧ cz ≤ maxLen ∧ (C = none → cz = 0) ∧ (∀ a, C = some a → w.heap.size ≤ a.block ∧ a.block < w'.heap.size) ∧ Below w.heap.size w w' := by
  by_cases h1 : 1 ≤ xs.length
  · refine (clone_any A xs c w hr h1 h2).mono ?_
    rintro e w' ⟨g, cap, rfl, hown, hg, hg2, hc1, hc2, hb⟩
    obtain ⟨A', c', hv, _, _, hrd, _⟩ := hown.form
    injection hv with hA _ hc
    subst hA
    refine ⟨_, cap, rfl, hrd, hc1, hc2, (fun h => by cases h), fun a ha => ?_, hb⟩
    injection ha with ha
    subst ha
    exact ⟨hg, hg2⟩
  · have hx : xs = [] := List.eq_nil_of_length_eq_zero (by omega)
    subst hx
    cases A with
    | none =>
      refine (Tryd.slices_Clone_string_nil 0 c w).mono ?_
      rintro e w' ⟨rfl, rfl⟩
      exact ⟨none, 0, rfl, .inl rfl, Nat.le_refl _, Nat.zero_le _, (fun _ => rfl), (fun a h => by cases h), Below.refl _ _⟩
    | some a =>
      refine (Tryd.slices_Clone_string_zero a c w).mono ?_
      rintro e w' ⟨v, rfl, hown, hnn, hb⟩
      rcases hown.2 with ⟨hv, _⟩ | ⟨g2, cap, cur, hv, hbg, hg2, hnc, hcm, _, _⟩
      · exact absurd hv hnn
      · subst hv
        refine ⟨_, cap, rfl, .inl rfl, Nat.zero_le _, hcm, (fun h => by cases h), fun a ha => ?_, hb⟩
        injection ha with ha
        subst ha
        exact ⟨hbg, (Array.getElem?_eq_some_iff.1 hg2).1⟩
theorem S2.alloc {w w' : World} {v0 v1 u0 u1 : Value} {t : TypeId} (h : S2 w v0 v1 u0 u1 t w') (o : Obj) : S2 w v0 v1 u0 u1 t (w'.alloc o) := S2.nxt ((Below.refl _ _).alloc (Nat.le_refl _) _) h
theorem S2.nxtM {w w1 w' : World} {v0 v1 u0 u1 : Value} {t : TypeId} {m : Nat} (hb : Below m w1 w') (hm : ((w.alloc (.cells #[v0, v1] t)).alloc (.cells #[u0, u1] t)).heap.size ≤ m) (h : S2 w v0 v1 u0 u1 t w1) : S2 w v0 v1 u0 u1 t w' := In2.held ⟨h.2.2.2.2.below.trans (hb.mono hm)⟩
theorem In2.nextM {w w1 w' : World} {v0 v1 u0 u1 : Value} {t : TypeId} {m : Nat} (hb : Below m w1 w') (hm : ((w.alloc (.cells #[v0, v1] t)).alloc (.cells #[u0, u1] t)).heap.size ≤ m) (h : In2 w v0 v1 u0 u1 t w1) : In2 w v0 v1 u0 u1 t w' := ⟨h.below.trans (hb.mono hm)⟩
theorem bind_app {wr x w' : World} {base : Nat} {lv : Value} {bl : List BindV} {C : Option Addr} {zs : List ByteArray} {cz : Nat} {b' : Bool} (hown : OwnB wr base lv bl) (hr : base ≤ wr.heap.size) (hx : Below wr.heap.size wr x) (hb : Below x.heap.size x w')
    (hc1 : RdS w' w'.heap.size C zs) (hc2 : zs.length ≤ cz) (hc3 : cz ≤ maxLen) (hc4 : C = none → cz = 0) (hc5 : ∀ a, C = some a → x.heap.size ≤ a.block ∧ a.block < w'.heap.size) (hsz : ∀ y ∈ zs, y.size ≤ maxLen) (o : Obj) :
    OwnB (w'.alloc o) base lv bl ∧ PatR (w'.alloc o) C zs cz b' ⟨bs zs, b'⟩ ∧ (∀ a, C = some a → lv.ownBlock ≠ some a.block ∧ a.block < (w'.alloc o).heap.size) ∧ base ≤ (w'.alloc o).heap.size ∧ Below wr.heap.size wr (w'.alloc o) := by
  have hxb := hx.trans (hb.mono hx.size)
  have h3 : Below wr.heap.size wr (w'.alloc o) := hxb.alloc hxb.size o
  have h4 : PatR w' C zs cz b' ⟨bs zs, b'⟩ := ⟨hc1, rfl, rfl, hc2, hc3, hc4, hsz⟩
  refine ⟨hown.below h3, h4.keep ((Below.refl _ _).alloc (Nat.le_refl _) _), fun a ha => ⟨fun e => ?_, Nat.lt_of_lt_of_le (hc5 a ha).2 (by simp)⟩, Nat.le_trans hr h3.size, h3⟩
  have h5 := (World.ownsRow.lt hown.row _ e).2
  have h6 := (hc5 a ha).1
  have h7 := hx.size
  omega
theorem bind_stars (p q : Pt.Pat) : Pt.bind p q = (if Pt.check p = 0 ∧ Pt.check q = 0 then Pt.narr p q else none).map fun l => (l.map fun u => ⟨[u], false⟩) ++ if p.rest then [⟨q.parts.drop p.parts.length, q.rest⟩] else [] := by
  by_cases h : Pt.check p = 0 ∧ Pt.check q = 0
  · rw [if_pos h, Pt.bind_narr h.1 h.2]
  · rw [if_neg h]
    unfold Pt.bind
    have : Pt.within q p = false := by
      cases hw : Pt.within q p with
      | false => rfl
      | true =>
        obtain ⟨h1, h2, _⟩ := Pt.within_parts hw
        exact absurd ⟨h2, h1⟩ h
    rw [this]
    rfl
theorem narrs_sizes : ∀ {ps qs r : List (List UInt8)}, Pt.narrsOf ps qs = some r → ∀ u ∈ r, ∃ y ∈ qs, u.length ≤ y.length
  | [], _, r, h, u, hu => by
    simp only [Pt.narrsOf, Option.some.injEq] at h
    subst h
    cases hu
  | _ :: _, [], r, h, u, hu => by cases h
  | x :: ps, y :: qs, r, h, u, hu => by
    rw [Pt.narrsOf_cons] at h
    cases hn : Pt.narrO x y with
    | none => rw [hn] at h; cases h
    | some z =>
      rw [hn] at h
      simp only [Option.map_eq_some_iff] at h
      obtain ⟨r', hr', rfl⟩ := h
      have hz : z.length ≤ y.length := by
        unfold Pt.narrO at hn
        split at hn
        · split at hn
          · injection hn with hn; subst hn; simp
          · cases hn
        · split at hn
          · injection hn with hn; subst hn; simp
          · cases hn
      have hm : u = z ∨ u ∈ r' := by
        split at hu
        · exact .inr hu
        · exact List.mem_cons.1 hu
      rcases hm with rfl | h2
      · exact ⟨y, by simp, hz⟩
      · obtain ⟨y', hy', hl⟩ := narrs_sizes hr' u h2
        exact ⟨y', List.mem_cons_of_mem _ hy', hl⟩
theorem narr_bound {p q : Pt.Pat} {l : List (List UInt8)} (h : (if Pt.check p = 0 ∧ Pt.check q = 0 then Pt.narr p q else none) = some l) : l.length ≤ 12 ∧ p.parts.length ≤ q.parts.length ∧ q.parts.length ≤ 12 ∧ ∀ u ∈ l, ∃ y ∈ q.parts, u.length ≤ y.length := by
  split at h
  · rename_i hc
    have h1 := narr_len h
    have h2 := (Pt.check_ok.1 hc.1).2
    have h3 := (Pt.check_ok.1 hc.2).2
    unfold Pt.narr at h
    split at h
    · rename_i hct
      unfold Pt.counts at hct
      rw [Bool.and_eq_true, decide_eq_true_eq] at hct
      exact ⟨by omega, hct.1, h3, narrs_sizes h⟩
    · cases h
  · cases h

set_option maxHeartbeats 4000000 in
theorem bind_any (A B : Option Addr) (xs ys : List ByteArray) (c d : Nat) (b b' : Bool) (p q : Pt.Pat) (w : World) (hp : PatR w A xs c b p) (hq : PatR w B ys d b' q) :
    Calls Tryd.prog 40 #[patV A xs.length c b, patV B ys.length d b'] w (GivesBd w (Pt.bind p q)) := by
  obtain ⟨W0, hW0⟩ : ∃ W0, W0 = (w.alloc (.cells #[.slice A xs.length c, .bool b] 25)).alloc (.cells #[.slice B ys.length d, .bool b'] 25) := ⟨_, rfl⟩
  have halloc : Below w.heap.size w W0 := by rw [hW0]; exact ((Below.refl _ _).alloc (Nat.le_refl _) _).alloc (by simp) _
  have hp0 := hp.keep halloc
  have hq0 := hq.keep halloc
  have HS := Lib.hid (starsIn_any A B xs ys c d b b' p q W0 hp0 hq0)
  have hbs := bind_stars p q
  rw [hp.len, ← hp.rest, ← hq.rest, ← hq.parts] at hbs
  have HNB := Lib.hid (fun l => @narr_bound p q l)
  generalize Pt.bind p q = bd at hbs ⊢
  generalize (if Pt.check p = 0 ∧ Pt.check q = 0 then Pt.narr p q else none) = o at HS hbs HNB
  have HPL := Lib.hid hp.len
  have HQL := Lib.hid hq.len
  cases o with
  | none =>
    have hbd : bd = none := hbs
    subst hbd
    generalize xs.length = n at *
    generalize ys.length = m at *
    subst hW0
    have HAL := Lib.hid halloc
    clear hp hq hp0 hq0 halloc hbs
    go_enter Tryd.func40, Tryd.ntmps40
    go_wp2_with fail
    with_reducible refine HS.out.mono ?_
    rintro e w1 ⟨rfl, hb1⟩
    have HB1 := Lib.hid hb1
    clear hb1
    go_wp2
    go_ret2
    exact ⟨rfl, HAL.out.trans (HB1.out.mono HAL.out.size)⟩
  | some l =>
    obtain ⟨hl12, hpq, hq12, hsz⟩ := HNB.out l rfl
    have HSZ := Lib.hid (show ∀ u ∈ l, u.length ≤ maxLen from fun u hu => by
      obtain ⟨y, hy, hl⟩ := hsz u hu
      rw [← hq.parts] at hy
      obtain ⟨z, hz, rfl⟩ := List.mem_map.1 hy
      rw [← Lib.size_eq] at hl
      exact Nat.le_trans hl (hq.sz z hz))
    clear hsz
    have hbd : bd = some ((l.map fun u => ⟨[u], false⟩) ++ if b then [⟨(bs ys).drop xs.length, b'⟩] else []) := hbs
    subst hbd
    have HYS := Lib.hid hq.sz
    have HQN := Lib.hid hq.nil
    have HQ := Lib.hid (fun (w' : World) (hb : Below W0.heap.size W0 w') => hq0.keep hb)
    rw [hp.len, hq.len] at hpq
    rw [hq.len] at hq12
    have hle := hq.le
    have hdi : (d : Int) ≤ 9223372036854775807 := by have := hq.cm; unfold maxLen at this; omega
    obtain ⟨n, hn⟩ : ∃ n, n = xs.length := ⟨_, rfl⟩
    obtain ⟨m, hm⟩ : ∃ m, m = ys.length := ⟨_, rfl⟩
    rw [← hn, ← hm] at hW0 HS hpq
    rw [← hm] at hq12 hle
    rw [← hn, ← hm]
    have HN := Lib.hid hn
    have HM := Lib.hid hm
    subst hW0
    have HAL := Lib.hid halloc
    clear hp hq hp0 hq0 halloc hbs HNB hn hm
    obtain ⟨bdl, hbdl⟩ : ∃ bdl, bdl = (l.map fun u => (⟨[u], false⟩ : Pt.Pat)) ++ if b then [⟨(bs ys).drop n, b'⟩] else [] := ⟨_, rfl⟩
    rw [← hbdl]
    have HBD := Lib.hid hbdl
    clear hbdl
    go_enter Tryd.func40, Tryd.ntmps40
    go_wp2_with fail
    with_reducible refine HS.out.mono ?_
    rintro e w1 ⟨v1, zs, rfl, hown1, hbz, hb1⟩
    obtain ⟨A1, e1, rfl, hz1, hz2, hrz, _⟩ := hown1.form
    obtain ⟨k0, k1, k2, k3⟩ := box2_cells hb1
    have z1 := hb1.size
    simp only [World.alloc, Array.size_push] at z1
    have HB1 := Lib.hid hb1
    have HBZ := Lib.hid hbz
    have HRZ := Lib.hid hrz
    have hzl : zs.length ≤ 12 := by rw [← bs_length, hbz]; exact hl12
    obtain ⟨t, ht⟩ : ∃ t, t = zs.length := ⟨_, rfl⟩
    rw [← ht] at hz1 hzl ⊢
    have HT := Lib.hid ht
    have he1 : (e1 : Int) ≤ 9223372036854775807 := by unfold maxLen at hz2; omega
    clear hown1 hb1 hbz hrz ht hz2
    go_wp2
    go_loopw [8, 21] (fun lv iv wr => ∃ (k : Nat) (bl : List BindV), k ≤ t ∧ iv = .int .i64 k ∧ OwnB wr w1.heap.size lv bl ∧ bl.length = k ∧ bl.map BindV.pat = (l.take k).map (fun u => (⟨[u], false⟩ : Pt.Pat)) ∧ Below w1.heap.size w1 wr) (fun _ iv _ => t - (intOf iv).toNat)
    case atStart => exact ⟨0, [], by omega, rfl, OwnB.empty _ _, rfl, by simp, Below.refl _ _⟩
    case round =>
      obtain ⟨k, bl, hkt, rfl, hown, hbl, hmap, hbr⟩ := hrel
      have j1 := (hbr.cell (p := ⟨w.heap.size, 1, none⟩) (by show w.heap.size < w1.heap.size; omega)).trans k1
      have hzr := hbr.size
      obtain ⟨AL, eL, rfl, heL⟩ := hown.form
      rw [hbl] at hown ⊢
      have heLi : (eL : Int) ≤ 9223372036854775807 := by unfold maxLen at heL; omega
      clear heL
      have HOWN := Lib.hid hown
      have HBR := Lib.hid hbr
      have HMAP := Lib.hid hmap
      have HBL := Lib.hid hbl
      clear hown hbr hmap hbl
      by_cases hlt : k < t
      · have hlz : k < zs.length := by rw [← HT.out]; exact hlt
        obtain ⟨g, og, rfl, hg, hcell⟩ := HRZ.out.cells (by omega)
        have e2 := (HBR.out.cell (p := ⟨g, og + k, none⟩) hg).trans (hcell k hlz)
        have hlk : l[k]? = some zs[k].data.toList := by rw [← HBZ.out, List.getElem?_eq_getElem (by rw [bs_length]; exact hlz), bs_get zs k hlz]
        have hx : zs[k].size ≤ maxLen := by rw [Lib.size_eq]; exact HSZ.out _ (List.mem_of_getElem? hlk)
        have HLK := Lib.hid hlk
        clear hcell hlk
        generalize zs[k] = x at *
        have hpr : PatR (wr.alloc (.cells #[.string x] 9)) (some ⟨wr.heap.size, 0, none⟩) [x] 1 false ⟨bs [x], false⟩ := ⟨new_one wr x _, rfl, rfl, by simp, by decide, (fun h => by cases h), fun y hy => by rw [List.mem_singleton.1 hy]; exact hx⟩
        have HPR := Lib.hid (fun o : Obj => hpr.keep ((Below.refl _ _).alloc (Nat.le_refl _) o))
        have HYA := Lib.hid (show ∀ v, OwnB wr w1.heap.size v bl → ∀ a, (some ⟨wr.heap.size, 0, none⟩ : Option Addr) = some a → Value.ownBlock v ≠ some a.block ∧ a.block < wr.heap.size + 1 + 1 from fun v hv a ha => by
          injection ha with ha
          subst ha
          exact ⟨fun h => absurd (World.ownsRow.lt hv.row _ h).2 (Nat.lt_irrefl _), by show wr.heap.size < _; omega⟩)
        clear hx hpr
        set_option maxRecDepth 100000 in
        go_wp2_with (refine wpList_append_bd rfl _ _ rfl w1.heap.size _ bl rfl ((HOWN.out.below ((Below.refl _ _).alloc (Nat.le_refl _) _)).below ((Below.refl _ _).alloc (Nat.le_refl _) _)) ⟨wr.heap.size + 1, 0, none⟩ ⟨some ⟨wr.heap.size, 0, none⟩, [x], 1, false⟩ 1 rfl (by rw [add_plain]; simp [go_sem]) (by rw [add_plain]; simp [go_sem]) (HPR.out _) (fun a ha => ⟨(HYA.out _ HOWN.out a ha).1, by have hyy := (HYA.out _ HOWN.out a ha).2; simp only [World.alloc, Array.size_push]; exact hyy⟩) (by have := HBL.out; omega) (by simp; omega) ?_; intro v' w' hown' hb' hg'
                     have HO2 := Lib.hid hown'
                     have HB3 := Lib.hid (show Below w1.heap.size wr w' from (((Below.refl _ _).alloc hzr _).alloc (by simp; omega) _).trans hb')
                     clear hown' hb' hg')
        go_wp2
        go_roundw
        case rel =>
          refine ⟨k + 1, bl ++ [⟨some ⟨wr.heap.size, 0, none⟩, [x], 1, false⟩], by omega, by go_num, HO2.out, by rw [List.length_append, HBL.out]; rfl, ?_, HBR.out.trans HB3.out⟩
          rw [List.map_append, HMAP.out, List.take_add_one, HLK.out, List.map_append]
          rfl
        case measure => simp [intOf]; omega
      · obtain rfl : k = t := by omega
        have hlt' : l.take k = l := List.take_of_length_le (by rw [← HBZ.out, bs_length, ← HT.out]; exact Nat.le_refl _)
        have hmap2 := HMAP.out
        rw [hlt'] at hmap2
        have HMAP2 := Lib.hid hmap2
        clear hlt' hmap2
        have HBW := Lib.hid (HAL.out.trans ((HB1.out.trans (HBR.out.mono HB1.out.size)).mono HAL.out.size))
        cases b with
        | false =>
          have hbd : bdl = l.map fun u => (⟨[u], false⟩ : Pt.Pat) := by rw [HBD.out]; simp
          subst hbd
          go_wp2
          go_ret2
          exact ⟨_, bl, rfl, HOWN.out.more (by omega), HMAP2.out, HBW.out⟩
        | true =>
          have hin : S2 w (.slice A n c) (.bool true) (.slice B m d) (.bool b') 25 wr := In2.held ⟨HB1.out.trans (HBR.out.mono HB1.out.size)⟩
          have HW1 := Lib.hid (show ((w.alloc (.cells #[.slice A n c, .bool true] 25)).alloc (.cells #[.slice B m d, .bool b'] 25)).heap.size ≤ w1.heap.size from HB1.out.size)
          have HBM := Lib.hid (show bl.length ≤ 1000000 from by have := HBL.out; omega)
          have HYZ := Lib.hid (show ∀ y ∈ ys.drop n, y.size ≤ maxLen from fun y hy => HYS.out y (List.mem_of_mem_drop hy))
          have HQr := Lib.hid (fun (w' : World) (h : S2 w (.slice A n c) (.bool true) (.slice B m d) (.bool b') 25 w') => (HQ.out w' h.2.2.2.2.below).rd)
          have i0 : (0 : Int) ≤ (n : Int) := Int.natCast_nonneg _
          have i1 : (n : Int) ≤ (m : Int) := by omega
          have i2 : (m : Int) ≤ (d : Int) := by omega
          have hyd : (ys.drop n).length = m - n := by rw [List.length_drop, ← HM.out]
          by_cases hdn : d = n
          · have hmn : m = n := by omega
            have hyd0 : (ys.drop n).length = 0 := by rw [hyd]; omega
            have HCL := Lib.hid (fun (w' : World) (A' : Option Addr) => by
              have hcl := clone_all A' (ys.drop n) 0 w' (.inl (List.eq_nil_of_length_eq_zero hyd0)) (by omega)
              rw [hyd0] at hcl
              exact hcl)
            have HYD := Lib.hid hyd0
            clear hyd hyd0
            subst hmn
            subst hdn
            go_wp2_with fail
            set_option maxRecDepth 100000 in
            go_region_held3 (fun w' => w'.cell? ⟨w.heap.size, 0, none⟩ = some (.slice A d c) ∧ w'.cell? ⟨w.heap.size, 1, none⟩ = some (.bool true) ∧ w'.cell? ⟨w.heap.size + 1, 0, none⟩ = some (.slice B d d) ∧ w'.cell? ⟨w.heap.size + 1, 1, none⟩ = some (.bool b') ∧ In2 w (.slice A d c) (.bool true) (.slice B d d) (.bool b') 25 w')
              ((refine In2.held ?_; repeat (first | assumption | with_reducible exact hin.2.2.2.2 | with_reducible refine In2.nextM hb9 HW1.out ?_ | with_reducible refine In2.next ?_ hb | with_reducible refine In2.allocd ?_ _ | with_reducible refine In2.drew ?_)))
              (first
                | (go_at_call 63; refine (HCL.out _ _).mono ?_; rintro e w' ⟨C, cz, rfl, hc1, hc2, hc3, hc4, hc5, hb⟩)
                | (refine step_append_bd rfl _ _ rfl w1.heap.size (.slice AL k eL) bl rfl (bind_app (b' := b') HOWN.out hzr (below_drew (Below.refl _ _)) hb hc1 (Nat.le_trans (Nat.le_of_eq HYD.out) hc2) hc3 hc4 hc5 HYZ.out _).1 ⟨w'.heap.size, 0, none⟩ ⟨C, ys.drop d, cz, b'⟩ 1 rfl (by show _ = some (Value.slice C (ys.drop d).length cz); rw [HYD.out, add_plain]; simp [go_sem]) (by rw [add_plain]; simp [go_sem]) (bind_app (b' := b') HOWN.out hzr (below_drew (Below.refl _ _)) hb hc1 (Nat.le_trans (Nat.le_of_eq HYD.out) hc2) hc3 hc4 hc5 HYZ.out _).2.1 (bind_app (b' := b') HOWN.out hzr (below_drew (Below.refl _ _)) hb hc1 (Nat.le_trans (Nat.le_of_eq HYD.out) hc2) hc3 hc4 hc5 HYZ.out _).2.2.1 HBM.out (bind_app (b' := b') HOWN.out hzr (below_drew (Below.refl _ _)) hb hc1 (Nat.le_trans (Nat.le_of_eq HYD.out) hc2) hc3 hc4 hc5 HYZ.out _).2.2.2.1 ?_; intro v9 w9 hown9 hb9))
            go_wp2
            go_ret2
            refine ⟨v9, bl ++ [⟨C, ys.drop d, cz, b'⟩], rfl, hown9.more (by omega), ?_, (HBW.out.trans ((bind_app (b' := b') HOWN.out hzr (below_drew (Below.refl _ _)) hb hc1 (Nat.le_trans (Nat.le_of_eq HYD.out) hc2) hc3 hc4 hc5 HYZ.out _).2.2.2.2.mono HBW.out.size)).trans (hb9.mono (by omega))⟩
            rw [HBD.out, List.map_append, HMAP2.out]
            show _ ++ ([⟨bs (ys.drop d), b'⟩] : List Pt.Pat) = _
            rw [bs_dropN]
            rfl
          · cases B with
            | none => exact absurd (HQN.out rfl) (by omega)
            | some ab =>
                have HCL := Lib.hid (fun (w' : World) (h : S2 w (.slice A n c) (.bool true) (.slice (some ab) m d) (.bool b') 25 w') => by
                  have hq := HQr.out w' h
                  have hr2 : RdS w' w'.heap.size (some (ab.add n)) (ys.drop n) := by
                    by_cases he : n < m
                    · obtain ⟨g, o, hA, hg, hc⟩ := hq.cells (by rw [← HM.out]; omega)
                      injection hA with hA
                      subst hA
                      rw [add_plain]
                      exact hq.drop n
                    · exact .inl (List.eq_nil_of_length_eq_zero (by rw [hyd]; omega))
                  have hcl := clone_all (some (ab.add n)) (ys.drop n) (d - n) w' hr2 (by rw [hyd]; omega)
                  rw [hyd] at hcl
                  exact hcl)
                have HYD := Lib.hid hyd
                clear hyd
                go_wp2_with fail
                set_option maxRecDepth 100000 in
                go_region_held3 (fun w' => w'.cell? ⟨w.heap.size, 0, none⟩ = some (.slice A n c) ∧ w'.cell? ⟨w.heap.size, 1, none⟩ = some (.bool true) ∧ w'.cell? ⟨w.heap.size + 1, 0, none⟩ = some (.slice (some ab) m d) ∧ w'.cell? ⟨w.heap.size + 1, 1, none⟩ = some (.bool b') ∧ In2 w (.slice A n c) (.bool true) (.slice (some ab) m d) (.bool b') 25 w')
                  ((refine In2.held ?_; repeat (first | assumption | with_reducible exact hin.2.2.2.2 | with_reducible refine In2.nextM hb9 HW1.out ?_ | with_reducible refine In2.next ?_ hb | with_reducible refine In2.allocd ?_ _ | with_reducible refine In2.drew ?_)))
                  (first
                    | (go_at_call 63; refine (HCL.out _ (by assumption)).mono ?_; rintro e w' ⟨C, cz, rfl, hc1, hc2, hc3, hc4, hc5, hb⟩)
                    | (refine step_append_bd rfl _ _ rfl w1.heap.size (.slice AL k eL) bl rfl (bind_app (b' := b') HOWN.out hzr (below_drew (Below.refl _ _)) hb hc1 (Nat.le_trans (Nat.le_of_eq HYD.out) hc2) hc3 hc4 hc5 HYZ.out _).1 ⟨w'.heap.size, 0, none⟩ ⟨C, ys.drop n, cz, b'⟩ 1 rfl (by show _ = some (Value.slice C (ys.drop n).length cz); rw [HYD.out, add_plain]; simp [go_sem]) (by rw [add_plain]; simp [go_sem]) (bind_app (b' := b') HOWN.out hzr (below_drew (Below.refl _ _)) hb hc1 (Nat.le_trans (Nat.le_of_eq HYD.out) hc2) hc3 hc4 hc5 HYZ.out _).2.1 (bind_app (b' := b') HOWN.out hzr (below_drew (Below.refl _ _)) hb hc1 (Nat.le_trans (Nat.le_of_eq HYD.out) hc2) hc3 hc4 hc5 HYZ.out _).2.2.1 HBM.out (bind_app (b' := b') HOWN.out hzr (below_drew (Below.refl _ _)) hb hc1 (Nat.le_trans (Nat.le_of_eq HYD.out) hc2) hc3 hc4 hc5 HYZ.out _).2.2.2.1 ?_; intro v9 w9 hown9 hb9))
                go_wp2
                go_ret2
                refine ⟨v9, bl ++ [⟨C, ys.drop n, cz, b'⟩], rfl, hown9.more (by omega), ?_, (HBW.out.trans ((bind_app (b' := b') HOWN.out hzr (below_drew (Below.refl _ _)) hb hc1 (Nat.le_trans (Nat.le_of_eq HYD.out) hc2) hc3 hc4 hc5 HYZ.out _).2.2.2.2.mono HBW.out.size)).trans (hb9.mono (by omega))⟩
                rw [HBD.out, List.map_append, HMAP2.out]
                show _ ++ ([⟨bs (ys.drop n), b'⟩] : List Pt.Pat) = _
                rw [bs_dropN]
                rfl
end Go.Proofs.YtffjmhdnfkpdpaaDoor
