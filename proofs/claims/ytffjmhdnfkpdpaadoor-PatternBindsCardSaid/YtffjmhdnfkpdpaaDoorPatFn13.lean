/- The contract of the reference's Bind. -/
import Derived.Test.YtffjmhdnfkpdpaaDoorPatBind2
namespace Go.Proofs.YtffjmhdnfkpdpaaDoor
open Go.RowKit

theorem step_append_nil {w : World} {ops : Array Oper} {o : Oper} {a : Act} {K : Act → World → Prop} {Q : Exit → Act → World → Prop} {E : Prop} (hgd : o.guard = none) (s x : Operand)
    (ho : o.op = .call { callee := .builtin .append, args := #[s, x], argTypes := #[23, 23] })
    (hs : a.eval s = .slice none 0 0)
    (A : Option Addr) (xs : List ByteArray) (n c : Nat) (hn : n = xs.length) (hx : a.eval x = .slice A n c) (hr : RdS w w.heap.size A xs) (hnil : A = none → c = 0)
    (hN : n ≤ 1000000)
    (h : ∀ C cz w', RdS w' w'.heap.size C xs → n ≤ cz → cz ≤ maxLen → (C = none → cz = 0) → (∀ a, C = some a → w.heap.size ≤ a.block ∧ a.block < w'.heap.size) → Below w.heap.size w w' → K (a.put o.dst (.slice C n cz)) w') : if Region.wanted o (yielded ops a.tmps) = true then Oper.wp Tryd.prog o a w K Q else E := by
  refine step_append_ss hgd s x ho w.heap.size (.slice none 0 0) [] hs (World.ownsRow_nil w w.heap.size _ 1) A xs n c hn hx hr hnil (by simp; omega) (Nat.le_refl _) ?_
  intro v' w' hown hb
  rw [List.nil_append] at hown
  obtain ⟨C, cz, rfl, h1, h2, h3, h4⟩ := hown.form
  rw [← hn] at hown h1 ⊢
  refine h C cz w' h3 h1 h2 h4 (fun a ha => ?_) hb
  subst ha
  exact World.ownsRow.lt hown _ rfl
theorem bindOf_step : ∀ {ps qs : List (List UInt8)} {k : Nat} (h : k < ps.length) (h2 : k < qs.length), Pt.bindOf (ps.take (k + 1)) qs = Pt.bindOf (ps.take k) qs ++ (match Pt.star ps[k] with | none => [] | some s => [⟨[qs[k].take (qs[k].length - s.length)], false⟩])
  | [], _, _, h, _ => by simp at h
  | _ :: _, [], _, _, h2 => by simp at h2
  | x :: ps, y :: qs, 0, _, _ => by
    simp only [List.take_succ_cons, List.take_zero, List.getElem_cons_zero]
    cases hs : Pt.star x with
    | none => rw [Pt.bindOf_comp _ _ _ hs]; simp [Pt.bindOf]
    | some s => rw [Pt.bindOf_star _ _ _ hs]; simp [Pt.bindOf]
  | x :: ps, y :: qs, k + 1, h, h2 => by
    have ih := bindOf_step (ps := ps) (qs := qs) (k := k) (by simpa using h) (by simpa using h2)
    rw [List.take_succ_cons, List.take_succ_cons]
    simp only [List.getElem_cons_succ]
    cases hs : Pt.star x with
    | none => rw [Pt.bindOf_comp _ _ _ hs, Pt.bindOf_comp _ _ _ hs, ih]
    | some s => rw [Pt.bindOf_star _ _ _ hs, Pt.bindOf_star _ _ _ hs, ih]; rfl
theorem allIn_get : ∀ {ps qs : List (List UInt8)} {k : Nat} (h : k < ps.length) (h2 : k < qs.length), Pt.allIn ps qs = true → Pt.inside ps[k] qs[k] = true
  | [], _, _, h, _, _ => by simp at h
  | _ :: _, [], _, _, h2, _ => by simp at h2
  | x :: ps, y :: qs, 0, _, _, h => by
    simp only [Pt.allIn, Bool.and_eq_true] at h
    exact h.1
  | x :: ps, y :: qs, k + 1, h1, h2, h => by
    simp only [Pt.allIn, Bool.and_eq_true] at h
    exact allIn_get (ps := ps) (qs := qs) (k := k) (by simpa using h1) (by simpa using h2) h.2

set_option maxHeartbeats 8000000 in
theorem rbind_any (A B : Option Addr) (xs ys : List ByteArray) (c d : Nat) (b b' : Bool) (p q : Pt.Pat) (w : World) (hp : PatR w A xs c b p) (hq : PatR w B ys d b' q) :
    Calls Tryd.prog 41 #[patV A xs.length c b, patV B ys.length d b'] w (GivesBd w (Pt.bind p q)) := by
  obtain ⟨W0, hW0⟩ : ∃ W0, W0 = (w.alloc (.cells #[.slice A xs.length c, .bool b] 25)).alloc (.cells #[.slice B ys.length d, .bool b'] 25) := ⟨_, rfl⟩
  have halloc : Below w.heap.size w W0 := by rw [hW0]; exact ((Below.refl _ _).alloc (Nat.le_refl _) _).alloc (by simp) _
  have hp0 := hp.keep halloc
  have hq0 := hq.keep halloc
  have HW := Lib.hid (rwithin_any B A ys xs d c b' b q p W0 hq0 hp0)
  have hbd : Pt.bind p q = if Pt.within q p = true then some (Pt.bindOf p.parts q.parts ++ if p.rest then [⟨q.parts.drop p.parts.length, q.rest⟩] else []) else none := rfl
  rw [hp.len, ← hp.rest, ← hq.rest] at hbd
  cases hwi : Pt.within q p with
  | false =>
    rw [hwi] at HW hbd
    have hbn : Pt.bind p q = none := hbd
    rw [hbn]
    generalize xs.length = n at *
    generalize ys.length = m at *
    subst hW0
    have HAL := Lib.hid halloc
    clear hp hq hp0 hq0 halloc hbd hbn hwi
    go_enter Tryd.func41, Tryd.ntmps41
    go_wp2_with fail
    with_reducible refine HW.out.mono ?_
    rintro e w1 ⟨rfl, hb1⟩
    have HB1 := Lib.hid hb1
    clear hb1
    go_wp2
    go_ret2
    exact ⟨rfl, HAL.out.trans (HB1.out.mono HAL.out.size)⟩
  | true =>
    rw [hwi] at HW hbd
    obtain ⟨hcq, hcp, hct, hall⟩ := Pt.within_parts hwi
    have h12 := (Pt.check_ok.1 hcq).2
    have hpr := Pt.form_parts (Pt.check_ok.1 hcq).1
    unfold Pt.counts at hct
    rw [Bool.and_eq_true, decide_eq_true_eq] at hct
    have hpq := hct.1
    rw [hp.len, hq.len] at hpq
    rw [hq.len] at h12
    have HSPL := Lib.hid (fun (k : Nat) (h1 : k < xs.length) (h2 : k < ys.length) (s : List UInt8) (hs : Pt.star xs[k].data.toList = some s) => show ∃ u, ys[k].data.toList = u ++ s from by
      have g1 : k < q.parts.length := by rw [hq.len]; exact h2
      have g2 : k < p.parts.length := by rw [hp.len]; exact h1
      have hin := allIn_get g1 g2 hall
      have hy := hpr _ (List.getElem_mem g1)
      have e1 : p.parts[k]'g2 = xs[k].data.toList := by
        rw [← bs_get xs k h1]
        simp only [hp.parts]
      have e2 : q.parts[k]'g1 = ys[k].data.toList := by
        rw [← bs_get ys k h2]
        simp only [hq.parts]
      rw [e1, e2] at hin
      rw [e2] at hy
      obtain ⟨u, hu, _⟩ := Pt.inside_split hs hy hin
      exact ⟨u, hu⟩)
    have hstep := fun (k : Nat) (h1 : k < xs.length) (h2 : k < ys.length) => bindOf_step (ps := bs xs) (qs := bs ys) (k := k) (by rw [bs_length]; exact h1) (by rw [bs_length]; exact h2)
    have HSTP := Lib.hid hstep
    obtain ⟨bdl, hbdl⟩ : ∃ bdl, bdl = Pt.bindOf (bs xs) (bs ys) ++ if b then [⟨(bs ys).drop xs.length, b'⟩] else [] := ⟨_, rfl⟩
    have hbn : Pt.bind p q = some bdl := by rw [hbd, hbdl, hp.parts, hq.parts]; rfl
    rw [hbn]
    have HYS := Lib.hid hq.sz
    have HXS := Lib.hid hp.sz
    have HQN := Lib.hid hq.nil
    have HQ := Lib.hid (fun (w' : World) (hb : Below W0.heap.size W0 w') => hq0.keep hb)
    have HP := Lib.hid (fun (w' : World) (hb : Below W0.heap.size W0 w') => hp0.keep hb)
    have hle := hq.le
    have hlep := hp.le
    have hdi : (d : Int) ≤ 9223372036854775807 := by have := hq.cm; unfold maxLen at this; omega
    have hci : (c : Int) ≤ 9223372036854775807 := by have := hp.cm; unfold maxLen at this; omega
    obtain ⟨n, hn⟩ : ∃ n, n = xs.length := ⟨_, rfl⟩
    obtain ⟨m, hm⟩ : ∃ m, m = ys.length := ⟨_, rfl⟩
    rw [← hn, ← hm] at hW0 HW hpq
    rw [← hm] at h12 hle
    rw [← hn] at hlep hbdl
    rw [← hn, ← hm]
    have HN := Lib.hid hn
    have HM := Lib.hid hm
    subst hW0
    have HAL := Lib.hid halloc
    have HBD := Lib.hid hbdl
    clear hp hq hp0 hq0 halloc hbd hbn hn hm hwi hstep hbdl hct hall hpr hcq hcp
    go_enter Tryd.func41, Tryd.ntmps41
    go_wp2_with fail
    with_reducible refine HW.out.mono ?_
    rintro e w1 ⟨rfl, hb1⟩
    obtain ⟨k0, k1, k2, k3⟩ := box2_cells hb1
    have z1 := hb1.size
    simp only [World.alloc, Array.size_push] at z1
    have HB1 := Lib.hid hb1
    have HRP := Lib.hid ((HP.out w1 hb1).rd)
    have HRQ := Lib.hid ((HQ.out w1 hb1).rd)
    clear hb1
    go_wp2
    go_loopw [6, 19] (fun lv iv wr => ∃ (k : Nat) (bl : List BindV), k ≤ n ∧ iv = .int .i64 k ∧ OwnB wr w1.heap.size lv bl ∧ bl.length ≤ k ∧ bl.map BindV.pat = Pt.bindOf ((bs xs).take k) (bs ys) ∧ Below w1.heap.size w1 wr) (fun _ iv _ => n - (intOf iv).toNat)
    case atStart => exact ⟨0, [], by omega, rfl, OwnB.empty _ _, by simp, by simp [Pt.bindOf], Below.refl _ _⟩
    case round =>
      obtain ⟨k, bl, hkt, rfl, hown, hbl, hmap, hbr⟩ := hrel
      have j0 := (hbr.cell (p := ⟨w.heap.size, 0, none⟩) (by show w.heap.size < w1.heap.size; omega)).trans k0
      have j1 := (hbr.cell (p := ⟨w.heap.size, 1, none⟩) (by show w.heap.size < w1.heap.size; omega)).trans k1
      have j2 := (hbr.cell (p := ⟨w.heap.size + 1, 0, none⟩) (by show w.heap.size + 1 < w1.heap.size; omega)).trans k2
      have hzr := hbr.size
      obtain ⟨AL, eL, rfl, heL⟩ := hown.form
      obtain ⟨t, htb⟩ : ∃ t, t = bl.length := ⟨_, rfl⟩
      rw [← htb] at hown hbl ⊢
      have heLi : (eL : Int) ≤ 9223372036854775807 := by unfold maxLen at heL; omega
      clear heL
      have HOWN := Lib.hid hown
      have HBR := Lib.hid hbr
      have HMAP := Lib.hid hmap
      have HBL := Lib.hid htb.symm
      clear hown hbr hmap htb
      by_cases hlt : k < n
      · have hlx : k < xs.length := by rw [← HN.out]; exact hlt
        have hly : k < ys.length := by rw [← HM.out]; omega
        obtain ⟨g, og, rfl, hg, hcell⟩ := HRP.out.cells (by omega)
        obtain ⟨g', og', rfl, hg', hcell'⟩ := HRQ.out.cells (by omega)
        have e1 := (HBR.out.cell (p := ⟨g, og + k, none⟩) hg).trans (hcell k hlx)
        have e2 := (HBR.out.cell (p := ⟨g', og' + k, none⟩) hg').trans (hcell' k hly)
        have hkm : (k : Int) < (m : Int) := by omega
        have hst := HSTP.out k hlx hly
        rw [bs_get xs k hlx, bs_get ys k hly] at hst
        have hspl := HSPL.out k hlx hly
        have hsx := HXS.out _ (List.getElem_mem hlx)
        have hsy := HYS.out _ (List.getElem_mem hly)
        have HST := Lib.hid hst
        clear hcell hcell' hst
        generalize xs[k] = x at *
        generalize ys[k] = y at *
        have HSt := Lib.hid (fun w : World => rstar_any x w hsx)
        cases hs : Pt.star x.data.toList with
        | none =>
          rw [hs] at HSt HST
          clear hspl hs
          go_wp2_with fail
          with_reducible refine (HSt.out _).mono ?_
          rintro e w' ⟨rfl, rfl⟩
          go_wp2
          go_roundw
          case rel =>
            refine ⟨k + 1, bl, by omega, by go_num, HOWN.out, by have := HBL.out; omega, ?_, HBR.out⟩
            rw [HST.out, HMAP.out]
            simp
          case measure => simp [intOf]; omega
        | some s =>
          obtain ⟨u, hu⟩ := hspl s hs
          rw [hs] at HSt HST
          have hsz : y.size = u.length + s.length := by rw [Lib.size_eq, hu, List.length_append]
          have hcz : (y.size : Int) - (s.length : Int) = (u.length : Int) := by omega
          have hule : (u.length : Int) ≤ (y.size : Int) := by omega
          have hcm : (y.size : Int) ≤ 9223372036854775807 := by unfold maxLen at hsy; omega
          have hsm : (s.length : Int) ≤ (y.size : Int) := by omega
          have hk : y.extract 0 u.length = ⟨u.toArray⟩ := ba_ext (by rw [extract_take, hu]; simp)
          have htk : y.data.toList.take (y.data.toList.length - s.length) = u := by rw [hu, Pt.take_suffix]
          simp only [htk] at HST
          have hul : (⟨u.toArray⟩ : ByteArray).size ≤ maxLen := by rw [size_mk]; omega
          have hpr : PatR (wr.alloc (.cells #[.string ⟨u.toArray⟩] 9)) (some ⟨wr.heap.size, 0, none⟩) [⟨u.toArray⟩] 1 false ⟨bs [⟨u.toArray⟩], false⟩ := ⟨new_one wr _ _, rfl, rfl, by simp, by decide, (fun h => by cases h), fun y hy => by rw [List.mem_singleton.1 hy]; exact hul⟩
          have HPR := Lib.hid (fun o : Obj => hpr.keep ((Below.refl _ _).alloc (Nat.le_refl _) o))
          have HYA := Lib.hid (show ∀ v, OwnB wr w1.heap.size v bl → ∀ a, (some ⟨wr.heap.size, 0, none⟩ : Option Addr) = some a → Value.ownBlock v ≠ some a.block ∧ a.block < wr.heap.size + 1 + 1 from fun v hv a ha => by
            injection ha with ha
            subst ha
            exact ⟨fun h => absurd (World.ownsRow.lt hv.row _ h).2 (Nat.lt_irrefl _), by show wr.heap.size < _; omega⟩)
          clear hpr hul htk hspl hs hu hsx hsy hsz
          go_wp2_with fail
          with_reducible refine (HSt.out _).mono ?_
          rintro e w' ⟨rfl, rfl⟩
          set_option maxRecDepth 100000 in
          go_wp2_with (refine wpList_append_bd rfl _ _ rfl w1.heap.size _ bl rfl ((HOWN.out.below ((Below.refl _ _).alloc (Nat.le_refl _) _)).below ((Below.refl _ _).alloc (Nat.le_refl _) _)) ⟨wr.heap.size + 1, 0, none⟩ ⟨some ⟨wr.heap.size, 0, none⟩, [⟨u.toArray⟩], 1, false⟩ 1 rfl (by rw [add_plain]; simp [go_sem]) (by rw [add_plain]; simp [go_sem]) (HPR.out _) (fun a ha => ⟨(HYA.out _ HOWN.out a ha).1, by have hyy := (HYA.out _ HOWN.out a ha).2; simp only [World.alloc, Array.size_push]; exact hyy⟩) (by have := HBL.out; omega) (by simp; omega) ?_; intro v' w' hown' hb' hg'
                       have HO2 := Lib.hid hown'
                       have HB3 := Lib.hid (show Below w1.heap.size wr w' from (((Below.refl _ _).alloc hzr _).alloc (by simp; omega) _).trans hb')
                       clear hown' hb' hg')
          go_wp2
          go_roundw
          case rel =>
            refine ⟨k + 1, bl ++ [⟨some ⟨wr.heap.size, 0, none⟩, [⟨u.toArray⟩], 1, false⟩], by omega, by go_num, HO2.out, by rw [List.length_append]; have := HBL.out; simp; omega, ?_, HBR.out.trans HB3.out⟩
            rw [List.map_append, HMAP.out, HST.out]
            rfl
          case measure => simp [intOf]; omega
      · obtain rfl : n = k := by omega
        have hmap2 := HMAP.out
        rw [List.take_of_length_le (by rw [bs_length, ← HN.out]; exact Nat.le_refl _)] at hmap2
        have HMAP2 := Lib.hid hmap2
        clear hmap2
        have HBW := Lib.hid (HAL.out.trans ((HB1.out.trans (HBR.out.mono HB1.out.size)).mono HAL.out.size))
        cases b with
        | false =>
          have hbd : bdl = Pt.bindOf (bs xs) (bs ys) := by rw [HBD.out]; simp
          subst hbd
          go_wp2
          go_ret2
          exact ⟨_, bl, rfl, HOWN.out.more (by omega), HMAP2.out, HBW.out⟩
        | true =>
          have hin : S2 w (.slice A n c) (.bool true) (.slice B m d) (.bool b') 25 wr := In2.held ⟨HB1.out.trans (HBR.out.mono HB1.out.size)⟩
          have HW1 := Lib.hid (show ((w.alloc (.cells #[.slice A n c, .bool true] 25)).alloc (.cells #[.slice B m d, .bool b'] 25)).heap.size ≤ w1.heap.size from HB1.out.size)
          have HBM := Lib.hid (show bl.length ≤ 1000000 from by have := HBL.out; omega)
          have HYZ := Lib.hid (show ∀ y ∈ ys.drop n, y.size ≤ maxLen from fun y hy => HYS.out y (List.mem_of_mem_drop hy))
          have HQr := Lib.hid (fun (w' : World) (h : S2 w (.slice A n c) (.bool true) (.slice B m d) (.bool b') 25 w') => (HQ.out w' h.2.2.2.2.below).rd)
          have i0 : (0 : Int) ≤ (n : Int) := Int.natCast_nonneg _
          have i1 : (n : Int) ≤ (m : Int) := by omega
          have i2 : (m : Int) ≤ (d : Int) := by omega
          have hyd : (ys.drop n).length = m - n := by rw [List.length_drop, ← HM.out]
          by_cases hdn : d = n
          · have hmn : m = n := by omega
            have hyd0 : (ys.drop n).length = 0 := by rw [hyd]; omega
            have HYD := Lib.hid hyd0
            clear hyd hyd0
            subst hmn
            subst hdn
            go_wp2_with fail
            set_option maxRecDepth 100000 in
            go_region_held3 (fun w' => w'.cell? ⟨w.heap.size, 0, none⟩ = some (.slice A d c) ∧ w'.cell? ⟨w.heap.size, 1, none⟩ = some (.bool true) ∧ w'.cell? ⟨w.heap.size + 1, 0, none⟩ = some (.slice B d d) ∧ w'.cell? ⟨w.heap.size + 1, 1, none⟩ = some (.bool b') ∧ In2 w (.slice A d c) (.bool true) (.slice B d d) (.bool b') 25 w')
              ((refine In2.held ?_; repeat (first | assumption | with_reducible exact hin.2.2.2.2 | with_reducible refine In2.nextM hb9 HW1.out ?_ | with_reducible refine In2.next ?_ hb | with_reducible refine In2.allocd ?_ _ | with_reducible refine In2.drew ?_)))
              (first
                | (refine step_append_nil rfl _ _ rfl rfl B (ys.drop d) 0 0 HYD.out.symm rfl (.inl (List.eq_nil_of_length_eq_zero HYD.out)) (fun _ => rfl) (by omega) ?_; intro C cz w' hc1 hc2 hc3 hc4 hc5 hb)
                | (refine step_append_bd rfl _ _ rfl w1.heap.size (.slice AL t eL) bl rfl (bind_app (b' := b') HOWN.out hzr (below_drew (Below.refl _ _)) hb hc1 (Nat.le_trans (Nat.le_of_eq HYD.out) hc2) hc3 hc4 hc5 HYZ.out _).1 ⟨w'.heap.size, 0, none⟩ ⟨C, ys.drop d, cz, b'⟩ 1 rfl (by show _ = some (Value.slice C (ys.drop d).length cz); rw [HYD.out, add_plain]; simp [go_sem]) (by rw [add_plain]; simp [go_sem]) (bind_app (b' := b') HOWN.out hzr (below_drew (Below.refl _ _)) hb hc1 (Nat.le_trans (Nat.le_of_eq HYD.out) hc2) hc3 hc4 hc5 HYZ.out _).2.1 (bind_app (b' := b') HOWN.out hzr (below_drew (Below.refl _ _)) hb hc1 (Nat.le_trans (Nat.le_of_eq HYD.out) hc2) hc3 hc4 hc5 HYZ.out _).2.2.1 HBM.out (bind_app (b' := b') HOWN.out hzr (below_drew (Below.refl _ _)) hb hc1 (Nat.le_trans (Nat.le_of_eq HYD.out) hc2) hc3 hc4 hc5 HYZ.out _).2.2.2.1 ?_; intro v9 w9 hown9 hb9))
            go_wp2
            go_ret2
            refine ⟨v9, bl ++ [⟨C, ys.drop d, cz, b'⟩], rfl, hown9.more (by omega), ?_, (HBW.out.trans ((bind_app (b' := b') HOWN.out hzr (below_drew (Below.refl _ _)) hb hc1 (Nat.le_trans (Nat.le_of_eq HYD.out) hc2) hc3 hc4 hc5 HYZ.out _).2.2.2.2.mono HBW.out.size)).trans (hb9.mono (by omega))⟩
            rw [HBD.out, List.map_append, HMAP2.out]
            show _ ++ ([⟨bs (ys.drop d), b'⟩] : List Pt.Pat) = _
            rw [bs_dropN]
            rfl
          · cases B with
            | none => exact absurd (HQN.out rfl) (by omega)
            | some ab =>
                have HCL := Lib.hid (fun (w' : World) (h : S2 w (.slice A n c) (.bool true) (.slice (some ab) m d) (.bool b') 25 w') => by
                  have hq := HQr.out w' h
                  have hr2 : RdS w' w'.heap.size (some (ab.add n)) (ys.drop n) := by
                    by_cases he : n < m
                    · obtain ⟨g, o, hA, hg, hc⟩ := hq.cells (by rw [← HM.out]; omega)
                      injection hA with hA
                      subst hA
                      rw [add_plain]
                      exact hq.drop n
                    · exact .inl (List.eq_nil_of_length_eq_zero (by rw [hyd]; omega))
                  exact hr2)
                have HYD := Lib.hid hyd
                clear hyd
                go_wp2_with fail
                set_option maxRecDepth 100000 in
                go_region_held3 (fun w' => w'.cell? ⟨w.heap.size, 0, none⟩ = some (.slice A n c) ∧ w'.cell? ⟨w.heap.size, 1, none⟩ = some (.bool true) ∧ w'.cell? ⟨w.heap.size + 1, 0, none⟩ = some (.slice (some ab) m d) ∧ w'.cell? ⟨w.heap.size + 1, 1, none⟩ = some (.bool b') ∧ In2 w (.slice A n c) (.bool true) (.slice (some ab) m d) (.bool b') 25 w')
                  ((refine In2.held ?_; repeat (first | assumption | with_reducible exact hin.2.2.2.2 | with_reducible refine In2.nextM hb9 HW1.out ?_ | with_reducible refine In2.next ?_ hb | with_reducible refine In2.allocd ?_ _ | with_reducible refine In2.drew ?_)))
                  (first
                    | (refine step_append_nil rfl _ _ rfl rfl (some (ab.add n)) (ys.drop n) (m - n) (d - n) HYD.out.symm rfl (HCL.out _ (by assumption)) (fun h => by cases h) (by omega) ?_; intro C cz w' hc1 hc2 hc3 hc4 hc5 hb)
                    | (refine step_append_bd rfl _ _ rfl w1.heap.size (.slice AL t eL) bl rfl (bind_app (b' := b') HOWN.out hzr (below_drew (Below.refl _ _)) hb hc1 (Nat.le_trans (Nat.le_of_eq HYD.out) hc2) hc3 hc4 hc5 HYZ.out _).1 ⟨w'.heap.size, 0, none⟩ ⟨C, ys.drop n, cz, b'⟩ 1 rfl (by show _ = some (Value.slice C (ys.drop n).length cz); rw [HYD.out, add_plain]; simp [go_sem]) (by rw [add_plain]; simp [go_sem]) (bind_app (b' := b') HOWN.out hzr (below_drew (Below.refl _ _)) hb hc1 (Nat.le_trans (Nat.le_of_eq HYD.out) hc2) hc3 hc4 hc5 HYZ.out _).2.1 (bind_app (b' := b') HOWN.out hzr (below_drew (Below.refl _ _)) hb hc1 (Nat.le_trans (Nat.le_of_eq HYD.out) hc2) hc3 hc4 hc5 HYZ.out _).2.2.1 HBM.out (bind_app (b' := b') HOWN.out hzr (below_drew (Below.refl _ _)) hb hc1 (Nat.le_trans (Nat.le_of_eq HYD.out) hc2) hc3 hc4 hc5 HYZ.out _).2.2.2.1 ?_; intro v9 w9 hown9 hb9))
                go_wp2
                go_ret2
                refine ⟨v9, bl ++ [⟨C, ys.drop n, cz, b'⟩], rfl, hown9.more (by omega), ?_, (HBW.out.trans ((bind_app (b' := b') HOWN.out hzr (below_drew (Below.refl _ _)) hb hc1 (Nat.le_trans (Nat.le_of_eq HYD.out) hc2) hc3 hc4 hc5 HYZ.out _).2.2.2.2.mono HBW.out.size)).trans (hb9.mono (by omega))⟩
                rw [HBD.out, List.map_append, HMAP2.out]
                show _ ++ ([⟨bs (ys.drop n), b'⟩] : List Pt.Pat) = _
                rw [bs_dropN]
                rfl
end Go.Proofs.YtffjmhdnfkpdpaaDoor
