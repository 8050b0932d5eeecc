/- The contract of the reference's Bind. Words for the law on bindings. A slice of bindings that is read; the mathematics of areBindings. The contract of the program's areBindings. The contract of the program's Substitute. The contract of the reference's Substitute. Two readings of one pattern are the same. -/
import Derived.Test.YtpdkecchpidhdaaGreatDoorPatBd
import Derived.Test.YtpdkecchpidhdaaGreatDoorMathAll
import Derived.Test.YtpdkecchpidhdaaGreatDoorPatGoC
import Derived.Deep.RegionHeld3
import Derived.Deep.RegionLaw
import Derived.Test.YtpdkecchpidhdaaGreatDoorPatFnB
import Derived.Test.YtpdkecchpidhdaaGreatDoorPatHeld
import Derived.Test.YtpdkecchpidhdaaGreatDoorPatAwake2
namespace Go.Proofs.YtpdkecchpidhdaaGreatDoor
open Go.RowKit

theorem step_append_nil {w : World} {ops : Array Oper} {o : Oper} {a : Act} {K : Act → World → Prop} {Q : Exit → Act → World → Prop} {E : Prop} (hgd : o.guard = none) (s x : Operand)
    (ho : o.op = .call { callee := .builtin .append, args := #[s, x], argTypes := #[22, 22] })
    (hs : a.eval s = .slice none 0 0)
    (A : Option Addr) (xs : List ByteArray) (n c : Nat) (hn : n = xs.length) (hx : a.eval x = .slice A n c) (hr : RdS w w.heap.size A xs) (hnil : A = none → c = 0)
    (hN : n ≤ 1000000)
    (h : ∀ C cz w', RdS w' w'.heap.size C xs → n ≤ cz → cz ≤ maxLen → (C = none → cz = 0) → (∀ a, C = some a → w.heap.size ≤ a.block ∧ a.block < w'.heap.size) → Below w.heap.size w w' → K (a.put o.dst (.slice C n cz)) w') : if Region.wanted o (yielded ops a.tmps) = true then Oper.wp Tryz.prog o a w K Q else E := by
  refine step_append_ss hgd s x ho w.heap.size (.slice none 0 0) [] hs (World.ownsRow_nil w w.heap.size _ 1) A xs n c hn hx hr hnil (by simp; omega) (Nat.le_refl _) ?_
  intro v' w' hown hb
  rw [List.nil_append] at hown
  obtain ⟨C, cz, rfl, h1, h2, h3, h4⟩ := hown.form
  rw [← hn] at hown h1 ⊢
  refine h C cz w' h3 h1 h2 h4 (fun a ha => ?_) hb
  subst ha
  exact World.ownsRow.lt hown _ rfl
theorem bindOf_step : ∀ {ps qs : List (List UInt8)} {k : Nat} (h : k < ps.length) (h2 : k < qs.length), Pt.bindOf (ps.take (k + 1)) qs = Pt.bindOf (ps.take k) qs ++ (match Pt.star ps[k] with | none => [] | some s => [⟨[qs[k].take (qs[k].length - s.length)], false⟩])
  | [], _, _, h, _ => by simp at h
  | _ :: _, [], _, _, h2 => by simp at h2
  | x :: ps, y :: qs, 0, _, _ => by
    simp only [List.take_succ_cons, List.take_zero, List.getElem_cons_zero]
    cases hs : Pt.star x with
    | none => rw [Pt.bindOf_comp _ _ _ hs]; simp [Pt.bindOf]
    | some s => rw [Pt.bindOf_star _ _ _ hs]; simp [Pt.bindOf]
  | x :: ps, y :: qs, k + 1, h, h2 => by
    have ih := bindOf_step (ps := ps) (qs := qs) (k := k) (by simpa using h) (by simpa using h2)
    rw [List.take_succ_cons, List.take_succ_cons]
    simp only [List.getElem_cons_succ]
    cases hs : Pt.star x with
    | none => rw [Pt.bindOf_comp _ _ _ hs, Pt.bindOf_comp _ _ _ hs, ih]
    | some s => rw [Pt.bindOf_star _ _ _ hs, Pt.bindOf_star _ _ _ hs, ih]; rfl
theorem allIn_get : ∀ {ps qs : List (List UInt8)} {k : Nat} (h : k < ps.length) (h2 : k < qs.length), Pt.allIn ps qs = true → Pt.inside ps[k] qs[k] = true
  | [], _, _, h, _, _ => by simp at h
  | _ :: _, [], _, _, h2, _ => by simp at h2
  | x :: ps, y :: qs, 0, _, _, h => by
    simp only [Pt.allIn, Bool.and_eq_true] at h
    exact h.1
  | x :: ps, y :: qs, k + 1, h1, h2, h => by
    simp only [Pt.allIn, Bool.and_eq_true] at h
    exact allIn_get (ps := ps) (qs := qs) (k := k) (by simpa using h1) (by simpa using h2) h.2

set_option maxHeartbeats 8000000 in
theorem rbind_any (A B : Option Addr) (xs ys : List ByteArray) (c d : Nat) (b b' : Bool) (p q : Pt.Pat) (w : World) (hp : PatR w A xs c b p) (hq : PatR w B ys d b' q) :
    Calls Tryz.prog 149 #[patV A xs.length c b, patV B ys.length d b'] w (GivesBd w (Pt.bind p q)) := by
  obtain ⟨W0, hW0⟩ : ∃ W0, W0 = (w.alloc (.cells #[.slice A xs.length c, .bool b] 24)).alloc (.cells #[.slice B ys.length d, .bool b'] 24) := ⟨_, rfl⟩
  have halloc : Below w.heap.size w W0 := by rw [hW0]; exact ((Below.refl _ _).alloc (Nat.le_refl _) _).alloc (by simp) _
  have hp0 := hp.keep halloc
  have hq0 := hq.keep halloc
  have HW := Lib.hid (rwithin_any B A ys xs d c b' b q p W0 hq0 hp0)
  have hbd : Pt.bind p q = if Pt.within q p = true then some (Pt.bindOf p.parts q.parts ++ if p.rest then [⟨q.parts.drop p.parts.length, q.rest⟩] else []) else none := rfl
  rw [hp.len, ← hp.rest, ← hq.rest] at hbd
  cases hwi : Pt.within q p with
  | false =>
    rw [hwi] at HW hbd
    have hbn : Pt.bind p q = none := hbd
    rw [hbn]
    generalize xs.length = n at *
    generalize ys.length = m at *
    subst hW0
    have HAL := Lib.hid halloc
    clear hp hq hp0 hq0 halloc hbd hbn hwi
    go_enter Tryz.func149, Tryz.ntmps149
    go_wp2_with fail
    with_reducible refine HW.out.mono ?_
    rintro e w1 ⟨rfl, hb1⟩
    have HB1 := Lib.hid hb1
    clear hb1
    go_wp2
    go_ret2
    exact ⟨rfl, HAL.out.trans (HB1.out.mono HAL.out.size)⟩
  | true =>
    rw [hwi] at HW hbd
    obtain ⟨hcq, hcp, hct, hall⟩ := Pt.within_parts hwi
    have h12 := (Pt.check_ok.1 hcq).2
    have hpr := Pt.form_parts (Pt.check_ok.1 hcq).1
    unfold Pt.counts at hct
    rw [Bool.and_eq_true, decide_eq_true_eq] at hct
    have hpq := hct.1
    rw [hp.len, hq.len] at hpq
    rw [hq.len] at h12
    have HSPL := Lib.hid (fun (k : Nat) (h1 : k < xs.length) (h2 : k < ys.length) (s : List UInt8) (hs : Pt.star xs[k].data.toList = some s) => show ∃ u, ys[k].data.toList = u ++ s from by
      have g1 : k < q.parts.length := by rw [hq.len]; exact h2
      have g2 : k < p.parts.length := by rw [hp.len]; exact h1
      have hin := allIn_get g1 g2 hall
      have hy := hpr _ (List.getElem_mem g1)
      have e1 : p.parts[k]'g2 = xs[k].data.toList := by
        rw [← bs_get xs k h1]
        simp only [hp.parts]
      have e2 : q.parts[k]'g1 = ys[k].data.toList := by
        rw [← bs_get ys k h2]
        simp only [hq.parts]
      rw [e1, e2] at hin
      rw [e2] at hy
      obtain ⟨u, hu, _⟩ := Pt.inside_split hs hy hin
      exact ⟨u, hu⟩)
    have hstep := fun (k : Nat) (h1 : k < xs.length) (h2 : k < ys.length) => bindOf_step (ps := bs xs) (qs := bs ys) (k := k) (by rw [bs_length]; exact h1) (by rw [bs_length]; exact h2)
    have HSTP := Lib.hid hstep
    obtain ⟨bdl, hbdl⟩ : ∃ bdl, bdl = Pt.bindOf (bs xs) (bs ys) ++ if b then [⟨(bs ys).drop xs.length, b'⟩] else [] := ⟨_, rfl⟩
    have hbn : Pt.bind p q = some bdl := by rw [hbd, hbdl, hp.parts, hq.parts]; rfl
    rw [hbn]
    have HYS := Lib.hid hq.sz
    have HXS := Lib.hid hp.sz
    have HQN := Lib.hid hq.nil
    have HQ := Lib.hid (fun (w' : World) (hb : Below W0.heap.size W0 w') => hq0.keep hb)
    have HP := Lib.hid (fun (w' : World) (hb : Below W0.heap.size W0 w') => hp0.keep hb)
    have hle := hq.le
    have hlep := hp.le
    have hdi : (d : Int) ≤ 9223372036854775807 := by have := hq.cm; unfold maxLen at this; omega
    have hci : (c : Int) ≤ 9223372036854775807 := by have := hp.cm; unfold maxLen at this; omega
    obtain ⟨n, hn⟩ : ∃ n, n = xs.length := ⟨_, rfl⟩
    obtain ⟨m, hm⟩ : ∃ m, m = ys.length := ⟨_, rfl⟩
    rw [← hn, ← hm] at hW0 HW hpq
    rw [← hm] at h12 hle
    rw [← hn] at hlep hbdl
    rw [← hn, ← hm]
    have HN := Lib.hid hn
    have HM := Lib.hid hm
    subst hW0
    have HAL := Lib.hid halloc
    have HBD := Lib.hid hbdl
    clear hp hq hp0 hq0 halloc hbd hbn hn hm hwi hstep hbdl hct hall hpr hcq hcp
    go_enter Tryz.func149, Tryz.ntmps149
    go_wp2_with fail
    with_reducible refine HW.out.mono ?_
    rintro e w1 ⟨rfl, hb1⟩
    obtain ⟨k0, k1, k2, k3⟩ := box2_cells hb1
    have z1 := hb1.size
    simp only [World.alloc, Array.size_push] at z1
    have HB1 := Lib.hid hb1
    have HRP := Lib.hid ((HP.out w1 hb1).rd)
    have HRQ := Lib.hid ((HQ.out w1 hb1).rd)
    clear hb1
    go_wp2
    go_loopw [6, 19] (fun lv iv wr => ∃ (k : Nat) (bl : List BindV), k ≤ n ∧ iv = .int .i64 k ∧ OwnB wr w1.heap.size lv bl ∧ bl.length ≤ k ∧ bl.map BindV.pat = Pt.bindOf ((bs xs).take k) (bs ys) ∧ Below w1.heap.size w1 wr) (fun _ iv _ => n - (intOf iv).toNat)
    case atStart => exact ⟨0, [], by omega, rfl, OwnB.empty _ _, by simp, by simp [Pt.bindOf], Below.refl _ _⟩
    case round =>
      obtain ⟨k, bl, hkt, rfl, hown, hbl, hmap, hbr⟩ := hrel
      have j0 := (hbr.cell (p := ⟨w.heap.size, 0, none⟩) (by show w.heap.size < w1.heap.size; omega)).trans k0
      have j1 := (hbr.cell (p := ⟨w.heap.size, 1, none⟩) (by show w.heap.size < w1.heap.size; omega)).trans k1
      have j2 := (hbr.cell (p := ⟨w.heap.size + 1, 0, none⟩) (by show w.heap.size + 1 < w1.heap.size; omega)).trans k2
      have hzr := hbr.size
      obtain ⟨AL, eL, rfl, heL⟩ := hown.form
      obtain ⟨t, htb⟩ : ∃ t, t = bl.length := ⟨_, rfl⟩
      rw [← htb] at hown hbl ⊢
      have heLi : (eL : Int) ≤ 9223372036854775807 := by unfold maxLen at heL; omega
      clear heL
      have HOWN := Lib.hid hown
      have HBR := Lib.hid hbr
      have HMAP := Lib.hid hmap
      have HBL := Lib.hid htb.symm
      clear hown hbr hmap htb
      by_cases hlt : k < n
      · have hlx : k < xs.length := by rw [← HN.out]; exact hlt
        have hly : k < ys.length := by rw [← HM.out]; omega
        obtain ⟨g, og, rfl, hg, hcell⟩ := HRP.out.cells (by omega)
        obtain ⟨g', og', rfl, hg', hcell'⟩ := HRQ.out.cells (by omega)
        have e1 := (HBR.out.cell (p := ⟨g, og + k, none⟩) hg).trans (hcell k hlx)
        have e2 := (HBR.out.cell (p := ⟨g', og' + k, none⟩) hg').trans (hcell' k hly)
        have hkm : (k : Int) < (m : Int) := by omega
        have hst := HSTP.out k hlx hly
        rw [bs_get xs k hlx, bs_get ys k hly] at hst
        have hspl := HSPL.out k hlx hly
        have hsx := HXS.out _ (List.getElem_mem hlx)
        have hsy := HYS.out _ (List.getElem_mem hly)
        have HST := Lib.hid hst
        clear hcell hcell' hst
        generalize xs[k] = x at *
        generalize ys[k] = y at *
        have HSt := Lib.hid (fun w : World => rstar_any x w hsx)
        cases hs : Pt.star x.data.toList with
        | none =>
          rw [hs] at HSt HST
          clear hspl hs
          go_wp2_with fail
          with_reducible refine (HSt.out _).mono ?_
          rintro e w' ⟨rfl, rfl⟩
          go_wp2
          go_roundw
          case rel =>
            refine ⟨k + 1, bl, by omega, by go_num, HOWN.out, by have := HBL.out; omega, ?_, HBR.out⟩
            rw [HST.out, HMAP.out]
            simp
          case measure => simp [intOf]; omega
        | some s =>
          obtain ⟨u, hu⟩ := hspl s hs
          rw [hs] at HSt HST
          have hsz : y.size = u.length + s.length := by rw [Lib.size_eq, hu, List.length_append]
          have hcz : (y.size : Int) - (s.length : Int) = (u.length : Int) := by omega
          have hule : (u.length : Int) ≤ (y.size : Int) := by omega
          have hcm : (y.size : Int) ≤ 9223372036854775807 := by unfold maxLen at hsy; omega
          have hsm : (s.length : Int) ≤ (y.size : Int) := by omega
          have hk : y.extract 0 u.length = ⟨u.toArray⟩ := ba_ext (by rw [extract_take, hu]; simp)
          have htk : y.data.toList.take (y.data.toList.length - s.length) = u := by rw [hu, Pt.take_suffix]
          simp only [htk] at HST
          have hul : (⟨u.toArray⟩ : ByteArray).size ≤ maxLen := by rw [size_mk]; omega
          have hpr : PatR (wr.alloc (.cells #[.string ⟨u.toArray⟩] 9)) (some ⟨wr.heap.size, 0, none⟩) [⟨u.toArray⟩] 1 false ⟨bs [⟨u.toArray⟩], false⟩ := ⟨new_one wr _ _, rfl, rfl, by simp, by decide, (fun h => by cases h), fun y hy => by rw [List.mem_singleton.1 hy]; exact hul⟩
          have HPR := Lib.hid (fun o : Obj => hpr.keep ((Below.refl _ _).alloc (Nat.le_refl _) o))
          have HYA := Lib.hid (show ∀ v, OwnB wr w1.heap.size v bl → ∀ a, (some ⟨wr.heap.size, 0, none⟩ : Option Addr) = some a → Value.ownBlock v ≠ some a.block ∧ a.block < wr.heap.size + 1 + 1 from fun v hv a ha => by
            injection ha with ha
            subst ha
            exact ⟨fun h => absurd (World.ownsRow.lt hv.row _ h).2 (Nat.lt_irrefl _), by show wr.heap.size < _; omega⟩)
          clear hpr hul htk hspl hs hu hsx hsy hsz
          go_wp2_with fail
          with_reducible refine (HSt.out _).mono ?_
          rintro e w' ⟨rfl, rfl⟩
          set_option maxRecDepth 100000 in
          go_wp2_with (refine wpList_append_bd rfl _ _ rfl w1.heap.size _ bl rfl ((HOWN.out.below ((Below.refl _ _).alloc (Nat.le_refl _) _)).below ((Below.refl _ _).alloc (Nat.le_refl _) _)) ⟨wr.heap.size + 1, 0, none⟩ ⟨some ⟨wr.heap.size, 0, none⟩, [⟨u.toArray⟩], 1, false⟩ 1 rfl (by rw [add_plain]; simp [go_sem]) (by rw [add_plain]; simp [go_sem]) (HPR.out _) (fun a ha => ⟨(HYA.out _ HOWN.out a ha).1, by have hyy := (HYA.out _ HOWN.out a ha).2; simp only [World.alloc, Array.size_push]; exact hyy⟩) (by have := HBL.out; omega) (by simp; omega) ?_; intro v' w' hown' hb' hg'
                       have HO2 := Lib.hid hown'
                       have HB3 := Lib.hid (show Below w1.heap.size wr w' from (((Below.refl _ _).alloc hzr _).alloc (by simp; omega) _).trans hb')
                       clear hown' hb' hg')
          go_wp2
          go_roundw
          case rel =>
            refine ⟨k + 1, bl ++ [⟨some ⟨wr.heap.size, 0, none⟩, [⟨u.toArray⟩], 1, false⟩], by omega, by go_num, HO2.out, by rw [List.length_append]; have := HBL.out; simp; omega, ?_, HBR.out.trans HB3.out⟩
            rw [List.map_append, HMAP.out, HST.out]
            rfl
          case measure => simp [intOf]; omega
      · obtain rfl : n = k := by omega
        have hmap2 := HMAP.out
        rw [List.take_of_length_le (by rw [bs_length, ← HN.out]; exact Nat.le_refl _)] at hmap2
        have HMAP2 := Lib.hid hmap2
        clear hmap2
        have HBW := Lib.hid (HAL.out.trans ((HB1.out.trans (HBR.out.mono HB1.out.size)).mono HAL.out.size))
        cases b with
        | false =>
          have hbd : bdl = Pt.bindOf (bs xs) (bs ys) := by rw [HBD.out]; simp
          subst hbd
          go_wp2
          go_ret2
          exact ⟨_, bl, rfl, HOWN.out.more (by omega), HMAP2.out, HBW.out⟩
        | true =>
          have hin : S2 w (.slice A n c) (.bool true) (.slice B m d) (.bool b') 24 wr := In2.held ⟨HB1.out.trans (HBR.out.mono HB1.out.size)⟩
          have HW1 := Lib.hid (show ((w.alloc (.cells #[.slice A n c, .bool true] 24)).alloc (.cells #[.slice B m d, .bool b'] 24)).heap.size ≤ w1.heap.size from HB1.out.size)
          have HBM := Lib.hid (show bl.length ≤ 1000000 from by have := HBL.out; omega)
          have HYZ := Lib.hid (show ∀ y ∈ ys.drop n, y.size ≤ maxLen from fun y hy => HYS.out y (List.mem_of_mem_drop hy))
          have HQr := Lib.hid (fun (w' : World) (h : S2 w (.slice A n c) (.bool true) (.slice B m d) (.bool b') 24 w') => (HQ.out w' h.2.2.2.2.below).rd)
          have i0 : (0 : Int) ≤ (n : Int) := Int.natCast_nonneg _
          have i1 : (n : Int) ≤ (m : Int) := by omega
          have i2 : (m : Int) ≤ (d : Int) := by omega
          have hyd : (ys.drop n).length = m - n := by rw [List.length_drop, ← HM.out]
          by_cases hdn : d = n
          · have hmn : m = n := by omega
            have hyd0 : (ys.drop n).length = 0 := by rw [hyd]; omega
            have HYD := Lib.hid hyd0
            clear hyd hyd0
            subst hmn
            subst hdn
            go_wp2_with fail
            set_option maxRecDepth 100000 in
            go_region_held3 (fun w' => w'.cell? ⟨w.heap.size, 0, none⟩ = some (.slice A d c) ∧ w'.cell? ⟨w.heap.size, 1, none⟩ = some (.bool true) ∧ w'.cell? ⟨w.heap.size + 1, 0, none⟩ = some (.slice B d d) ∧ w'.cell? ⟨w.heap.size + 1, 1, none⟩ = some (.bool b') ∧ In2 w (.slice A d c) (.bool true) (.slice B d d) (.bool b') 24 w')
              ((refine In2.held ?_; repeat (first | assumption | with_reducible exact hin.2.2.2.2 | with_reducible refine In2.nextM hb9 HW1.out ?_ | with_reducible refine In2.next ?_ hb | with_reducible refine In2.allocd ?_ _ | with_reducible refine In2.drew ?_)))
              (first
                | (refine step_append_nil rfl _ _ rfl rfl B (ys.drop d) 0 0 HYD.out.symm rfl (.inl (List.eq_nil_of_length_eq_zero HYD.out)) (fun _ => rfl) (by omega) ?_; intro C cz w' hc1 hc2 hc3 hc4 hc5 hb)
                | (refine step_append_bd rfl _ _ rfl w1.heap.size (.slice AL t eL) bl rfl (bind_app (b' := b') HOWN.out hzr (below_drew (Below.refl _ _)) hb hc1 (Nat.le_trans (Nat.le_of_eq HYD.out) hc2) hc3 hc4 hc5 HYZ.out _).1 ⟨w'.heap.size, 0, none⟩ ⟨C, ys.drop d, cz, b'⟩ 1 rfl (by show _ = some (Value.slice C (ys.drop d).length cz); rw [HYD.out, add_plain]; simp [go_sem]) (by rw [add_plain]; simp [go_sem]) (bind_app (b' := b') HOWN.out hzr (below_drew (Below.refl _ _)) hb hc1 (Nat.le_trans (Nat.le_of_eq HYD.out) hc2) hc3 hc4 hc5 HYZ.out _).2.1 (bind_app (b' := b') HOWN.out hzr (below_drew (Below.refl _ _)) hb hc1 (Nat.le_trans (Nat.le_of_eq HYD.out) hc2) hc3 hc4 hc5 HYZ.out _).2.2.1 HBM.out (bind_app (b' := b') HOWN.out hzr (below_drew (Below.refl _ _)) hb hc1 (Nat.le_trans (Nat.le_of_eq HYD.out) hc2) hc3 hc4 hc5 HYZ.out _).2.2.2.1 ?_; intro v9 w9 hown9 hb9))
            go_wp2
            go_ret2
            refine ⟨v9, bl ++ [⟨C, ys.drop d, cz, b'⟩], rfl, hown9.more (by omega), ?_, (HBW.out.trans ((bind_app (b' := b') HOWN.out hzr (below_drew (Below.refl _ _)) hb hc1 (Nat.le_trans (Nat.le_of_eq HYD.out) hc2) hc3 hc4 hc5 HYZ.out _).2.2.2.2.mono HBW.out.size)).trans (hb9.mono (by omega))⟩
            rw [HBD.out, List.map_append, HMAP2.out]
            show _ ++ ([⟨bs (ys.drop d), b'⟩] : List Pt.Pat) = _
            rw [bs_dropN]
            rfl
          · cases B with
            | none => exact absurd (HQN.out rfl) (by omega)
            | some ab =>
                have HCL := Lib.hid (fun (w' : World) (h : S2 w (.slice A n c) (.bool true) (.slice (some ab) m d) (.bool b') 24 w') => by
                  have hq := HQr.out w' h
                  have hr2 : RdS w' w'.heap.size (some (ab.add n)) (ys.drop n) := by
                    by_cases he : n < m
                    · obtain ⟨g, o, hA, hg, hc⟩ := hq.cells (by rw [← HM.out]; omega)
                      injection hA with hA
                      subst hA
                      rw [add_plain]
                      exact hq.drop n
                    · exact .inl (List.eq_nil_of_length_eq_zero (by rw [hyd]; omega))
                  exact hr2)
                have HYD := Lib.hid hyd
                clear hyd
                go_wp2_with fail
                set_option maxRecDepth 100000 in
                go_region_held3 (fun w' => w'.cell? ⟨w.heap.size, 0, none⟩ = some (.slice A n c) ∧ w'.cell? ⟨w.heap.size, 1, none⟩ = some (.bool true) ∧ w'.cell? ⟨w.heap.size + 1, 0, none⟩ = some (.slice (some ab) m d) ∧ w'.cell? ⟨w.heap.size + 1, 1, none⟩ = some (.bool b') ∧ In2 w (.slice A n c) (.bool true) (.slice (some ab) m d) (.bool b') 24 w')
                  ((refine In2.held ?_; repeat (first | assumption | with_reducible exact hin.2.2.2.2 | with_reducible refine In2.nextM hb9 HW1.out ?_ | with_reducible refine In2.next ?_ hb | with_reducible refine In2.allocd ?_ _ | with_reducible refine In2.drew ?_)))
                  (first
                    | (refine step_append_nil rfl _ _ rfl rfl (some (ab.add n)) (ys.drop n) (m - n) (d - n) HYD.out.symm rfl (HCL.out _ (by assumption)) (fun h => by cases h) (by omega) ?_; intro C cz w' hc1 hc2 hc3 hc4 hc5 hb)
                    | (refine step_append_bd rfl _ _ rfl w1.heap.size (.slice AL t eL) bl rfl (bind_app (b' := b') HOWN.out hzr (below_drew (Below.refl _ _)) hb hc1 (Nat.le_trans (Nat.le_of_eq HYD.out) hc2) hc3 hc4 hc5 HYZ.out _).1 ⟨w'.heap.size, 0, none⟩ ⟨C, ys.drop n, cz, b'⟩ 1 rfl (by show _ = some (Value.slice C (ys.drop n).length cz); rw [HYD.out, add_plain]; simp [go_sem]) (by rw [add_plain]; simp [go_sem]) (bind_app (b' := b') HOWN.out hzr (below_drew (Below.refl _ _)) hb hc1 (Nat.le_trans (Nat.le_of_eq HYD.out) hc2) hc3 hc4 hc5 HYZ.out _).2.1 (bind_app (b' := b') HOWN.out hzr (below_drew (Below.refl _ _)) hb hc1 (Nat.le_trans (Nat.le_of_eq HYD.out) hc2) hc3 hc4 hc5 HYZ.out _).2.2.1 HBM.out (bind_app (b' := b') HOWN.out hzr (below_drew (Below.refl _ _)) hb hc1 (Nat.le_trans (Nat.le_of_eq HYD.out) hc2) hc3 hc4 hc5 HYZ.out _).2.2.2.1 ?_; intro v9 w9 hown9 hb9))
                go_wp2
                go_ret2
                refine ⟨v9, bl ++ [⟨C, ys.drop n, cz, b'⟩], rfl, hown9.more (by omega), ?_, (HBW.out.trans ((bind_app (b' := b') HOWN.out hzr (below_drew (Below.refl _ _)) hb hc1 (Nat.le_trans (Nat.le_of_eq HYD.out) hc2) hc3 hc4 hc5 HYZ.out _).2.2.2.2.mono HBW.out.size)).trans (hb9.mono (by omega))⟩
                rw [HBD.out, List.map_append, HMAP2.out]
                show _ ++ ([⟨bs (ys.drop n), b'⟩] : List Pt.Pat) = _
                rw [bs_dropN]
                rfl
end Go.Proofs.YtpdkecchpidhdaaGreatDoor

namespace Go.Proofs.YtpdkecchpidhdaaGreatDoor
open Go.RowKit

theorem GivesBd.any {w w' : World} {o : Option (List Pt.Pat)} {e : Ending} (h : GivesBd w o e w') : ∃ v bl, e = .returned (.tuple #[v, .bool o.isSome]) ∧ OwnB w' w.heap.size v bl ∧ bl.map BindV.pat = o.getD [] ∧ Below w.heap.size w w' := by
  cases o with
  | none => exact ⟨_, [], h.1, OwnB.empty _ _, rfl, h.2⟩
  | some l =>
    obtain ⟨v, bl, h1, h2, h3, h4⟩ := h
    exact ⟨v, bl, h1, h2, h3, h4⟩
theorem OwnB.at {w : World} {base : Nat} {A : Option Addr} {n e : Nat} {bl : List BindV} (h : OwnB w base (.slice A n e) bl) {k : Nat} (hk : k < bl.length) : ∃ g, A = some ⟨g, 0, none⟩ ∧ g < w.heap.size ∧ w.cell? ⟨g, k * 2, none⟩ = some (.slice bl[k].A bl[k].xs.length bl[k].c) ∧ w.cell? ⟨g, k * 2 + 1, none⟩ = some (.bool bl[k].b) := by
  have hg := bcells_get bl k hk
  rcases h.row.2 with ⟨hv, hn⟩ | ⟨g, cap, cur, hv, hbg, hgg, r⟩
  · omega
  · injection hv with hA hn hc
    subst hA
    have c0 := World.ownsRow.cells h.row (g := g) rfl _ _ hg.1
    have c1 := World.ownsRow.cells h.row (g := g) rfl _ _ hg.2
    rw [add_plain] at c0 c1
    rw [Nat.zero_add, Nat.mul_comm] at c0
    rw [Nat.zero_add, Nat.mul_comm] at c1
    exact ⟨g, rfl, (Array.getElem?_eq_some_iff.1 hgg).1, c0, c1⟩
structure InE (wr w' : World) : Prop where
  below : Below wr.heap.size wr w'
theorem InE.next {wr w1 w' : World} (h : InE wr w1) (hb : Below w1.heap.size w1 w') : InE wr w' := ⟨h.below.trans (hb.mono h.below.size)⟩
theorem InE.drew {wr w' : World} (h : InE wr w') : InE wr w'.drew := ⟨h.below.trans (below_drew (Below.refl _ _))⟩
abbrev SE (wr : World) (g1 g2 k : Nat) (v0 v1 u0 u1 : Value) (w' : World) : Prop :=
  w'.cell? ⟨g1, k * 2, none⟩ = some v0 ∧ w'.cell? ⟨g1, k * 2 + 1, none⟩ = some v1 ∧ w'.cell? ⟨g2, k * 2, none⟩ = some u0 ∧ w'.cell? ⟨g2, k * 2 + 1, none⟩ = some u1 ∧ InE wr w'
theorem SE.held {wr : World} {g1 g2 k : Nat} {v0 v1 u0 u1 : Value} (h1 : g1 < wr.heap.size) (h2 : g2 < wr.heap.size) (c0 : wr.cell? ⟨g1, k * 2, none⟩ = some v0) (c1 : wr.cell? ⟨g1, k * 2 + 1, none⟩ = some v1) (c2 : wr.cell? ⟨g2, k * 2, none⟩ = some u0) (c3 : wr.cell? ⟨g2, k * 2 + 1, none⟩ = some u1) (w' : World) (h : InE wr w') : SE wr g1 g2 k v0 v1 u0 u1 w' :=
  ⟨(h.below.cell (p := ⟨g1, k * 2, none⟩) h1).trans c0, (h.below.cell (p := ⟨g1, k * 2 + 1, none⟩) h1).trans c1, (h.below.cell (p := ⟨g2, k * 2, none⟩) h2).trans c2, (h.below.cell (p := ⟨g2, k * 2 + 1, none⟩) h2).trans c3, h⟩
theorem binds_same {l m : List BindV} {k : Nat} (h : l.map BindV.pat = m.map BindV.pat) (h1 : k < l.length) (h2 : k < m.length) : m[k].xs = l[k].xs ∧ m[k].b = l[k].b := by
  have e : (l.map BindV.pat)[k]? = (m.map BindV.pat)[k]? := by rw [h]
  rw [List.getElem?_map, List.getElem?_map, List.getElem?_eq_getElem h1, List.getElem?_eq_getElem h2] at e
  simp only [Option.map_some, Option.some.injEq, BindV.pat, Pt.Pat.mk.injEq] at e
  exact ⟨(bs_inj e.1).symm, e.2.symm⟩
end Go.Proofs.YtpdkecchpidhdaaGreatDoor

namespace Go.Proofs.YtpdkecchpidhdaaGreatDoor
open Go.RowKit

/-- A slice that reads as these bindings. -/
structure RdB (w : World) (A : Option Addr) (bl : List BindV) (c : Nat) : Prop where
  cells : bl = [] ∨ ∃ g o, A = some ⟨g, o, none⟩ ∧ g < w.heap.size ∧ ∀ k (h : k < bl.length), w.cell? ⟨g, o + k * 2, none⟩ = some (.slice bl[k].A bl[k].xs.length bl[k].c) ∧ w.cell? ⟨g, o + k * 2 + 1, none⟩ = some (.bool bl[k].b)
  parts : ∀ x ∈ bl, PatR w x.A x.xs x.c x.b x.pat
  le : bl.length ≤ c
  cm : c ≤ maxLen
  nil : A = none → c = 0
theorem RdB.keep {w w' : World} {A : Option Addr} {bl : List BindV} {c : Nat} (h : RdB w A bl c) (hb : Below w.heap.size w w') : RdB w' A bl c := by
  refine ⟨?_, fun x hx => (h.parts x hx).keep hb, h.le, h.cm, h.nil⟩
  rcases h.cells with h0 | ⟨g, o, hA, hg, hc⟩
  · exact .inl h0
  · exact .inr ⟨g, o, hA, Nat.lt_of_lt_of_le hg hb.size, fun k hk => ⟨(hb.cell (p := ⟨g, o + k * 2, none⟩) hg).trans (hc k hk).1, (hb.cell (p := ⟨g, o + k * 2 + 1, none⟩) hg).trans (hc k hk).2⟩⟩
theorem RdB.at {w : World} {A : Option Addr} {bl : List BindV} {c : Nat} (h : RdB w A bl c) (hl : 0 < bl.length) : ∃ g o, A = some ⟨g, o, none⟩ ∧ g < w.heap.size ∧ ∀ k (h : k < bl.length), w.cell? ⟨g, o + k * 2, none⟩ = some (.slice bl[k].A bl[k].xs.length bl[k].c) ∧ w.cell? ⟨g, o + k * 2 + 1, none⟩ = some (.bool bl[k].b) := by
  rcases h.cells with h0 | h1
  · subst h0; simp at hl
  · exact h1
theorem OwnB.rd {w : World} {base : Nat} {v : Value} {bl : List BindV} (h : OwnB w base v bl) : ∃ A c, v = .slice A bl.length c ∧ RdB w A bl c := by
  have hat := fun A n e (h2 : OwnB w base (.slice A n e) bl) k (hk : k < bl.length) => h2.at hk
  rcases h.row.2 with ⟨hv, hn⟩ | ⟨g, cap, cur, hv, hbg, hg, hnc, hcm, _⟩
  · exact ⟨none, 0, by rw [hv, hn], .inl (List.eq_nil_of_length_eq_zero hn), h.parts, by omega, Nat.zero_le _, fun _ => rfl⟩
  · refine ⟨some ⟨g, 0, none⟩, cap, hv, .inr ⟨g, 0, rfl, (Array.getElem?_eq_some_iff.1 hg).1, fun k hk => ?_⟩, h.parts, hnc, hcm, fun h => by cases h⟩
    rw [hv] at h
    obtain ⟨g', hA, _, c0, c1⟩ := hat _ _ _ h k hk
    injection hA with hA
    injection hA with hA
    subst hA
    rw [Nat.zero_add]
    exact ⟨c0, c1⟩

namespace Pt
def one (b : Pat) : Bool := decide (b.parts.length = 1) && !b.rest
def empty (b : Pat) : Bool := decide (b.parts.length = 0) && !b.rest
def okAt (n i : Nat) (b : Pat) : Bool := b.parts.all part && !(decide (i < n) && !one b) && !(decide (i = n) && empty b)
def okFrom (n : Nat) : Nat → List Pat → Bool
  | _, [] => true
  | i, b :: l => okAt n i b && okFrom n (i + 1) l
theorem okFrom_cons (n i : Nat) (b : Pat) (l : List Pat) : okFrom n i (b :: l) = (okAt n i b && okFrom n (i + 1) l) := rfl
theorem ok_single {n i : Nat} {b : Pat} (h : i < n) : okAt n i b = single b := by
  unfold okAt single one
  have h2 : ¬ i = n := by omega
  rw [decide_eq_true h, decide_eq_false h2]
  cases b.rest with
  | true => simp
  | false =>
    match hb : b.parts with
    | [] => simp
    | [x] => simp
    | x :: y :: r => simp
theorem ok_rest {n : Nat} {b : Pat} : okAt n n b = restOk b := by
  unfold okAt restOk empty
  rw [decide_eq_false (Nat.lt_irrefl n), decide_eq_true rfl]
  cases b.rest with
  | true => simp
  | false =>
    match hb : b.parts with
    | [] => simp
    | x :: r => simp
theorem okFrom_eq (n : Nat) (r : Bool) : ∀ (l : List Pat) (i : Nat), i ≤ n → l.length = (n - i) + (if r then 1 else 0) → okFrom n i l = ((l.take (n - i)).all single && (!r || restOk (l.getD (n - i) none_)))
  | [], i, h, hl => by
    cases r with
    | true => simp at hl
    | false => simp [okFrom]
  | b :: l, i, h, hl => by
    rw [okFrom_cons]
    by_cases hi : i < n
    · have e : n - i = (n - (i + 1)) + 1 := by omega
      rw [ok_single hi, okFrom_eq n r l (i + 1) (by omega) (by rw [List.length_cons] at hl; omega), e, List.take_succ_cons, List.all_cons, Bool.and_assoc]
      simp
    · obtain rfl : i = n := by omega
      rw [Nat.sub_self] at hl ⊢
      cases r with
      | false => simp at hl
      | true =>
        have : l = [] := List.eq_nil_of_length_eq_zero (by simpa using hl)
        subst this
        rw [ok_rest]
        simp [okFrom]
def areB (n : Nat) (r : Bool) (l : List Pat) : Bool := decide (l.length = n + if r then 1 else 0) && okFrom n 0 l
theorem areB_eq (p : Pat) (l : List Pat) : areB (stars p.parts) p.rest l = bindsOk p l := by
  unfold areB bindsOk wilds
  by_cases h : l.length = stars p.parts + if p.rest then 1 else 0
  · rw [decide_eq_true h, okFrom_eq _ p.rest l 0 (Nat.zero_le _) (by rw [Nat.sub_zero]; exact h), Nat.sub_zero, Bool.and_assoc]
  · rw [decide_eq_false h]
    simp
end Pt
theorem okFrom_drop {n k : Nat} {bl : List BindV} (h : k < bl.length) : Pt.okFrom n k ((bl.map BindV.pat).drop k) = (Pt.okAt n k bl[k].pat && Pt.okFrom n (k + 1) ((bl.map BindV.pat).drop (k + 1))) := by
  rw [List.drop_eq_getElem_cons (by simpa using h), Pt.okFrom_cons, List.getElem_map]
end Go.Proofs.YtpdkecchpidhdaaGreatDoor

namespace Go.Proofs.YtpdkecchpidhdaaGreatDoor
open Go.RowKit

set_option maxHeartbeats 8000000 in
theorem areB_any (A : Option Addr) (bl : List BindV) (c n : Nat) (r : Bool) (w : World) (h : RdB w A bl c) (hn : n ≤ 1000) :
    Calls Tryz.prog 197 #[.slice A bl.length c, .int .i64 (n : Int), .bool r] w (GivesBB w (Pt.areB n r (bl.map BindV.pat))) := by
  have hv : Pt.areB n r (bl.map BindV.pat) = (decide (bl.length = n + if r then 1 else 0) && Pt.okFrom n 0 ((bl.map BindV.pat).drop 0)) := by unfold Pt.areB; simp
  have HW := Lib.hid (fun w : World => wildcards_any n r w (by omega))
  have HR := Lib.hid h
  have hcm := h.cm
  have hle := h.le
  generalize Pt.areB n r (bl.map BindV.pat) = v at hv ⊢
  obtain ⟨m, hm⟩ : ∃ m, m = bl.length := ⟨_, rfl⟩
  rw [← hm] at hv hle ⊢
  have HM := Lib.hid hm
  have hmi : (m : Int) ≤ 9223372036854775807 := by unfold maxLen at hcm; omega
  have hmc : (m : Int) ≤ (c : Int) := by omega
  clear h hm hcm
  by_cases hl : m = n + if r then 1 else 0
  · rw [decide_eq_true hl, Bool.true_and] at hv
    rw [← hl] at HW
    have HV := Lib.hid hv.symm
    clear hv hl
    go_enter Tryz.func197, Tryz.ntmps197
    go_wp2_with fail
    with_reducible refine (HW.out _).mono ?_
    rintro e w' ⟨rfl, rfl⟩
    go_wp2
    go_loopw [19] (fun iv wr => ∃ k : Nat, k ≤ m ∧ iv = .int .i64 k ∧ Pt.okFrom n k ((bl.map BindV.pat).drop k) = v ∧ Below w.heap.size w wr) (fun iv _ => m - (intOf iv).toNat)
    case atStart => exact ⟨0, by omega, rfl, HV.out, Below.refl _ _⟩
    case round =>
      obtain ⟨k, hkm, rfl, hok, hbr⟩ := hrel
      have HRW := Lib.hid (HR.out.keep hbr)
      have HB := Lib.hid hok
      have HBR := Lib.hid hbr
      have hzr := hbr.size
      clear hok hbr
      by_cases hlt : k < m
      · have hlx : k < bl.length := by rw [← HM.out]; exact hlt
        obtain ⟨g, o, hA, hg, hcell⟩ := HRW.out.at (by omega)
        subst hA
        obtain ⟨e0, e1⟩ := hcell k hlx
        have hpr := HRW.out.parts _ (List.getElem_mem hlx)
        have hok := okFrom_drop (n := n) hlx
        rw [HB.out] at hok
        have hat : Pt.okAt n k bl[k].pat = ((bs bl[k].xs).all Pt.part && !(decide (k < n) && !(decide (bl[k].xs.length = 1) && !bl[k].b)) && !(decide (k = n) && (decide (bl[k].xs.length = 0) && !bl[k].b))) := by
          unfold Pt.okAt Pt.one Pt.empty BindV.pat
          simp only [bs_length]
        rw [hat] at hok
        clear hat hcell
        have HAP := Lib.hid (fun (w' : World) (hb : Below wr.heap.size wr w') => areParts_any bl[k].A bl[k].xs bl[k].c w' (hpr.keep hb).rd hpr.le hpr.cm hpr.sz)
        clear hpr
        generalize bl[k].A = XA at *
        generalize bl[k].xs = ys at *
        generalize bl[k].c = xc at *
        generalize bl[k].b = xb at *
        generalize (bs ys).all Pt.part = ap at *
        generalize ys.length = L at *
        have ht : ((decide (L = 0) = true ∧ decide (L = 1) = false ∧ ((L : Int) == 1) = false ∧ ((L : Int) == 0) = true) ∨ (decide (L = 0) = false ∧ decide (L = 1) = true ∧ ((L : Int) == 1) = true ∧ ((L : Int) == 0) = false) ∨ (decide (L = 0) = false ∧ decide (L = 1) = false ∧ ((L : Int) == 1) = false ∧ ((L : Int) == 0) = false)) := by
          rcases Nat.lt_or_ge L 1 with h | h
          · obtain rfl : L = 0 := by omega
            exact .inl ⟨rfl, rfl, rfl, rfl⟩
          · by_cases h1 : L = 1
            · subst h1
              exact .inr (.inl ⟨rfl, rfl, rfl, rfl⟩)
            · exact .inr (.inr ⟨decide_eq_false (by omega), decide_eq_false h1, by rw [beq_eq_false_iff_ne]; omega, by rw [beq_eq_false_iff_ne]; omega⟩)
        have hk : ((decide (k < n) = true ∧ decide (k = n) = false) ∧ ((k : Int) < (n : Int)) ∧ ((k : Int) == (n : Int)) = false) ∨ ((decide (k < n) = false ∧ decide (k = n) = true) ∧ (¬ (k : Int) < (n : Int)) ∧ ((k : Int) == (n : Int)) = true) ∨ ((decide (k < n) = false ∧ decide (k = n) = false) ∧ (¬ (k : Int) < (n : Int)) ∧ ((k : Int) == (n : Int)) = false) := by
          rcases Nat.lt_trichotomy k n with h | h | h
          · exact .inl ⟨⟨decide_eq_true h, decide_eq_false (by omega)⟩, by omega, by rw [beq_eq_false_iff_ne]; omega⟩
          · exact .inr (.inl ⟨⟨decide_eq_false (by omega), decide_eq_true h⟩, by omega, by rw [beq_iff_eq]; omega⟩)
          · exact .inr (.inr ⟨⟨decide_eq_false (by omega), decide_eq_false (by omega)⟩, by omega, by rw [beq_eq_false_iff_ne]; omega⟩)
        rcases ht with ⟨l0, l1, t2, t3⟩ | ⟨l0, l1, t2, t3⟩ | ⟨l0, l1, t2, t3⟩ <;> rcases hk with ⟨⟨j0, j1⟩, t4, t5⟩ | ⟨⟨j0, j1⟩, t4, t5⟩ | ⟨⟨j0, j1⟩, t4, t5⟩ <;> rw [l0, l1, j0, j1] at hok <;> clear l0 l1 j0 j1 <;> cases ap <;> cases xb
        all_goals
          simp only [Bool.not_true, Bool.not_false, Bool.and_true, Bool.true_and, Bool.and_false, Bool.false_and] at hok
          have HOK := Lib.hid hok
          clear hok
          go_wp2_with fail
          with_reducible refine (HAP.out _ ((Below.refl _ _).alloc (Nat.le_refl _) _)).mono ?_
          rintro e w' ⟨rfl, rfl⟩
          go_wp2
          first
            | (have hvf : v = false := HOK.out.symm ▸ rfl
               subst hvf
               go_ret
               exact ⟨rfl, HBR.out.alloc hzr _⟩)
            | (go_roundw
               case rel => exact ⟨k + 1, by omega, by go_num, HOK.out.symm, HBR.out.alloc hzr _⟩
               case measure => simp [intOf]; omega)
      · obtain rfl : k = m := by omega
        have hvt : v = true := by
          rw [← HB.out, List.drop_of_length_le (by rw [List.length_map, ← HM.out]; exact Nat.le_refl _)]
          rfl
        subst hvt
        go_wp2
        go_ret
        exact ⟨rfl, HBR.out⟩
  · have hvf : v = false := by rw [hv, decide_eq_false hl]; rfl
    subst hvf
    have hli : ((m : Int) == ((n + if r then 1 else 0 : Nat) : Int)) = false := by rw [beq_eq_false_iff_ne]; omega
    have hli2 : ((m : Int) != ((n + if r then 1 else 0 : Nat) : Int)) = true := by rw [bne, hli]; rfl
    generalize (n + if r then 1 else 0) = t at *
    clear hv hl
    go_enter Tryz.func197, Tryz.ntmps197
    go_wp2_with fail
    with_reducible refine (HW.out _).mono ?_
    rintro e w' ⟨rfl, rfl⟩
    go_wp2
    go_ret
    exact ⟨rfl, Below.refl _ _⟩
end Go.Proofs.YtpdkecchpidhdaaGreatDoor

namespace Go.Proofs.YtpdkecchpidhdaaGreatDoor
open Go.RowKit

abbrev zeroBd : Obj := .cells #[.slice none 0 0, .bool false] 184
/-- The tail of a substitution, in its box. -/
structure Tl (w2 wx : World) (g : Nat) (TA : Option Addr) (ts : List ByteArray) (tc : Nat) (tb : Bool) : Prop where
  e0 : wx.cell? ⟨g, 0, none⟩ = some (.slice TA ts.length tc)
  e1 : wx.cell? ⟨g, 1, none⟩ = some (.bool tb)
  lt : g < wx.heap.size
  pr : PatR wx TA ts tc tb ⟨bs ts, tb⟩
  below : Below w2.heap.size w2 wx
theorem pz {w w' : World} {v0 v1 : Value} (h : Below ((w.alloc (.cells #[v0, v1] 24)).alloc zeroPat).heap.size ((w.alloc (.cells #[v0, v1] 24)).alloc zeroPat) w') :
    w'.cell? ⟨w.heap.size, 0, none⟩ = some v0 ∧ w'.cell? ⟨w.heap.size, 1, none⟩ = some v1 ∧ ZBox w' (w.heap.size + 1) := by
  obtain ⟨a, b, _, _⟩ := box2_cells h
  have z := ZBox.one h
  rw [show (w.alloc (.cells #[v0, v1] 24)).heap.size = w.heap.size + 1 by simp] at z
  exact ⟨a, b, z⟩
theorem heads_one {v : BindV} (h : Pt.single v.pat = true) : v.xs.length = 1 ∧ v.b = false ∧ bs v.xs = [v.pat.parts.headD []] := by
  unfold Pt.single BindV.pat at h
  simp only [Bool.and_eq_true, decide_eq_true_eq, Bool.not_eq_true', bs_length] at h
  refine ⟨h.1.1, h.1.2, ?_⟩
  show bs v.xs = [(bs v.xs).headD []]
  match hx : v.xs, h.1.1 with
  | [x], _ => rfl
set_option maxHeartbeats 16000000 in
theorem subst_any (A B : Option Addr) (xs : List ByteArray) (bl : List BindV) (c d : Nat) (b : Bool) (p : Pt.Pat) (w : World) (hp : PatR w A xs c b p) (hl : RdB w B bl d) (hsx : ∀ x ∈ xs, x.size ≤ 100000) (hsy : ∀ v ∈ bl, ∀ y ∈ v.xs, y.size ≤ 100000) (hsn : ∀ v ∈ bl, v.xs.length ≤ 1000) :
    Calls Tryz.prog 180 #[patV A xs.length c b, .slice B bl.length d] w (GivesPat w (Pt.subst p (bl.map BindV.pat)) (Pt.substErr p (bl.map BindV.pat))) := by
  obtain ⟨W0, hW0⟩ : ∃ W0, W0 = (w.alloc (.cells #[.slice A xs.length c, .bool b] 24)).alloc zeroPat := ⟨_, rfl⟩
  have hal : Below w.heap.size w W0 := by rw [hW0]; exact ((Below.refl _ _).alloc (Nat.le_refl _) _).alloc (by simp) _
  obtain ⟨L, hL⟩ : ∃ L, L = bl.map BindV.pat := ⟨_, rfl⟩
  rw [← hL]
  have he := Pt.subst_err p L
  have hz : Pt.substErr p L ≠ 0 → Pt.subst p L = ⟨[], false⟩ := fun h => by unfold Pt.subst; rw [if_neg h]; rfl
  have hv := fun h => Pt.subst_val (p := p) (l := L) h
  have hform := fun (h : Pt.check p = 0) => Pt.form_parts (Pt.check_ok.1 h).1
  have h12 : Pt.check p = 0 → xs.length ≤ 12 := fun h => by rw [← hp.len]; exact (Pt.check_ok.1 h).2
  have HK := Lib.hid (fun (w' : World) (hb : Below W0.heap.size W0 w') => kinds_any A xs c b p w' (hp.keep (hal.trans (hb.mono hal.size))))
  unfold kindsN kindsR at HK
  have hnx : Pt.stars p.parts ≤ xs.length := by rw [← hp.len]; exact stars_le _
  have hHA : Pt.check p = 0 → ∀ (w' : World) (hb : Below W0.heap.size W0 w'), Calls Tryz.prog 197 #[.slice B bl.length d, .int .i64 (Pt.stars p.parts : Int), .bool b] w' (GivesBB w' (Pt.bindsOk p L)) := fun h w' hb => by
    have h1 := areB_any B bl d (Pt.stars p.parts) b w' (hl.keep (hal.trans (hb.mono hal.size))) (by have := h12 h; omega)
    have h2 := Pt.areB_eq p L
    rw [← hp.rest, hL] at h2
    rw [hL, ← h2]
    exact h1
  generalize Pt.substErr p L = er at he hz hv ⊢
  generalize Pt.subst p L = sp at hz hv ⊢
  have HAL := Lib.hid hal
  have HX0 := Lib.hid (Below.refl W0.heap.size W0)
  by_cases hc : Pt.check p = 0
  · have hA2 := hHA hc
    rw [if_pos hc] at he
    simp only [hc] at HK
    have hpp := hform hc
    have hx12 := h12 hc
    rw [← hp.rest] at HK he hv
    have hlen : p.parts.length = xs.length := hp.len
    generalize hN : Pt.stars p.parts = N at *
    cases hbk : Pt.bindsOk p L with
    | false =>
      rw [hbk] at he hA2
      simp only [Bool.false_eq_true, if_false] at he
      subst he
      obtain rfl := hz (by decide)
      have HA := Lib.hid hA2
      clear hv hform h12 hHA hA2 hp hl hsx hsy hsn hpp hbk hL hN hlen
      generalize xs.length = n at *
      generalize bl.length = m at *
      subst hW0
      clear hal
      go_enter Tryz.func180, Tryz.ntmps180
      go_wp2_with fail
      with_reducible refine (HK.out _ HX0.out).mono ?_
      rintro e w1 ⟨rfl, hb1⟩
      obtain ⟨k0, k1, ⟨z0, z1, z2, z3, z4⟩⟩ := pz hb1
      have HB1 := Lib.hid hb1
      clear hb1
      go_wp2_with fail
      with_reducible refine (HA.out _ HB1.out).mono ?_
      rintro e w2 ⟨rfl, hb2⟩
      have hb3 := HB1.out.trans (hb2.mono HB1.out.size)
      obtain ⟨l0, l1, ⟨y0, y1, y2, y3, y4⟩⟩ := pz hb3
      have HB3 := Lib.hid hb3
      clear hb2 hb3 k0 k1 z0 z1 z2 z3 z4
      go_wp2
      refine bodyPost_ret (v := .tuple #[patV none 0 0 false, .int .i64 33]) (by simp [results, Tryz.results180, go_sem, y0, y1]) rfl ⟨none, [], 0, false, rfl, patR_zero _, ?_⟩
      exact ((HAL.out.trans (HB3.out.mono HAL.out.size)).setCell (p := ⟨w.heap.size + 1, 0, none⟩) (by simp) _).setCell (p := ⟨w.heap.size + 1, 1, none⟩) (by simp) _
    | true =>
      rw [hbk] at he hA2
      simp only [if_true] at he
      have HA := Lib.hid hA2
      unfold Pt.bindsOk Pt.wilds at hbk
      simp only [Bool.and_eq_true, decide_eq_true_eq, List.all_eq_true, Bool.or_eq_true, Bool.not_eq_true'] at hbk
      obtain ⟨⟨hk1, hk2⟩, hk3⟩ := hbk
      rw [hN, ← hp.rest] at hk1
      rw [hN] at hk2
      have hbl : bl.length = N + if b then 1 else 0 := by rw [← hk1, hL, List.length_map]
      have hLb : ∀ k (h : k < bl.length), L[k]? = some bl[k].pat := fun k h => by rw [hL, List.getElem?_map, List.getElem?_eq_getElem h]; rfl
      have hone : ∀ k (h : k < bl.length), k < N → bl[k].xs.length = 1 ∧ bl[k].b = false ∧ bs bl[k].xs = [bl[k].pat.parts.headD []] := fun k h hk => heads_one (hk2 _ (by
        rw [List.mem_take_iff_getElem]
        refine ⟨k, by rw [hk1]; omega, ?_⟩
        have := hLb k h
        rw [List.getElem?_eq_some_iff] at this
        obtain ⟨_, e⟩ := this
        exact e))
      have hhd : ∀ k (h : k < bl.length), ((L.map fun b => b.parts.headD []).take (k + 1)) = ((L.map fun b => b.parts.headD []).take k) ++ [bl[k].pat.parts.headD []] := fun k h => by
        rw [List.take_succ_eq_append_getElem (by rw [List.length_map, hL, List.length_map]; exact h), List.getElem_map]
        have := hLb k h
        rw [List.getElem?_eq_some_iff] at this
        obtain ⟨_, e⟩ := this
        rw [e]
      have htail : b = true → ∃ (h : N < bl.length), L.getD N Pt.none_ = bl[N].pat := fun hb => by
        rw [hb] at hbl
        have h1 : N < bl.length := by rw [hbl]; simp
        exact ⟨h1, by rw [List.getD_eq_getElem?_getD, hLb N h1]; rfl⟩
      have hpl : p.rest = b := hp.rest.symm
      have HONE := Lib.hid hone
      have HHD := Lib.hid hhd
      have HTL := Lib.hid htail
      have HE := Lib.hid he
      have HZ := Lib.hid hz
      have HV := Lib.hid hv
      have HPP := Lib.hid hpp
      have HST := Lib.hid hN
      have HP := Lib.hid hp
      have HRL := Lib.hid hl
      have HSX := Lib.hid hsx
      have HSY := Lib.hid hsy
      have HSN := Lib.hid hsn
      have HLN := Lib.hid hlen
      have hdm : (d : Int) ≤ 9223372036854775807 := by have := hl.cm; unfold maxLen at this; omega
      have hmd : bl.length ≤ d := hl.le
      have hcm : (c : Int) ≤ 9223372036854775807 := by have := hp.cm; unfold maxLen at this; omega
      have hnc : xs.length ≤ c := hp.le
      clear hv hform h12 hHA hA2 hp hl hsx hsy hsn hpp hk1 hk2 hk3 hLb hone hhd htail he hz hN hL hlen hpl
      obtain ⟨n, hn⟩ : ∃ n, n = xs.length := ⟨_, rfl⟩
      obtain ⟨m, hm⟩ : ∃ m, m = bl.length := ⟨_, rfl⟩
      rw [← hn] at hW0 HK hnx hx12 hnc HLN ⊢
      rw [← hm] at HA hbl hmd ⊢
      have HN := Lib.hid hn
      have HM := Lib.hid hm
      have hNm0 : N ≤ m := by omega
      clear hn hm hbl
      subst hW0
      clear hal
      go_enter Tryz.func180, Tryz.ntmps180
      go_wp2_with fail
      with_reducible refine (HK.out _ HX0.out).mono ?_
      rintro e w1 ⟨rfl, hb1⟩
      obtain ⟨k0, k1, ⟨z0, z1, z2, z3, z4⟩⟩ := pz hb1
      have HB1 := Lib.hid hb1
      clear hb1
      go_wp2_with fail
      with_reducible refine (HA.out _ HB1.out).mono ?_
      rintro e w2 ⟨rfl, hb2⟩
      have hb3 := HB1.out.trans (hb2.mono HB1.out.size)
      obtain ⟨l0, l1, hzb⟩ := pz hb3
      have hz2 := hb3.size
      simp only [World.alloc, Array.size_push] at hz2
      have HB3 := Lib.hid hb3
      have HZB := Lib.hid hzb
      have HR2 := Lib.hid (HRL.out.keep (HAL.out.trans (hb3.mono HAL.out.size)))
      clear hb2 hb3 k0 k1 z0 z1 z2 z3 z4 hzb HB1 HK HA
      go_upto_if 29 with fail
      go_cut [] (fun wx => ∃ (TA : Option Addr) (ts : List ByteArray) (tc : Nat) (tb : Bool), Tl w2 wx w2.heap.size TA ts tc tb ∧ (⟨bs ts, tb⟩ : Pt.Pat) = (if b then L.getD N Pt.none_ else Pt.none_) ∧ ts.length ≤ 1000)
      case first =>
        cases b with
        | false =>
          set_option maxRecDepth 100000 in go_wp2_with fail
          go_meet
          obtain ⟨x0, x1⟩ := box_cells (w := w2) (v0 := .slice none 0 0) (v1 := .bool false) (t := 184) (Below.refl _ _)
          exact ⟨none, [], 0, false, ⟨x0, x1, by simp, ⟨.inl rfl, rfl, rfl, by simp, by simp, fun _ => rfl, by simp⟩, (Below.refl _ _).alloc (Nat.le_refl _) _⟩, rfl, by simp⟩
        | true =>
          obtain ⟨hNm, hgd⟩ := HTL.out rfl
          have hNm2 : N < m := by rw [HM.out]; exact hNm
          obtain ⟨g, o, rfl, hg, hcell⟩ := HR2.out.at (by omega)
          obtain ⟨e0, e1⟩ := hcell N hNm
          have i1 : (N : Int) < (m : Int) := by omega
          have n1 : ¬ g = w2.heap.size := by omega
          have n2 : ¬ w2.heap.size = g := by omega
          have hpr := HR2.out.parts _ (List.getElem_mem hNm)
          have hsn := HSN.out _ (List.getElem_mem hNm)
          have HPR := Lib.hid hpr
          have HGD := Lib.hid hgd
          clear hcell hpr hgd
          set_option maxRecDepth 100000 in go_wp2_with fail
          go_meet
          obtain ⟨x0, x1⟩ := box_cells (w := w2) (v0 := .slice bl[N].A bl[N].xs.length bl[N].c) (v1 := .bool bl[N].b) (t := 184) (Below.refl _ _)
          refine ⟨bl[N].A, bl[N].xs, bl[N].c, bl[N].b, ⟨x0, x1, by simp, HPR.out.keep ((Below.refl _ _).alloc (Nat.le_refl _) _), (Below.refl _ _).alloc (Nat.le_refl _) _⟩, ?_, hsn⟩
          simp only [if_true]
          rw [HGD.out]
          rfl
      case rest =>
        obtain ⟨TA, ts, tc, tb, T, hpat, hts⟩ := hcut
        have e0 := T.e0
        have e1 := T.e1
        have hzw := T.below.size
        have k0 := (T.below.cell (p := ⟨w.heap.size, 0, none⟩) (by show w.heap.size < w2.heap.size; omega)).trans l0
        have hzc := HZB.out.next T.below
        have hgt := T.lt
        have HT := Lib.hid T
        have HRC := Lib.hid (HR2.out.keep T.below)
        have HPC := Lib.hid (HP.out.keep ((HAL.out.trans (HB3.out.mono HAL.out.size)).trans (T.below.mono (by omega))))
        have HBC := Lib.hid ((HAL.out.trans (HB3.out.mono HAL.out.size)).trans (T.below.mono (by omega)))
        have hlt2 : (bs ts).length = if b = true then (L.getD N Pt.none_).parts.length else 0 := by
          have := congrArg (fun q : Pt.Pat => q.parts.length) hpat
          simp only at this
          rw [this]
          cases b <;> rfl
        have her := HE.out
        rw [HLN.out, ← hlt2, bs_length] at her
        have htb : tb = (b && (L.getD N Pt.none_).rest) := by
          have := congrArg (fun q : Pt.Pat => q.rest) hpat
          simp only at this
          rw [this]
          cases b <;> rfl
        have htp : bs ts = if b = true then (L.getD N Pt.none_).parts else [] := by
          have := congrArg (fun q : Pt.Pat => q.parts) hpat
          simp only at this
          rw [this]
          cases b <;> rfl
        clear hlt2 hpat T
        have hti : (ts.length : Int) ≤ 1000 := by omega
        by_cases h12 : n + ts.length ≤ 12
        · rw [if_pos h12] at her
          have hsv := HV.out her
          rw [← htb, ← htp] at hsv
          have HSV := Lib.hid hsv
          have HER := Lib.hid her
          have HTP := Lib.hid htp
          have HZC := Lib.hid hzc
          clear htb htp hsv her hzc
          have i1 : ¬ (12 : Int) < (n : Int) + (ts.length : Int) := by omega
          have i2 : (N : Int) ≤ (d : Int) := by omega
          have i3 : (0 : Int) ≤ (N : Int) := by omega
          go_wp2
          go_loopw [10, 47] (fun nv iv wr => ∃ (k : Nat) (us : List ByteArray), k ≤ N ∧ iv = .int .i64 k ∧ OwnS wr wc.heap.size nv us ∧ us.length = k ∧ bs us = ((L.map fun b => b.parts.headD []).take k) ∧ (∀ u ∈ us, u.size ≤ 100000) ∧ Below wc.heap.size wc wr) (fun _ iv _ => N - (intOf iv).toNat)
          case atStart => exact ⟨0, [], by omega, rfl, OwnS.empty _ _, rfl, by simp [bs], by simp, Below.refl _ _⟩
          case round =>
            obtain ⟨k, us, hkN, rfl, hown, hul, hbu, hus, hbr⟩ := hrel
            have hzr := hbr.size
            have HRW := Lib.hid (HRC.out.keep hbr)
            have HOWN := Lib.hid hown
            have HUL := Lib.hid hul
            have HBU := Lib.hid hbu
            have HUS := Lib.hid hus
            have HBR := Lib.hid hbr
            have q0 := (hbr.cell (p := ⟨w.heap.size, 0, none⟩) (by show w.heap.size < wc.heap.size; omega)).trans k0
            have q1 := (hbr.cell (p := ⟨w2.heap.size, 0, none⟩) hgt).trans e0
            have q2 := (hbr.cell (p := ⟨w2.heap.size, 1, none⟩) hgt).trans e1
            clear hown hul hbu hus hbr
            by_cases hlt : k < N
            · have hlx : k < bl.length := by rw [← HM.out]; omega
              obtain ⟨g, o, hA, hg, hcell⟩ := HRW.out.at (by omega)
              subst hA
              obtain ⟨x0, x1⟩ := hcell k hlx
              obtain ⟨o1, o2, o3⟩ := HONE.out k hlx hlt
              have hpr := HRW.out.parts _ (List.getElem_mem hlx)
              have hsy := HSY.out _ (List.getElem_mem hlx)
              have HHK := Lib.hid (HHD.out k hlx)
              clear hcell
              rw [o1] at x0
              obtain ⟨y, hy⟩ : ∃ y, bl[k].xs = [y] := by
                match hx : bl[k].xs, o1 with
                | [y], _ => exact ⟨y, rfl⟩
              rw [hy] at o3 hsy hpr
              have HO3 := Lib.hid o3
              have HSYk := Lib.hid (hsy y (by simp))
              have HPR := Lib.hid hpr
              clear o1 o3 hy hsy hpr
              generalize bl[k].A = XA at *
              generalize bl[k].c = xc at *
              generalize bl[k].b = xb at *
              generalize bl[k].pat = xp at *
              have i4 : (k : Int) < (m : Int) := by omega
              have HBB := Lib.hid (fun (u : Obj) => (Below.refl wr.heap.size wr).alloc (Nat.le_refl _) u)
              set_option maxRecDepth 100000 in
              go_wp2_with (refine wpList_append_ss rfl _ _ rfl wc.heap.size _ us rfl (HOWN.out.below (HBB.out _)) XA [y] xc rfl ((HPR.out.keep (HBB.out _)).rd) HPR.out.nil (by simp [HUL.out]; omega) (by simp; omega) ?_; intro v' w' hown' hb'
                           have HO2 := Lib.hid hown'
                           have HB4 := Lib.hid ((HBB.out _).mono hzr |>.trans hb')
                           clear hown' hb')
              go_wp2
              go_roundw
              case rel =>
                refine ⟨k + 1, us ++ [y], by omega, by go_num, HO2.out, by rw [List.length_append, HUL.out]; rfl, ?_, ?_, HBR.out.trans HB4.out⟩
                · rw [bs_append, HBU.out, HHK.out, ← HO3.out]
                · intro u hu
                  rcases List.mem_append.1 hu with h | h
                  · exact HUS.out u h
                  · rw [List.mem_singleton.1 h]; exact HSYk.out
              case measure => simp [intOf]; omega
            · obtain rfl : k = N := by omega
              obtain ⟨A1, c1, rfl, u1, u2, u3, u4⟩ := HOWN.out.form
              have hfe : Pt.fillsOf p.parts (bs us) = Pt.fillsOf p.parts (L.map fun b => b.parts.headD []) := by
                rw [HBU.out, ← HST.out]
                exact Pt.fillsOf_take _ _
              have hPw := HPC.out.keep HBR.out
              have hul : us.length = k := HUL.out
              have HFl := Lib.hid (fun (w' : World) (hb : Below wr.heap.size wr w') => filled_any A A1 xs us c c1 w' ((hPw.keep hb).rd) hPw.le hPw.cm ((u3.keep hb).more hb.size) u1 u2 (by rw [hPw.parts]; exact HPP.out) (by rw [hPw.parts, HST.out]; omega) HSX.out HUS.out (by rw [← HN.out]; omega))
              rw [hPw.parts, hfe, ← HN.out] at HFl
              obtain ⟨fl, hfl⟩ : ∃ fl, fl = Pt.fillsOf p.parts (L.map fun b => b.parts.headD []) := ⟨_, rfl⟩
              have hfn : fl.length = n := by rw [hfl, Pt.fillsOf_len]; exact HLN.out
              rw [← hfl] at HFl
              have HSV2 := Lib.hid HSV.out
              rw [← hfl] at HSV2
              have hfz := fills_sizes (X := p.parts) (T := bs us) (by
                intro x hx
                rw [← hPw.parts] at hx
                obtain ⟨y, hy, rfl⟩ := List.mem_map.1 hx
                rw [← Lib.size_eq]
                exact HSX.out y hy) (by
                intro x hx
                obtain ⟨y, hy, rfl⟩ := List.mem_map.1 hx
                rw [← Lib.size_eq]
                exact HUS.out y hy)
              rw [hfe, ← hfl] at hfz
              have HFZ := Lib.hid hfz
              have HZR := Lib.hid (HZC.out.next HBR.out)
              have HTP2 := Lib.hid (HT.out.pr.keep HBR.out)
              have HRT := Lib.hid (fun (w' : World) (h : InE wr w') => (HTP2.out.keep h.below).rd)
              have hq : w.heap.size < wr.heap.size := by omega
              have hgt2 : w2.heap.size < wr.heap.size := by omega
              have n1 : ¬ w2.heap.size = w.heap.size + 1 := by omega
              have n2 : ¬ w.heap.size + 1 = w2.heap.size := by omega
              have HSK := Lib.hid (fun (w' : World) (h : InE wr w') => show w'.cell? ⟨w.heap.size, 0, none⟩ = some (.slice A n c) ∧ w'.cell? ⟨w2.heap.size, 0, none⟩ = some (.slice TA ts.length tc) ∧ w'.cell? ⟨w2.heap.size, 1, none⟩ = some (.bool tb) from ⟨(h.below.cell (p := ⟨w.heap.size, 0, none⟩) hq).trans q0, (h.below.cell (p := ⟨w2.heap.size, 0, none⟩) hgt2).trans q1, (h.below.cell (p := ⟨w2.heap.size, 1, none⟩) hgt2).trans q2⟩)
              have HI := Lib.hid (show InE wr wr from ⟨Below.refl _ _⟩)
              have hTn := HTP2.out.nil
              have HZL := Lib.hid (fun (zs : List ByteArray) (h : bs zs = fl) => show zs.length + ts.length ≤ 1000000 by have := congrArg List.length h; rw [bs_length, hfn] at this; omega)
              have HTN := Lib.hid hTn
              clear hul hfe hPw hfz hTn hfl u1 u2 u3 u4 HUS HBU HHD HONE HTL HE HZ HV HRL HSY HSN HRC HRW
              go_wp2_with fail
              set_option maxRecDepth 100000 in
              go_region_held3 (fun w' => w'.cell? ⟨w.heap.size, 0, none⟩ = some (.slice A n c) ∧ w'.cell? ⟨w2.heap.size, 0, none⟩ = some (.slice TA ts.length tc) ∧ w'.cell? ⟨w2.heap.size, 1, none⟩ = some (.bool tb))
                (first | (refine HSK.out _ ?_; (repeat (first | with_reducible exact HI.out | with_reducible exact InE.mk hb7 | with_reducible refine InE.next ?_ hb | with_reducible refine InE.drew ?_)); done) | go_keep)
                (first
                  | (go_at_call 155; have hcc := HFl.out _ (below_drew HI.out.below); with_reducible refine hcc.mono ?_; intro e w5 hh; unfold GivesF at hh; obtain ⟨v, zs, rfl, hown, hbz, hb⟩ := hh; obtain ⟨A0, c0, rfl, hg1, hg2, hg3, hg4⟩ := hown.form)
                  | (refine step_append_ss rfl _ _ rfl _ (.slice A0 zs.length c0) zs rfl hown TA ts _ _ rfl rfl (HRT.out _ (InE.next (InE.drew HI.out) hb)) HTN.out (HZL.out zs hbz) hb.size ?_; intro v6 w6 hown6 hb6
                     have hb7 : Below wr.heap.size wr w6 := (InE.next (InE.drew HI.out) hb).below.trans hb6
                     obtain ⟨y0, y1, y2, y3, y4⟩ := ZBox.next HZR.out hb7
                     generalize hLL : zs ++ ts = LL at hown6
                     obtain ⟨A', c', rfl, hf1, hf2, hf3, hf4⟩ := hown6.form
                     have F1 := Lib.hid hf1
                     have F2 := Lib.hid hf2
                     have F3 := Lib.hid hf3
                     have F4 := Lib.hid hf4
                     clear hf1 hf2 hf3 hf4 hown6))
              go_wp2
              refine bodyPost_ret (v := .tuple #[patV A' LL.length c' tb, .int .i64 0]) (by simp [results, Tryz.results180, go_sem, y0, y1]) rfl ⟨A', LL, c', tb, by rw [HER.out]; rfl, ?_, ?_⟩
              · refine PatR.store2 ⟨F3.out, ?_, ?_, F1.out, F2.out, F4.out, ?_⟩ _ _ _ _ _ y0 y1 (fun _ h => by cases h) (fun _ h => by cases h)
                · rw [HSV2.out, ← hLL, bs_append, hbz]
                · rw [HSV2.out]
                · intro x hx
                  rw [← hLL] at hx
                  rcases List.mem_append.1 hx with h | h
                  · have := HFZ.out x.data.toList (by rw [← hbz]; exact List.mem_map_of_mem h)
                    rw [← Lib.size_eq] at this
                    unfold maxLen
                    omega
                  · exact HTP2.out.sz x h
              · have hb8 : Below w.heap.size w w6 := (HBC.out.trans (HBR.out.mono HBC.out.size)).trans (hb7.mono (by omega))
                exact (hb8.setCell (p := ⟨w.heap.size + 1, 0, none⟩) (by simp) _).setCell (p := ⟨w.heap.size + 1, 1, none⟩) (by simp) _
        · rw [if_neg h12] at her
          obtain rfl := HZ.out (by rw [her]; decide)
          subst her
          obtain ⟨y0, y1, y2, y3, y4⟩ := hzc
          have i1 : (12 : Int) < (n : Int) + (ts.length : Int) := by omega
          go_wp2
          refine bodyPost_ret (v := .tuple #[patV none 0 0 false, .int .i64 31]) (by simp [results, Tryz.results180, go_sem, y0, y1]) rfl ⟨none, [], 0, false, rfl, patR_zero _, ?_⟩
          exact (HBC.out.setCell (p := ⟨w.heap.size + 1, 0, none⟩) (by simp) _).setCell (p := ⟨w.heap.size + 1, 1, none⟩) (by simp) _
  · have hsz : er ≠ 0 := by rw [he, if_neg hc]; exact hc
    obtain rfl := hz hsz
    rw [if_neg hc] at he
    subst he
    simp only [if_neg hc] at HK
    have t1 : ((Pt.check p : Int) == 0) = false := by rw [beq_eq_false_iff_ne]; omega
    have t2 : ((Pt.check p : Int) != 0) = true := by simpa using (show (Pt.check p : Int) ≠ 0 by omega)
    clear hv hform h12 hHA hp hl hsx hsy hsn hz hc hL hnx
    generalize Pt.check p = k at *
    generalize xs.length = n at *
    generalize bl.length = m at *
    subst hW0
    clear hal
    go_enter Tryz.func180, Tryz.ntmps180
    go_wp2_with fail
    with_reducible refine (HK.out _ HX0.out).mono ?_
    rintro e w1 ⟨rfl, hb1⟩
    obtain ⟨k0, k1, ⟨z0, z1, z2, z3, z4⟩⟩ := pz hb1
    have HB1 := Lib.hid hb1
    clear hb1
    go_wp2
    refine bodyPost_ret (v := .tuple #[patV none 0 0 false, .int .i64 k]) (by simp [results, Tryz.results180, go_sem, z0, z1]) rfl ⟨none, [], 0, false, rfl, patR_zero _, ?_⟩
    exact ((HAL.out.trans (HB1.out.mono HAL.out.size)).setCell (p := ⟨w.heap.size + 1, 0, none⟩) (by simp) _).setCell (p := ⟨w.heap.size + 1, 1, none⟩) (by simp) _
end Go.Proofs.YtpdkecchpidhdaaGreatDoor

namespace Go.Proofs.YtpdkecchpidhdaaGreatDoor
open Go.RowKit

theorem new_one2 (w : World) (o : Obj) (x : ByteArray) (t : TypeId) : RdS ((w.alloc o).alloc (.cells #[.string x] t)) ((w.alloc o).alloc (.cells #[.string x] t)).heap.size (some ⟨w.heap.size + 1, 0, none⟩) [x] := by
  have h := new_one (w.alloc o) x t
  rw [show (w.alloc o).heap.size = w.heap.size + 1 by simp] at h
  exact h
theorem substOf_step {ps : List (List UInt8)} {L : List Pt.Pat} {k j : Nat} (h : k < ps.length) : Pt.substOf (ps.drop k) (L.drop j) = match Pt.star ps[k] with
    | none => (Pt.substOf (ps.drop (k + 1)) (L.drop j)).map fun r => ps[k] :: r
    | some s => match L[j]? with
      | none => none
      | some v => if Pt.single v = true then (Pt.substOf (ps.drop (k + 1)) (L.drop (j + 1))).map fun r => (v.parts.headD [] ++ s) :: r else none := by
  rw [List.drop_eq_getElem_cons h]
  cases hs : Pt.star ps[k] with
  | none => rw [Pt.substOf_comp _ _ hs]
  | some s =>
    simp only
    by_cases hj : j < L.length
    · rw [List.drop_eq_getElem_cons hj, Pt.substOf_star _ _ _ hs, List.getElem?_eq_getElem hj]
    · rw [List.drop_of_length_le (show L.length ≤ j by omega), List.getElem?_eq_none (by omega), Pt.substOf, hs]
theorem stars_lt {ps : List (List UInt8)} {k : Nat} (h : k < ps.length) (hs : (Pt.star ps[k]).isSome = true) : Pt.stars (ps.take k) < Pt.stars ps := by
  have h1 := stars_take h
  rw [hs] at h1
  have h2 : Pt.stars ps = Pt.stars (ps.take (k + 1)) + Pt.stars (ps.drop (k + 1)) := by
    rw [← Pt.stars_append, List.take_append_drop]
  simp only [if_true] at h1
  omega
theorem subst_none {p : Pt.Pat} {L : List Pt.Pat} (hc : Pt.check p = 0) (hl : L.length = Pt.wilds p) (h : Pt.substPat p L = none) : Pt.substErr p L = 33 := by
  unfold Pt.substErr
  rw [if_pos hc, if_pos hl, h]
theorem subst_some {p : Pt.Pat} {L : List Pt.Pat} {v : Pt.Pat} (hc : Pt.check p = 0) (hl : L.length = Pt.wilds p) (h : Pt.substPat p L = some v) : Pt.substErr p L = (if v.parts.length ≤ 12 then 0 else 31) ∧ (v.parts.length ≤ 12 → Pt.subst p L = v) := by
  have h1 : Pt.substErr p L = (if v.parts.length ≤ 12 then 0 else 31) := by
    unfold Pt.substErr
    rw [if_pos hc, if_pos hl, h]
  refine ⟨h1, fun h2 => ?_⟩
  unfold Pt.subst
  rw [h1, if_pos h2, if_pos rfl, h]
theorem single_false {v : BindV} (h : Pt.single v.pat = false) : v.xs.length ≠ 1 ∨ (v.xs.length = 1 ∧ v.b = true) ∨ (v.b = false ∧ ∃ y, v.xs = [y] ∧ Pt.part y.data.toList = false) := by
  unfold Pt.single BindV.pat at h
  by_cases h1 : v.xs.length = 1
  · cases hb : v.b with
    | true => exact .inr (.inl ⟨h1, rfl⟩)
    | false =>
      match hx : v.xs, h1 with
      | [y], _ =>
        rw [hb, hx] at h
        refine .inr (.inr ⟨rfl, y, rfl, ?_⟩)
        simpa [bs] using h
  · exact .inl h1
theorem single_true {v : BindV} (h : Pt.single v.pat = true) : v.b = false ∧ ∃ y, v.xs = [y] ∧ Pt.part y.data.toList = true ∧ v.pat.parts.headD [] = y.data.toList := by
  unfold Pt.single BindV.pat at h
  simp only [Bool.and_eq_true, decide_eq_true_eq, Bool.not_eq_true', bs_length] at h
  match hx : v.xs, h.1.1 with
  | [y], _ =>
    rw [hx] at h
    refine ⟨h.1.2, y, rfl, by simpa [bs] using h.2, ?_⟩
    show (bs v.xs).headD [] = _
    rw [hx]
    rfl
/-- What lies there once the tail is appended. -/
structure SubEnd (w wx : World) (g : Nat) (A : Option Addr) (xs : List ByteArray) (n c : Nat) (b : Bool) : Prop where
  e0 : wx.cell? ⟨g, 0, none⟩ = some (.slice A n c)
  e1 : wx.cell? ⟨g, 1, none⟩ = some (.bool b)
  pr : PatR wx A xs c b ⟨bs xs, b⟩
  zb : ZBox wx (w.heap.size + 1)
  below : Below w.heap.size w wx
theorem grown_cell {w w' : World} {k : Option Nat} (hg : w.grownBy w' k) {p : Addr} (hp : p.block < w.heap.size) (hk : k ≠ some p.block) : w'.cell? p = w.cell? p := by
  have hb := hg.block p.block hp (fun e => hk e.symm)
  unfold World.cell?
  simp only [hb]
theorem wp_append_sg {w : World} {o : Oper} {a : Act} {K : Act → World → Prop} {Q : Exit → Act → World → Prop} (s x : Operand)
    (ho : o.op = .call { callee := .builtin .append, args := #[s, x], argTypes := #[22, 22] })
    (base : Nat) (v : Value) (ys : List ByteArray) (hs : a.eval s = v) (hown : OwnS w base v ys)
    (A : Option Addr) (xs : List ByteArray) (n c : Nat) (hn : n = xs.length) (hx : a.eval x = .slice A n c) (hr : RdS w w.heap.size A xs) (hnil : A = none → c = 0)
    (hN : ys.length + xs.length ≤ 1000000) (hbase : base ≤ w.heap.size)
    (h : ∀ v' w', OwnS w' base v' (ys ++ xs) → Below base w w' → w.grownBy w' v.ownBlock → K (a.put o.dst v') w') : o.wp Tryz.prog a w K Q := by
  subst hn
  obtain ⟨i, hi, hz, hz1, hz2⟩ := strParts
  cases A with
  | none =>
    obtain rfl := hnil rfl
    have hx0 : xs = [] := by
      rcases hr with h | ⟨g, o', hA, _⟩
      · exact h
      · cases hA
    subst hx0
    have hrun := run_append_owned_none (P := Tryz.prog) (w := w) base 22 o.type 9 i 1 Tryz.underlying22 hi v ys.length (svs ys) hown
    unfold Oper.wp
    simp [execOp, ho, resolve, invoke, builtin, hs, hx, hrun, Result.andThen]
    exact h _ _ (by rw [List.append_nil]; exact hown) (Below.refl _ _) ⟨rfl, rfl, rfl, Nat.le_refl _, fun _ _ _ => rfl⟩
  | some ad =>
    refine wp_append_own w s x _ ho base 9 i _ 1 16 Tryz.underlying22 hi hz hz1 hz2 rfl (by omega) v ys.length (svs ys) hs hown ad xs.length c (svs xs) hx (by simp [svs_length]) hr.svs svs_one
      (by simp only [maxLen]; omega) (by omega) hbase ?_
    intro v' w' hown' hg _
    refine h v' w' ?_ ⟨hg.os, hg.tape, hg.output, hg.size, fun k hk => hg.block k (by omega) (fun e2 => ?_)⟩ hg
    · unfold OwnS
      rw [List.length_append, svs_append]
      exact hown'
    · have := (World.ownsRow.lt hown k e2.symm).1
      omega
/-- append of strings at a step of a region: which block it may write. -/
theorem step_append_sg {w : World} {ops : Array Oper} {o : Oper} {a : Act} {K : Act → World → Prop} {Q : Exit → Act → World → Prop} {E : Prop} (hgd : o.guard = none) (s x : Operand)
    (ho : o.op = .call { callee := .builtin .append, args := #[s, x], argTypes := #[22, 22] })
    (base : Nat) (v : Value) (ys : List ByteArray) (hs : a.eval s = v) (hown : OwnS w base v ys)
    (A : Option Addr) (xs : List ByteArray) (n c : Nat) (hn : n = xs.length) (hx : a.eval x = .slice A n c) (hr : RdS w w.heap.size A xs) (hnil : A = none → c = 0)
    (hN : ys.length + xs.length ≤ 1000000) (hbase : base ≤ w.heap.size)
    (h : ∀ v' w', OwnS w' base v' (ys ++ xs) → Below base w w' → w.grownBy w' v.ownBlock → K (a.put o.dst v') w') : if Region.wanted o (yielded ops a.tmps) = true then Oper.wp Tryz.prog o a w K Q else E := by
  have hw : Region.wanted o (yielded ops a.tmps) = true := by simp [Region.wanted, hgd]
  rw [if_pos hw]
  exact wp_append_sg s x ho base v ys hs hown A xs n c hn hx hr hnil hN hbase h
theorem res_alloc {wr : World} {r : Nat} (o : Obj) (u0 u1 : Value) {v0 v1 : Value} (h : r < wr.heap.size) (y0 : wr.cell? ⟨r, 0, none⟩ = some v0) (y1 : wr.cell? ⟨r, 1, none⟩ = some v1) :
    (((wr.setCell ⟨r, 0, none⟩ u0).setCell ⟨r, 1, none⟩ u1).alloc o).cell? ⟨r, 0, none⟩ = some u0 ∧ (((wr.setCell ⟨r, 0, none⟩ u0).setCell ⟨r, 1, none⟩ u1).alloc o).cell? ⟨r, 1, none⟩ = some u1 := by
  have hb : Below ((wr.setCell ⟨r, 0, none⟩ u0).setCell ⟨r, 1, none⟩ u1).heap.size ((wr.setCell ⟨r, 0, none⟩ u0).setCell ⟨r, 1, none⟩ u1) (((wr.setCell ⟨r, 0, none⟩ u0).setCell ⟨r, 1, none⟩ u1).alloc o) := (Below.refl _ _).alloc (Nat.le_refl _) o
  have hs : r < ((wr.setCell ⟨r, 0, none⟩ u0).setCell ⟨r, 1, none⟩ u1).heap.size := by simpa [World.setCell] using h
  refine ⟨(hb.cell (p := ⟨r, 0, none⟩) hs).trans ?_, (hb.cell (p := ⟨r, 1, none⟩) hs).trans ?_⟩
  · simp [go_sem, y0]
  · simp [go_sem, y1]
set_option maxHeartbeats 16000000 in
theorem rsubst_any (A B : Option Addr) (xs : List ByteArray) (bl : List BindV) (c d : Nat) (b : Bool) (p : Pt.Pat) (w : World) (hp : PatR w A xs c b p) (hl : RdB w B bl d) (hsx : ∀ x ∈ xs, x.size ≤ 100000) (hsy : ∀ v ∈ bl, ∀ y ∈ v.xs, y.size ≤ 100000) (hsn : ∀ v ∈ bl, v.xs.length ≤ 1000) :
    Calls Tryz.prog 150 #[patV A xs.length c b, .slice B bl.length d] w (GivesPat w (Pt.subst p (bl.map BindV.pat)) (Pt.substErr p (bl.map BindV.pat))) := by
  obtain ⟨W0, hW0⟩ : ∃ W0, W0 = (w.alloc (.cells #[.slice A xs.length c, .bool b] 24)).alloc zeroPat := ⟨_, rfl⟩
  have hal : Below w.heap.size w W0 := by rw [hW0]; exact ((Below.refl _ _).alloc (Nat.le_refl _) _).alloc (by simp) _
  obtain ⟨L, hL⟩ : ∃ L, L = bl.map BindV.pat := ⟨_, rfl⟩
  rw [← hL]
  have hLn : L.length = bl.length := by rw [hL, List.length_map]
  have hz : Pt.substErr p L ≠ 0 → Pt.subst p L = ⟨[], false⟩ := fun h => by unfold Pt.subst; rw [if_neg h]; rfl
  have HK := Lib.hid (fun (w' : World) (hb : Below W0.heap.size W0 w') => rcheck_any A xs c b p w' (hp.keep (hal.trans (hb.mono hal.size))))
  have h12 : Pt.check p = 0 → xs.length ≤ 12 := fun h => by rw [← hp.len]; exact (Pt.check_ok.1 h).2
  have hHW : Pt.check p = 0 → ∀ (w' : World) (hb : Below W0.heap.size W0 w'), Calls Tryz.prog 152 #[patV A xs.length c b] w' (GivesN w' (Pt.wilds p)) := fun h w' hb => rwild_any A xs c b p w' (hp.keep (hal.trans (hb.mono hal.size))) (by have := h12 h; omega)
  have hnone := fun (hc : Pt.check p = 0) (hl : L.length = Pt.wilds p) (h : Pt.substPat p L = none) => subst_none hc hl h
  have hsome := fun (v : Pt.Pat) (hc : Pt.check p = 0) (hl : L.length = Pt.wilds p) (h : Pt.substPat p L = some v) => subst_some hc hl h
  have hc0 : Pt.check p ≠ 0 → Pt.substErr p L = Pt.check p := fun h => by unfold Pt.substErr; rw [if_neg h]
  have hl0 : Pt.check p = 0 → L.length ≠ Pt.wilds p → Pt.substErr p L = 33 := fun h h2 => by unfold Pt.substErr; rw [if_pos h, if_neg h2]
  generalize Pt.substErr p L = er at hz hnone hsome hc0 hl0 ⊢
  generalize Pt.subst p L = sp at hz hsome ⊢
  have HAL := Lib.hid hal
  have HX0 := Lib.hid (Below.refl W0.heap.size W0)
  by_cases hc : Pt.check p = 0
  · have HW := Lib.hid (hHW hc)
    rw [hc] at HK
    have hx12 := h12 hc
    have hwn : Pt.wilds p ≤ 13 := by
      have := stars_le p.parts
      rw [hp.len] at this
      unfold Pt.wilds
      split <;> omega
    by_cases hw : L.length = Pt.wilds p
    · have hnone := hnone hc hw
      have hsome := fun v => hsome v hc hw
      have hsp : Pt.substPat p L = match Pt.substOf p.parts L with
          | none => none
          | some r => if b then (if Pt.restOk (L.getD (Pt.stars p.parts) Pt.none_) then some ⟨r ++ (L.getD (Pt.stars p.parts) Pt.none_).parts, (L.getD (Pt.stars p.parts) Pt.none_).rest⟩ else none) else some ⟨r, false⟩ := by
        rw [hp.rest]
        rfl
      have hwl : bl.length = Pt.stars p.parts + if b then 1 else 0 := by rw [← hLn, hw, hp.rest]; rfl
      have hLb : ∀ k (h : k < bl.length), L[k]? = some bl[k].pat := fun k h => by rw [hL, List.getElem?_map, List.getElem?_eq_getElem h]; rfl
      have htail : b = true → ∃ (h : Pt.stars p.parts < bl.length), L.getD (Pt.stars p.parts) Pt.none_ = bl[Pt.stars p.parts].pat := fun hb => by
        rw [hb] at hwl
        have h1 : Pt.stars p.parts < bl.length := by rw [hwl]; simp
        exact ⟨h1, by rw [List.getD_eq_getElem?_getD, hLb _ h1]; rfl⟩
      have hstl : Pt.stars p.parts ≤ bl.length := by omega
      rw [← hw, hLn] at HW
      rw [← hw, hLn] at hwn
      have HLB := Lib.hid hLb
      have HTL := Lib.hid htail
      have HSTL := Lib.hid hstl
      have HNO := Lib.hid hnone
      have HSO := Lib.hid hsome
      have HSP := Lib.hid hsp
      have HZ := Lib.hid hz
      have HP := Lib.hid hp
      have HRL := Lib.hid hl
      have HSX := Lib.hid hsx
      have HSY := Lib.hid hsy
      have HSN := Lib.hid hsn
      have hdm : (d : Int) ≤ 9223372036854775807 := by have := hl.cm; unfold maxLen at this; omega
      have hmd : bl.length ≤ d := hl.le
      have hcm : (c : Int) ≤ 9223372036854775807 := by have := hp.cm; unfold maxLen at this; omega
      have hnc : xs.length ≤ c := hp.le
      have hlen : p.parts.length = xs.length := hp.len
      have HLN := Lib.hid hlen
      clear hnone hsome hc0 hl0 hsp hz hp hl hsx hsy hsn hHW h12 hw hwl hLb htail hstl hL hLn hc hlen
      obtain ⟨n, hn⟩ : ∃ n, n = xs.length := ⟨_, rfl⟩
      obtain ⟨m, hm⟩ : ∃ m, m = bl.length := ⟨_, rfl⟩
      rw [← hn] at hW0 HK HW hx12 hnc HLN
      rw [← hm] at HW hwn hmd
      rw [← hn, ← hm]
      have HN := Lib.hid hn
      have HM := Lib.hid hm
      clear hn hm
      subst hW0
      clear hal
      go_enter Tryz.func150, Tryz.ntmps150
      go_wp2_with fail
      with_reducible refine (HK.out _ HX0.out).mono ?_
      rintro e w1 ⟨rfl, hb1⟩
      obtain ⟨k0, k1, ⟨z0, z1, z2, z3, z4⟩⟩ := pz hb1
      have HB1 := Lib.hid hb1
      clear hb1
      go_wp2_with fail
      with_reducible refine (HW.out _ HB1.out).mono ?_
      rintro e w2 ⟨rfl, hb2⟩
      have hb3 := HB1.out.trans (hb2.mono HB1.out.size)
      obtain ⟨l0, l1, hzb⟩ := pz hb3
      have hz2 := hb3.size
      simp only [World.alloc, Array.size_push] at hz2
      have HB3 := Lib.hid hb3
      have HZB := Lib.hid hzb
      have hbw := HAL.out.trans (hb3.mono HAL.out.size)
      have HBW := Lib.hid hbw
      have HR2 := Lib.hid (HRL.out.keep hbw)
      have HP2 := Lib.hid (HP.out.keep hbw)
      have h1w : w.heap.size < w2.heap.size := by omega
      have h2w : w.heap.size + 1 < w2.heap.size := by omega
      clear hb2 hb3 k0 k1 z0 z1 z2 z3 z4 hzb hbw HB1 HK HW
      go_wp2
      go_loopw [8, 32] (fun jv iv wr => ∃ (k j : Nat) (ls : List ByteArray) (A3 : Option Addr) (c3 : Nat), k ≤ n ∧ iv = .int .i64 k ∧ jv = .int .i64 j ∧ j = Pt.stars (p.parts.take k) ∧ OwnS wr (w2.heap.size + 1) (.slice A3 k c3) ls ∧ ls.length = k ∧ wr.cell? ⟨w2.heap.size, 0, none⟩ = some (.slice A3 k c3) ∧ wr.cell? ⟨w2.heap.size, 1, none⟩ = some (.bool false) ∧ wr.frozen? ⟨w2.heap.size, 0, none⟩ = false ∧ wr.frozen? ⟨w2.heap.size, 1, none⟩ = false ∧ Below w2.heap.size w2 wr ∧ w2.heap.size + 1 ≤ wr.heap.size ∧ (∀ z ∈ ls, z.size ≤ 200000) ∧ Pt.substOf p.parts L = (Pt.substOf (p.parts.drop k) (L.drop j)).map fun r => bs ls ++ r) (fun _ iv _ => n - (intOf iv).toNat)
      case atStart => exact ⟨0, 0, [], none, 0, by omega, rfl, rfl, rfl, OwnS.empty _ _, rfl, (box_cells (Below.refl _ _)).1, (box_cells (Below.refl _ _)).2, box_free (Below.refl _ _) 0, box_free (Below.refl _ _) 1, (Below.refl _ _).alloc (Nat.le_refl _) _, by simp, by simp, by simp [bs]⟩
      case round =>
        obtain ⟨k, j, ls, A3, c3, hkn, rfl, rfl, hj, hown, hlk, hc0, hc1, hf0, hf1, hbr, hzr, hlz, hso⟩ := hrel
        have q0 := (hbr.cell (p := ⟨w.heap.size, 0, none⟩) h1w).trans l0
        have q1 := (hbr.cell (p := ⟨w.heap.size, 1, none⟩) h1w).trans l1
        obtain ⟨y0, y1, y2, y3, y4⟩ := HZB.out.next hbr
        have HRW := Lib.hid (HR2.out.keep hbr)
        have HPW := Lib.hid (HP2.out.keep hbr)
        have HOWN := Lib.hid hown
        have HBR := Lib.hid hbr
        have HLK := Lib.hid hlk
        have HLZ := Lib.hid hlz
        have HSO2 := Lib.hid hso
        have HJ := Lib.hid hj
        have hjm : j ≤ m := by
          rw [hj, HM.out]
          exact Nat.le_trans (by rw [show Pt.stars p.parts = Pt.stars (p.parts.take k) + Pt.stars (p.parts.drop k) by rw [← Pt.stars_append, List.take_append_drop]]; omega) HSTL.out
        have hjm2 : (j : Int) ≤ 1000 := by omega
        clear hown hbr hlk hlz hso hj
        by_cases hlt : k < n
        · have hlx : k < xs.length := by rw [← HN.out]; exact hlt
          obtain ⟨g, o, hA, hg, hcell⟩ := HPW.out.rd.cells (by omega)
          subst hA
          have x0 := hcell k hlx
          have hlp : k < p.parts.length := by rw [HLN.out]; exact hlt
          have ep : p.parts[k]'hlp = xs[k].data.toList := by
            rw [← bs_get xs k hlx]
            simp only [HPW.out.parts]
          have hst := substOf_step (L := L) (j := j) hlp
          have hstl : (Pt.star xs[k].data.toList).isSome = true → j < bl.length := fun h => by
            rw [← ep] at h
            have := stars_lt hlp h
            rw [← HJ.out] at this
            exact Nat.lt_of_lt_of_le this HSTL.out
          have hjs := stars_take hlp
          rw [ep] at hst hjs
          rw [← HJ.out] at hjs
          have hsx := HSX.out _ (List.getElem_mem hlx)
          have HST := Lib.hid hst
          have HJS := Lib.hid hjs
          clear hcell hst hjs ep
          generalize xs[k] = x at *
          have hsxm : x.size ≤ maxLen := by unfold maxLen; omega
          have HSt := Lib.hid (fun w : World => rstar_any x w hsxm)
          cases hs : Pt.star x.data.toList with
          | none =>
            rw [hs] at HSt HST HJS
            simp only at HST
            simp only [Option.isSome_none, Bool.false_eq_true, if_false, Nat.add_zero] at HJS
            clear hs hstl
            go_wp2_with fail
            with_reducible refine (HSt.out _).mono ?_
            rintro e w' ⟨rfl, rfl⟩
            set_option maxRecDepth 100000 in
            go_wp2_with (refine wpList_append_ss rfl _ _ rfl (w2.heap.size + 1) _ ls rfl (HOWN.out.below ((Below.refl _ _).alloc (Nat.le_refl _) _)) (some ⟨wr.heap.size, 0, none⟩) [x] 1 rfl (new_one wr x _) (fun h => by cases h) (by simp [HLK.out]; omega) (by simp; omega) ?_; intro v' w' hown' hb'
                         obtain ⟨A', c', hv, hf5, hf6, hf7, hf8⟩ := hown'.form
                         rw [show (ls ++ [x]).length = k + 1 by simp [HLK.out]] at hv
                         subst hv
                         clear hf5 hf6 hf7 hf8
                         have HB := Lib.hid (show Below (w2.heap.size + 1) wr w' from ((Below.refl _ _).alloc hzr _).trans hb')
                         have HO2 := Lib.hid hown'
                         have kk0 := (HB.out.cell (p := ⟨w2.heap.size, 0, none⟩) (by show w2.heap.size < w2.heap.size + 1; omega)).trans hc0
                         have kk1 := (HB.out.cell (p := ⟨w2.heap.size, 1, none⟩) (by show w2.heap.size < w2.heap.size + 1; omega)).trans hc1
                         have kf0 := (HB.out.frozen (p := ⟨w2.heap.size, 0, none⟩) (by show w2.heap.size < w2.heap.size + 1; omega)).trans hf0
                         have kf1 := (HB.out.frozen (p := ⟨w2.heap.size, 1, none⟩) (by show w2.heap.size < w2.heap.size + 1; omega)).trans hf1
                         clear hown' hb')
            go_wp2
            go_roundw
            case rel =>
              refine ⟨k + 1, j, ls ++ [x], A', c', by omega, by go_num, rfl, HJS.out.symm, HO2.out.setCell (by show w2.heap.size < w2.heap.size + 1; omega) _, by simp [HLK.out], World.cell?_setCell_same _ _ _ kk0, (World.cell?_setCell_other _ _ _ _ (by simp)).trans kk1, by simpa using kf0, by simpa using kf1, (HBR.out.trans (HB.out.mono (by omega))).setCell (p := ⟨w2.heap.size, 0, none⟩) (Nat.le_refl _) _, ?_, ?_, ?_⟩
              · have := HB.out.size
                simp [World.setCell]
                omega
              · intro z hz
                rcases List.mem_append.1 hz with h | h
                · exact HLZ.out z h
                · rw [List.mem_singleton.1 h]; omega
              · rw [HSO2.out, HST.out, bs_append]
                simp [bs, Function.comp_def]
            case measure => simp [intOf]; omega
          | some s =>
            have hjl := hstl (by rw [hs]; rfl)
            have hjm3 : (j : Int) < (m : Int) := by have := HM.out; omega
            obtain ⟨g', o', hA', hg', hcell'⟩ := HRW.out.at (by omega)
            subst hA'
            obtain ⟨v0, v1⟩ := hcell' j hjl
            have hpr := HRW.out.parts _ (List.getElem_mem hjl)
            have hsy := HSY.out _ (List.getElem_mem hjl)
            have hLj := HLB.out j hjl
            have hsl : s.length ≤ 100000 := by
              have := star_len hs
              rw [Lib.size_eq] at hsx
              omega
            rw [hs] at HSt HST HJS
            simp only [Option.isSome_some, if_true] at HJS
            rw [hLj] at HST
            simp only at HST
            clear hcell' hLj hs hstl
            have hsf := single_false (v := bl[j]'hjl)
            have hst := single_true (v := bl[j]'hjl)
            generalize bl[j] = V at *
            obtain ⟨VA, vs, vc, vb⟩ := V
            simp only at v0 v1 hsf hst hsy
            have hpr2 : PatR wr VA vs vc vb ⟨bs vs, vb⟩ := hpr
            clear hpr
            cases hsg : Pt.single (BindV.pat ⟨VA, vs, vc, vb⟩) with
            | false =>
              rw [hsg] at HST
              simp only [Bool.false_eq_true, if_false] at HST
              have hno : Pt.substPat p L = none := by
                rw [HSP.out, HSO2.out, HST.out]
                rfl
              have her := HNO.out hno
              obtain rfl := HZ.out (by rw [her]; decide)
              subst her
              have hbase := HBW.out.trans (HBR.out.mono (by omega))
              have HBB := Lib.hid hbase
              rcases hsf hsg with h1 | ⟨h1, rfl⟩ | ⟨rfl, y, rfl, hy⟩
              · have t1 : ((vs.length : Int) == 1) = false := by rw [beq_eq_false_iff_ne]; omega
                have t2 : ((vs.length : Int) != 1) = true := by rw [bne, t1]; rfl
                clear hsf hst hsg hpr2 hsy hbase h1
                generalize vs.length = vl at *
                go_wp2_with fail
                with_reducible refine (HSt.out _).mono ?_
                rintro e w' ⟨rfl, rfl⟩
                go_wp2
                have gg := fun o => res_alloc o (.slice none 0 0) (.bool false) y4 y0 y1
                refine bodyPost_ret (v := .tuple #[patV none 0 0 false, .int .i64 33]) (by simp [results, Tryz.results150, go_sem, (gg _).1, (gg _).2]) rfl ⟨none, [], 0, false, rfl, patR_zero _, ?_⟩
                exact ((HBB.out.setCell (p := ⟨w.heap.size + 1, 0, none⟩) (by simp) _).setCell (p := ⟨w.heap.size + 1, 1, none⟩) (by simp) _).alloc (by simp [World.setCell]; omega) _
              · rw [h1] at v0
                clear hsf hst hsg hpr2 hsy hbase h1
                go_wp2_with fail
                with_reducible refine (HSt.out _).mono ?_
                rintro e w' ⟨rfl, rfl⟩
                go_wp2
                have gg := fun o => res_alloc o (.slice none 0 0) (.bool false) y4 y0 y1
                refine bodyPost_ret (v := .tuple #[patV none 0 0 false, .int .i64 33]) (by simp [results, Tryz.results150, go_sem, (gg _).1, (gg _).2]) rfl ⟨none, [], 0, false, rfl, patR_zero _, ?_⟩
                exact ((HBB.out.setCell (p := ⟨w.heap.size + 1, 0, none⟩) (by simp) _).setCell (p := ⟨w.heap.size + 1, 1, none⟩) (by simp) _).alloc (by simp [World.setCell]; omega) _
              · have v0' : wr.cell? ⟨g', o' + j * 2, none⟩ = some (.slice VA 1 vc) := v0
                obtain ⟨gv, ov, rfl, hgv, hcv⟩ := hpr2.rd.cells (by simp)
                have u0 := hcv 0 (by simp)
                rw [Nat.add_zero] at u0
                have u0' : wr.cell? ⟨gv, ov, none⟩ = some (.string y) := u0
                have hsyy := hsy y (by simp)
                have hym : y.size ≤ maxLen := by unfold maxLen; omega
                have HPt := Lib.hid (fun w : World => rpart_any y w hym)
                rw [hy] at HPt
                have n1 : ¬ gv = wr.heap.size := by omega
                have n2 : ¬ wr.heap.size = gv := by omega
                have i1 : (1 : Int) ≤ (vc : Int) := by have := hpr2.le; simp at this; omega
                have i2 : (vc : Int) ≤ 9223372036854775807 := by have := hpr2.cm; unfold maxLen at this; omega
                clear hsf hst hsg hpr2 hsy hbase v0 u0 hcv hy
                go_wp2_with fail
                with_reducible refine (HSt.out _).mono ?_
                rintro e w' ⟨rfl, rfl⟩
                go_wp2_with fail
                with_reducible refine (HPt.out _).mono ?_
                rintro e w' ⟨rfl, rfl⟩
                go_wp2
                have gg := fun o => res_alloc o (.slice none 0 0) (.bool false) y4 y0 y1
                refine bodyPost_ret (v := .tuple #[patV none 0 0 false, .int .i64 33]) (by simp [results, Tryz.results150, go_sem, (gg _).1, (gg _).2]) rfl ⟨none, [], 0, false, rfl, patR_zero _, ?_⟩
                exact ((HBB.out.setCell (p := ⟨w.heap.size + 1, 0, none⟩) (by simp) _).setCell (p := ⟨w.heap.size + 1, 1, none⟩) (by simp) _).alloc (by simp [World.setCell]; omega) _
            | true =>
              rw [hsg] at HST
              simp only [if_true] at HST
              obtain ⟨rfl, y, rfl, hy, hhd⟩ := hst hsg
              have v0' : wr.cell? ⟨g', o' + j * 2, none⟩ = some (.slice VA 1 vc) := v0
              obtain ⟨gv, ov, rfl, hgv, hcv⟩ := hpr2.rd.cells (by simp)
              have u0 := hcv 0 (by simp)
              rw [Nat.add_zero] at u0
              have u0' : wr.cell? ⟨gv, ov, none⟩ = some (.string y) := u0
              have hsyy := hsy y (by simp)
              have hym : y.size ≤ maxLen := by unfold maxLen; omega
              have HPt := Lib.hid (fun w : World => rpart_any y w hym)
              rw [hy] at HPt
              have n1 : ¬ gv = wr.heap.size := by omega
              have n2 : ¬ wr.heap.size = gv := by omega
              have i1 : (1 : Int) ≤ (vc : Int) := by have := hpr2.le; simp at this; omega
              have i2 : (vc : Int) ≤ 9223372036854775807 := by have := hpr2.cm; unfold maxLen at this; omega
              rw [hhd] at HST
              have a0 : (wr.alloc (.cells #[.slice (some ⟨gv, ov, none⟩) 1 vc, .bool false] 184)).cell? ⟨w2.heap.size, 0, none⟩ = some (.slice A3 k c3) := (((Below.refl wr.heap.size wr).alloc (Nat.le_refl _) _).cell (p := ⟨w2.heap.size, 0, none⟩) (by show w2.heap.size < wr.heap.size; omega)).trans hc0
              have hSz : (⟨s.toArray⟩ : ByteArray).size ≤ 100000 := by rw [size_mk]; exact hsl
              clear hsf hst hsg hpr2 hsy v0 u0 hcv hy hhd
              go_wp2_with fail
              with_reducible refine (HSt.out _).mono ?_
              rintro e w' ⟨rfl, rfl⟩
              go_wp2_with fail
              with_reducible refine (HPt.out _).mono ?_
              rintro e w' ⟨rfl, rfl⟩
              set_option maxRecDepth 100000 in
              go_wp2_with (refine wpList_append_ss rfl _ _ rfl (w2.heap.size + 1) _ ls rfl (HOWN.out.below (((Below.refl _ _).alloc (Nat.le_refl _) _).alloc (by simp) _)) (some ⟨wr.heap.size + 1, 0, none⟩) [_] 1 rfl (new_one2 wr _ _ _) (fun h => by cases h) (by simp [HLK.out]; omega) (by simp; omega) ?_; intro v' w' hown' hb'
                           have HO1 := Lib.hid hown'
                           have HB := Lib.hid (show Below (w2.heap.size + 1) wr w' from (((Below.refl _ _).alloc hzr _).alloc (by simp; omega) _).trans hb')
                           obtain ⟨A', c', hv, hf5, hf6, hf7, hf8⟩ := hown'.form
                           simp only [List.length_append, HLK.out, List.length_cons, List.length_nil, Nat.zero_add] at hv
                           subst hv
                           clear hf5 hf6 hf7 hf8
                           have kk0 := (HB.out.cell (p := ⟨w2.heap.size, 0, none⟩) (by show w2.heap.size < w2.heap.size + 1; omega)).trans hc0
                           have kk1 := (HB.out.cell (p := ⟨w2.heap.size, 1, none⟩) (by show w2.heap.size < w2.heap.size + 1; omega)).trans hc1
                           have kf0 := (HB.out.frozen (p := ⟨w2.heap.size, 0, none⟩) (by show w2.heap.size < w2.heap.size + 1; omega)).trans hf0
                           have kf1 := (HB.out.frozen (p := ⟨w2.heap.size, 1, none⟩) (by show w2.heap.size < w2.heap.size + 1; omega)).trans hf1
                           clear hown' hb')
              go_wp2
              go_roundw
              case rel =>
                refine ⟨k + 1, j + 1, _, A', c', by omega, by go_num, by go_num, HJS.out.symm, HO1.out.setCell (by show w2.heap.size < w2.heap.size + 1; omega) _, by simp [HLK.out], World.cell?_setCell_same _ _ _ kk0, (World.cell?_setCell_other _ _ _ _ (by simp)).trans kk1, by simpa using kf0, by simpa using kf1, (HBR.out.trans (HB.out.mono (by omega))).setCell (p := ⟨w2.heap.size, 0, none⟩) (Nat.le_refl _) _, ?_, ?_, ?_⟩
                · have := HB.out.size
                  simp [World.setCell]
                  omega
                · intro z hz
                  rcases List.mem_append.1 hz with h | h
                  · exact HLZ.out z h
                  · rw [List.mem_singleton.1 h, ByteArray.size_append]; omega
                · rw [HSO2.out, HST.out, bs_append]
                  simp only [bs, List.map_cons, List.map_nil, append_data]
                  simp [Function.comp_def]
              case measure => simp [intOf]; omega
        · obtain rfl : k = n := by omega
          have hlnn : p.parts.length = k := HLN.out
          have hsub : Pt.substOf p.parts L = some (bs ls) := by
            rw [HSO2.out, List.drop_of_length_le (show p.parts.length ≤ k by rw [hlnn]; exact Nat.le_refl _)]
            simp [Pt.substOf]
          have hjN : j = Pt.stars p.parts := by rw [HJ.out, List.take_of_length_le (by rw [hlnn]; exact Nat.le_refl _)]
          have hsp2 := HSP.out
          rw [hsub, ← hjN] at hsp2
          simp only at hsp2
          have hbase := HBW.out.trans (HBR.out.mono (by omega))
          have HBB := Lib.hid hbase
          have hlsz : ∀ z ∈ ls, z.size ≤ maxLen := fun z hz => by have := HLZ.out z hz; unfold maxLen; omega
          have HLM := Lib.hid hlsz
          have hkl : (bs ls).length = k := by rw [bs_length]; exact HLK.out
          clear hsub hbase hlsz hlnn
          cases b with
          | false =>
            simp only [Bool.false_eq_true, if_false] at hsp2
            obtain ⟨her, hspv⟩ := HSO.out _ hsp2
            simp only [hkl, if_pos hx12] at her hspv
            have hspv := hspv hx12
            subst her
            obtain ⟨A', c', hv, h1, h2, h3, h4⟩ := HOWN.out.form
            injection hv with v1 v2 v3
            have HPR := Lib.hid (show PatR wr A3 ls c3 false ⟨bs ls, false⟩ from ⟨by rw [v1]; exact h3, rfl, rfl, by rw [v3]; exact h1, by rw [v3]; exact h2, by rw [v1, v3]; exact h4, HLM.out⟩)
            clear v1 v2 v3 h1 h2 h3 h4 hspv hsp2 hkl hjN
            have i1 : ¬ (12 : Int) < (k : Int) := by omega
            go_wp2
            refine bodyPost_ret (v := .tuple #[patV A3 k c3 false, .int .i64 0]) (by simp [results, Tryz.results150, go_sem, y0, y1]) rfl ⟨A3, ls, c3, false, by rw [HLK.out]; rfl, ?_, ?_⟩
            · exact HPR.out.store2 _ _ _ _ _ y0 y1 (fun _ h => by cases h) (fun _ h => by cases h)
            · exact (HBB.out.setCell (p := ⟨w.heap.size + 1, 0, none⟩) (by simp) _).setCell (p := ⟨w.heap.size + 1, 1, none⟩) (by simp) _
          | true =>
            simp only [if_true] at hsp2
            have htl := HTL.out rfl
            rw [← hjN] at htl
            obtain ⟨hjl, hgd⟩ := htl
            rw [hgd] at hsp2
            have hjm3 : (j : Int) < (m : Int) := by have := HM.out; omega
            obtain ⟨g', o', hA', hg', hcell'⟩ := HRW.out.at (by omega)
            subst hA'
            obtain ⟨v0, v1⟩ := hcell' j hjl
            have hpr := HRW.out.parts _ (List.getElem_mem hjl)
            have hsy := HSY.out _ (List.getElem_mem hjl)
            have hsn := HSN.out _ (List.getElem_mem hjl)
            clear hcell' hgd
            generalize bl[j]'hjl = V at *
            obtain ⟨VA, vs, vc, vb⟩ := V
            simp only at v0 v1 hsy hsn
            have hpr2 : PatR wr VA vs vc vb ⟨bs vs, vb⟩ := hpr
            have hsp3 : Pt.substPat p L = if Pt.restOk ⟨bs vs, vb⟩ = true then some ⟨bs ls ++ bs vs, vb⟩ else none := hsp2
            have hro : Pt.restOk ⟨bs vs, vb⟩ = ((decide (vs.length ≠ 0) || vb) && (bs vs).all Pt.part) := by
              unfold Pt.restOk
              cases vs <;> simp [bs]
            rw [hro] at hsp3
            clear hro hpr hsp2 hjN
            by_cases hem : vs.length = 0 ∧ vb = false
            · obtain ⟨hem, rfl⟩ := hem
              rw [hem] at hsp3
              simp only [ne_eq, not_true_eq_false, decide_false, Bool.or_false, Bool.false_and, Bool.false_eq_true, if_false] at hsp3
              have her := HNO.out hsp3
              obtain rfl := HZ.out (by rw [her]; decide)
              subst her
              rw [hem] at v0
              clear hem hsp3 hpr2 hsy hkl hsn
              go_wp2
              have gg := fun o => res_alloc o (.slice none 0 0) (.bool false) y4 y0 y1
              refine bodyPost_ret (v := .tuple #[patV none 0 0 false, .int .i64 33]) (by simp [results, Tryz.results150, go_sem, (gg _).1, (gg _).2]) rfl ⟨none, [], 0, false, rfl, patR_zero _, ?_⟩
              exact ((HBB.out.setCell (p := ⟨w.heap.size + 1, 0, none⟩) (by simp) _).setCell (p := ⟨w.heap.size + 1, 1, none⟩) (by simp) _).alloc (by simp [World.setCell]; omega) _
            · have hne : (decide (vs.length ≠ 0) || vb) = true := by
                cases vb with
                | true => simp
                | false => simpa using hem
              rw [hne, Bool.true_and] at hsp3
              have HPV := Lib.hid hpr2
              have HSP3 := Lib.hid hsp3
              have HVS := Lib.hid hsy
              obtain ⟨q, hq⟩ : ∃ q, q = vs.length := ⟨_, rfl⟩
              rw [← hq] at v0 hsn hem
              have HQ := Lib.hid hq
              have hqc : (q : Int) ≤ (vc : Int) := by have := hpr2.le; omega
              have hvcm : (vc : Int) ≤ 9223372036854775807 := by have := hpr2.cm; unfold maxLen at this; omega
              obtain ⟨ap, hap⟩ : ∃ ap, ap = (bs vs).all Pt.part := ⟨_, rfl⟩
              have HAP := Lib.hid (show ((bs vs).drop 0).all Pt.part = ap by rw [hap]; simp)
              rw [← hap] at HSP3
              have hte : (vb = true ∧ ((q : Int) == 0) = true) ∨ (((q : Int) == 0) = false) := by
                by_cases h0 : q = 0
                · left
                  refine ⟨?_, by rw [beq_iff_eq]; omega⟩
                  cases vb with
                  | true => rfl
                  | false => exact absurd ⟨h0, rfl⟩ hem
                · right
                  rw [beq_eq_false_iff_ne]; omega
              have a0 : (wr.alloc (.cells #[.slice VA q vc, .bool vb] 184)).cell? ⟨w2.heap.size, 0, none⟩ = some (.slice A3 k c3) := (((Below.refl wr.heap.size wr).alloc (Nat.le_refl _) _).cell (p := ⟨w2.heap.size, 0, none⟩) (by show w2.heap.size < wr.heap.size; omega)).trans hc0
              have a1 : (wr.alloc (.cells #[.slice VA q vc, .bool vb] 184)).cell? ⟨w2.heap.size, 1, none⟩ = some (.bool false) := (((Below.refl wr.heap.size wr).alloc (Nat.le_refl _) _).cell (p := ⟨w2.heap.size, 1, none⟩) (by show w2.heap.size < wr.heap.size; omega)).trans hc1
              have hbal : Below wr.heap.size wr (wr.alloc (.cells #[.slice VA q vc, .bool vb] 184)) := (Below.refl wr.heap.size wr).alloc (Nat.le_refl _) _
              have HBAL := Lib.hid hbal
              clear hsp3 hpr2 hsy hem hne hq hap hbal
              rcases hte with ⟨rfl, t0⟩ | t0
              · skip
                go_wp2
                go_loop [97] (fun i => ∃ u : Nat, u ≤ q ∧ i = .int .i64 u ∧ ((bs vs).drop u).all Pt.part = ap) (fun i => q - (intOf i).toNat)
                case atStart => exact ⟨0, by omega, rfl, HAP.out⟩
                case round =>
                  obtain ⟨u, hun, rfl, hall⟩ := hrel
                  have HALL := Lib.hid hall
                  clear hall
                  by_cases hlt2 : u < q
                  · have hlv : u < vs.length := by rw [← HQ.out]; exact hlt2
                    obtain ⟨gv, ov, rfl, hgv, hcv⟩ := HPV.out.rd.cells (by omega)
                    have u0 := hcv u hlv
                    have x0 := (HBAL.out.cell (p := ⟨gv, ov + u, none⟩) hgv).trans u0
                    have hym := HPV.out.sz _ (List.getElem_mem hlv)
                    have HD := Lib.hid (part_drop hlv)
                    have i5 : (u : Int) < (q : Int) := by omega
                    clear hcv u0
                    generalize vs[u] = y at *
                    have HPt := Lib.hid (fun w : World => rpart_any y w hym)
                    cases hv : Pt.part y.data.toList with
                    | true =>
                      rw [hv] at HPt HD
                      go_wp2_with fail
                      with_reducible refine (HPt.out _).mono ?_
                      rintro e w' ⟨rfl, rfl⟩
                      go_wp2
                      go_round
                      case rel => exact ⟨u + 1, by omega, by go_num, by have := HD.out; rw [HALL.out] at this; simpa using this.symm⟩
                      case measure => simp [intOf]; omega
                    | false =>
                      rw [hv] at HPt HD
                      have hapf : ap = false := by have := HD.out; rw [HALL.out] at this; simpa using this
                      have hsp4 := HSP3.out
                      rw [hapf] at hsp4
                      simp only [Bool.false_eq_true, if_false] at hsp4
                      have her := HNO.out hsp4
                      obtain rfl := HZ.out (by rw [her]; decide)
                      subst her
                      clear hapf hsp4
                      go_wp2_with fail
                      with_reducible refine (HPt.out _).mono ?_
                      rintro e w' ⟨rfl, rfl⟩
                      go_wp2
                      have gg := fun o => res_alloc o (.slice none 0 0) (.bool false) y4 y0 y1
                      refine bodyPost_ret (v := .tuple #[patV none 0 0 false, .int .i64 33]) (by simp [results, Tryz.results150, go_sem, (gg _).1, (gg _).2]) rfl ⟨none, [], 0, false, rfl, patR_zero _, ?_⟩
                      exact ((HBB.out.setCell (p := ⟨w.heap.size + 1, 0, none⟩) (by simp) _).setCell (p := ⟨w.heap.size + 1, 1, none⟩) (by simp) _).alloc (by simp [World.setCell]; omega) _
                  · obtain rfl : u = q := by omega
                    have hapt : ap = true := by
                      rw [← HALL.out, List.drop_of_length_le (by rw [bs_length, ← HQ.out]; exact Nat.le_refl _)]
                      rfl
                    have hsp4 := HSP3.out
                    rw [hapt, if_pos rfl] at hsp4
                    have hso4 := HSO.out _ hsp4
                    have hlen4 : (bs ls ++ bs vs).length = k + u := by rw [List.length_append, hkl, bs_length, ← HQ.out]
                    simp only [hlen4] at hso4
                    have HS4 := Lib.hid hso4
                    have HL4 := Lib.hid hlen4
                    have HOB := Lib.hid (show (Value.slice A3 k c3).ownBlock ≠ some wr.heap.size from fun h => absurd (World.ownsRow.lt HOWN.out _ h).2 (Nat.lt_irrefl _))
                    clear hapt hsp4 hso4 hlen4
                    go_upto_region 29 with fail
                    go_cut [] (fun wx => ∃ (A' : Option Addr) (c' : Nat), SubEnd w wx w2.heap.size A' (ls ++ vs) (k + u) c' true)
                    case first =>
                      go_region_law
                        ((refine step_append_sg rfl _ _ rfl (w2.heap.size + 1) (.slice A3 k c3) ls (by rfl) (HOWN.out.below (by repeat (first | exact Below.refl _ _ | apply below_drew | refine Below.alloc ?_ (by first | exact Nat.le_refl _ | exact hzr) _))) VA vs u vc HQ.out (by rfl) ((HPV.out.keep (by repeat (first | exact HBAL.out | apply below_drew))).rd) HPV.out.nil (by rw [HLK.out, ← HQ.out]; omega) (by simp; omega) ?_; intro v' w' hown' hb' hg9
                          have kb0 := (grown_cell hg9 (p := ⟨wr.heap.size, 0, none⟩) (by simp) HOB.out).trans (box_cells (w := wr) (v0 := .slice VA u vc) (t := 184) (by repeat (first | exact Below.refl _ _ | apply below_drew))).1
                          have kb1 := (grown_cell hg9 (p := ⟨wr.heap.size, 1, none⟩) (by simp) HOB.out).trans (box_cells (w := wr) (v0 := .slice VA u vc) (t := 184) (by repeat (first | exact Below.refl _ _ | apply below_drew))).2
                          clear hg9
                          obtain ⟨A', c', hv, hf5, hf6, hf7, hf8⟩ := hown'.form
                          rw [show (ls ++ vs).length = k + u by rw [List.length_append, HLK.out, ← HQ.out]] at hv hf5
                          subst hv
                          have F5 := Lib.hid hf5
                          have F6 := Lib.hid hf6
                          have F7 := Lib.hid hf7
                          have F8 := Lib.hid hf8
                          have HB := Lib.hid (show Below (w2.heap.size + 1) wr w' from Below.trans (by repeat (first | exact Below.refl _ _ | apply below_drew | refine Below.alloc ?_ (by exact hzr) _)) hb')
                          have kk0 := (HB.out.cell (p := ⟨w2.heap.size, 0, none⟩) (by show w2.heap.size < w2.heap.size + 1; omega)).trans hc0
                          have kk1 := (HB.out.cell (p := ⟨w2.heap.size, 1, none⟩) (by show w2.heap.size < w2.heap.size + 1; omega)).trans hc1
                          have kf0 := (HB.out.frozen (p := ⟨w2.heap.size, 0, none⟩) (by show w2.heap.size < w2.heap.size + 1; omega)).trans hf0
                          have kf1 := (HB.out.frozen (p := ⟨w2.heap.size, 1, none⟩) (by show w2.heap.size < w2.heap.size + 1; omega)).trans hf1
                          have kr0 := (HB.out.cell (p := ⟨w.heap.size + 1, 0, none⟩) (by show w.heap.size + 1 < w2.heap.size + 1; omega)).trans y0
                          have kr1 := (HB.out.cell (p := ⟨w.heap.size + 1, 1, none⟩) (by show w.heap.size + 1 < w2.heap.size + 1; omega)).trans y1
                          have kr2 := (HB.out.frozen (p := ⟨w.heap.size + 1, 0, none⟩) (by show w.heap.size + 1 < w2.heap.size + 1; omega)).trans y2
                          have kr3 := (HB.out.frozen (p := ⟨w.heap.size + 1, 1, none⟩) (by show w.heap.size + 1 < w2.heap.size + 1; omega)).trans y3
                          clear hf5 hf6 hf7 hf8 hown' hb'))
                      all_goals set_option maxRecDepth 100000 in go_wp2_with fail
                      all_goals
                        go_meet
                        refine ⟨A', c', ⟨by simp [go_sem, kk0], by simp [go_sem, kk1], PatR.store2 (⟨F7.out, rfl, rfl, by rw [List.length_append, HLK.out, ← HQ.out]; exact F5.out, F6.out, F8.out, fun z hz => (List.mem_append.1 hz).elim (HLM.out z) (HPV.out.sz z)⟩ : PatR w' A' (ls ++ vs) c' true ⟨bs (ls ++ vs), true⟩) _ _ _ _ _ kk0 kk1 (fun _ h => by cases h) (fun _ h => by cases h), ⟨by simp [go_sem, kr0], by simp [go_sem, kr1], by simpa using kr2, by simpa using kr3, by have := HB.out.size; simp [World.setCell]; omega⟩, (((HBB.out.trans (HB.out.mono (by omega))).setCell (p := ⟨w2.heap.size, 0, none⟩) (by show w.heap.size ≤ w2.heap.size; omega) _).setCell (p := ⟨w2.heap.size, 1, none⟩) (by show w.heap.size ≤ w2.heap.size; omega) _)⟩⟩
                    case rest =>
                      obtain ⟨A', c', HH⟩ := hcut
                      have kk0 := HH.e0
                      have kk1 := HH.e1
                      obtain ⟨kr0, kr1, kr2, kr3, kr4⟩ := HH.zb
                      have HE := Lib.hid HH
                      clear HH
                      have hs9 := HS4.out
                      by_cases h12 : k + u ≤ 12
                      · rw [if_pos h12] at hs9
                        obtain ⟨her, hspv⟩ := hs9
                        have hsv := hspv h12
                        subst her
                        have HSV := Lib.hid hsv
                        have i9 : ¬ (12 : Int) < (k : Int) + (u : Int) := by omega
                        have i8 : ¬ (12 : Int) < ((k + u : Nat) : Int) := by omega
                        clear hspv hsv
                        set_option maxRecDepth 100000 in go_wp2
                        refine bodyPost_ret (v := .tuple #[patV A' (k + u) c' true, .int .i64 0]) (by simp [results, Tryz.results150, go_sem, kr0, kr1]) rfl ⟨A', ls ++ vs, c', true, by rw [List.length_append, HLK.out, ← HQ.out]; rfl, ?_, ?_⟩
                        · rw [HSV.out]
                          have hpe := HE.out.pr
                          rw [bs_append] at hpe
                          exact hpe.store2 _ _ _ _ _ kr0 kr1 (fun _ h => by cases h) (fun _ h => by cases h)
                        · exact (HE.out.below.setCell (p := ⟨w.heap.size + 1, 0, none⟩) (by simp) _).setCell (p := ⟨w.heap.size + 1, 1, none⟩) (by simp) _
                      · rw [if_neg h12] at hs9
                        obtain ⟨her, _⟩ := hs9
                        obtain rfl := HZ.out (by rw [her]; decide)
                        subst her
                        have i9 : (12 : Int) < (k : Int) + (u : Int) := by omega
                        have i8 : (12 : Int) < ((k + u : Nat) : Int) := by omega
                        set_option maxRecDepth 100000 in go_wp2
                        refine bodyPost_ret (v := .tuple #[patV none 0 0 false, .int .i64 31]) (by simp [results, Tryz.results150, go_sem, kr0, kr1]) rfl ⟨none, [], 0, false, rfl, patR_zero _, ?_⟩
                        exact (HE.out.below.setCell (p := ⟨w.heap.size + 1, 0, none⟩) (by simp) _).setCell (p := ⟨w.heap.size + 1, 1, none⟩) (by simp) _
              · skip
                go_wp2
                go_loop [97] (fun i => ∃ u : Nat, u ≤ q ∧ i = .int .i64 u ∧ ((bs vs).drop u).all Pt.part = ap) (fun i => q - (intOf i).toNat)
                case atStart => exact ⟨0, by omega, rfl, HAP.out⟩
                case round =>
                  obtain ⟨u, hun, rfl, hall⟩ := hrel
                  have HALL := Lib.hid hall
                  clear hall
                  by_cases hlt2 : u < q
                  · have hlv : u < vs.length := by rw [← HQ.out]; exact hlt2
                    obtain ⟨gv, ov, rfl, hgv, hcv⟩ := HPV.out.rd.cells (by omega)
                    have u0 := hcv u hlv
                    have x0 := (HBAL.out.cell (p := ⟨gv, ov + u, none⟩) hgv).trans u0
                    have hym := HPV.out.sz _ (List.getElem_mem hlv)
                    have HD := Lib.hid (part_drop hlv)
                    have i5 : (u : Int) < (q : Int) := by omega
                    clear hcv u0
                    generalize vs[u] = y at *
                    have HPt := Lib.hid (fun w : World => rpart_any y w hym)
                    cases hv : Pt.part y.data.toList with
                    | true =>
                      rw [hv] at HPt HD
                      go_wp2_with fail
                      with_reducible refine (HPt.out _).mono ?_
                      rintro e w' ⟨rfl, rfl⟩
                      go_wp2
                      go_round
                      case rel => exact ⟨u + 1, by omega, by go_num, by have := HD.out; rw [HALL.out] at this; simpa using this.symm⟩
                      case measure => simp [intOf]; omega
                    | false =>
                      rw [hv] at HPt HD
                      have hapf : ap = false := by have := HD.out; rw [HALL.out] at this; simpa using this
                      have hsp4 := HSP3.out
                      rw [hapf] at hsp4
                      simp only [Bool.false_eq_true, if_false] at hsp4
                      have her := HNO.out hsp4
                      obtain rfl := HZ.out (by rw [her]; decide)
                      subst her
                      clear hapf hsp4
                      go_wp2_with fail
                      with_reducible refine (HPt.out _).mono ?_
                      rintro e w' ⟨rfl, rfl⟩
                      go_wp2
                      have gg := fun o => res_alloc o (.slice none 0 0) (.bool false) y4 y0 y1
                      refine bodyPost_ret (v := .tuple #[patV none 0 0 false, .int .i64 33]) (by simp [results, Tryz.results150, go_sem, (gg _).1, (gg _).2]) rfl ⟨none, [], 0, false, rfl, patR_zero _, ?_⟩
                      exact ((HBB.out.setCell (p := ⟨w.heap.size + 1, 0, none⟩) (by simp) _).setCell (p := ⟨w.heap.size + 1, 1, none⟩) (by simp) _).alloc (by simp [World.setCell]; omega) _
                  · obtain rfl : u = q := by omega
                    have hapt : ap = true := by
                      rw [← HALL.out, List.drop_of_length_le (by rw [bs_length, ← HQ.out]; exact Nat.le_refl _)]
                      rfl
                    have hsp4 := HSP3.out
                    rw [hapt, if_pos rfl] at hsp4
                    have hso4 := HSO.out _ hsp4
                    have hlen4 : (bs ls ++ bs vs).length = k + u := by rw [List.length_append, hkl, bs_length, ← HQ.out]
                    simp only [hlen4] at hso4
                    have HS4 := Lib.hid hso4
                    have HL4 := Lib.hid hlen4
                    have HOB := Lib.hid (show (Value.slice A3 k c3).ownBlock ≠ some wr.heap.size from fun h => absurd (World.ownsRow.lt HOWN.out _ h).2 (Nat.lt_irrefl _))
                    clear hapt hsp4 hso4 hlen4
                    go_upto_region 29 with fail
                    go_cut [] (fun wx => ∃ (A' : Option Addr) (c' : Nat), SubEnd w wx w2.heap.size A' (ls ++ vs) (k + u) c' vb)
                    case first =>
                      go_region_law
                        ((refine step_append_sg rfl _ _ rfl (w2.heap.size + 1) (.slice A3 k c3) ls (by rfl) (HOWN.out.below (by repeat (first | exact Below.refl _ _ | apply below_drew | refine Below.alloc ?_ (by first | exact Nat.le_refl _ | exact hzr) _))) VA vs u vc HQ.out (by rfl) ((HPV.out.keep (by repeat (first | exact HBAL.out | apply below_drew))).rd) HPV.out.nil (by rw [HLK.out, ← HQ.out]; omega) (by simp; omega) ?_; intro v' w' hown' hb' hg9
                          have kb0 := (grown_cell hg9 (p := ⟨wr.heap.size, 0, none⟩) (by simp) HOB.out).trans (box_cells (w := wr) (v0 := .slice VA u vc) (t := 184) (by repeat (first | exact Below.refl _ _ | apply below_drew))).1
                          have kb1 := (grown_cell hg9 (p := ⟨wr.heap.size, 1, none⟩) (by simp) HOB.out).trans (box_cells (w := wr) (v0 := .slice VA u vc) (t := 184) (by repeat (first | exact Below.refl _ _ | apply below_drew))).2
                          clear hg9
                          obtain ⟨A', c', hv, hf5, hf6, hf7, hf8⟩ := hown'.form
                          rw [show (ls ++ vs).length = k + u by rw [List.length_append, HLK.out, ← HQ.out]] at hv hf5
                          subst hv
                          have F5 := Lib.hid hf5
                          have F6 := Lib.hid hf6
                          have F7 := Lib.hid hf7
                          have F8 := Lib.hid hf8
                          have HB := Lib.hid (show Below (w2.heap.size + 1) wr w' from Below.trans (by repeat (first | exact Below.refl _ _ | apply below_drew | refine Below.alloc ?_ (by exact hzr) _)) hb')
                          have kk0 := (HB.out.cell (p := ⟨w2.heap.size, 0, none⟩) (by show w2.heap.size < w2.heap.size + 1; omega)).trans hc0
                          have kk1 := (HB.out.cell (p := ⟨w2.heap.size, 1, none⟩) (by show w2.heap.size < w2.heap.size + 1; omega)).trans hc1
                          have kf0 := (HB.out.frozen (p := ⟨w2.heap.size, 0, none⟩) (by show w2.heap.size < w2.heap.size + 1; omega)).trans hf0
                          have kf1 := (HB.out.frozen (p := ⟨w2.heap.size, 1, none⟩) (by show w2.heap.size < w2.heap.size + 1; omega)).trans hf1
                          have kr0 := (HB.out.cell (p := ⟨w.heap.size + 1, 0, none⟩) (by show w.heap.size + 1 < w2.heap.size + 1; omega)).trans y0
                          have kr1 := (HB.out.cell (p := ⟨w.heap.size + 1, 1, none⟩) (by show w.heap.size + 1 < w2.heap.size + 1; omega)).trans y1
                          have kr2 := (HB.out.frozen (p := ⟨w.heap.size + 1, 0, none⟩) (by show w.heap.size + 1 < w2.heap.size + 1; omega)).trans y2
                          have kr3 := (HB.out.frozen (p := ⟨w.heap.size + 1, 1, none⟩) (by show w.heap.size + 1 < w2.heap.size + 1; omega)).trans y3
                          clear hf5 hf6 hf7 hf8 hown' hb'))
                      all_goals set_option maxRecDepth 100000 in go_wp2_with fail
                      all_goals
                        go_meet
                        refine ⟨A', c', ⟨by simp [go_sem, kk0], by simp [go_sem, kk1], PatR.store2 (⟨F7.out, rfl, rfl, by rw [List.length_append, HLK.out, ← HQ.out]; exact F5.out, F6.out, F8.out, fun z hz => (List.mem_append.1 hz).elim (HLM.out z) (HPV.out.sz z)⟩ : PatR w' A' (ls ++ vs) c' vb ⟨bs (ls ++ vs), vb⟩) _ _ _ _ _ kk0 kk1 (fun _ h => by cases h) (fun _ h => by cases h), ⟨by simp [go_sem, kr0], by simp [go_sem, kr1], by simpa using kr2, by simpa using kr3, by have := HB.out.size; simp [World.setCell]; omega⟩, (((HBB.out.trans (HB.out.mono (by omega))).setCell (p := ⟨w2.heap.size, 0, none⟩) (by show w.heap.size ≤ w2.heap.size; omega) _).setCell (p := ⟨w2.heap.size, 1, none⟩) (by show w.heap.size ≤ w2.heap.size; omega) _)⟩⟩
                    case rest =>
                      obtain ⟨A', c', HH⟩ := hcut
                      have kk0 := HH.e0
                      have kk1 := HH.e1
                      obtain ⟨kr0, kr1, kr2, kr3, kr4⟩ := HH.zb
                      have HE := Lib.hid HH
                      clear HH
                      have hs9 := HS4.out
                      by_cases h12 : k + u ≤ 12
                      · rw [if_pos h12] at hs9
                        obtain ⟨her, hspv⟩ := hs9
                        have hsv := hspv h12
                        subst her
                        have HSV := Lib.hid hsv
                        have i9 : ¬ (12 : Int) < (k : Int) + (u : Int) := by omega
                        have i8 : ¬ (12 : Int) < ((k + u : Nat) : Int) := by omega
                        clear hspv hsv
                        set_option maxRecDepth 100000 in go_wp2
                        refine bodyPost_ret (v := .tuple #[patV A' (k + u) c' vb, .int .i64 0]) (by simp [results, Tryz.results150, go_sem, kr0, kr1]) rfl ⟨A', ls ++ vs, c', vb, by rw [List.length_append, HLK.out, ← HQ.out]; rfl, ?_, ?_⟩
                        · rw [HSV.out]
                          have hpe := HE.out.pr
                          rw [bs_append] at hpe
                          exact hpe.store2 _ _ _ _ _ kr0 kr1 (fun _ h => by cases h) (fun _ h => by cases h)
                        · exact (HE.out.below.setCell (p := ⟨w.heap.size + 1, 0, none⟩) (by simp) _).setCell (p := ⟨w.heap.size + 1, 1, none⟩) (by simp) _
                      · rw [if_neg h12] at hs9
                        obtain ⟨her, _⟩ := hs9
                        obtain rfl := HZ.out (by rw [her]; decide)
                        subst her
                        have i9 : (12 : Int) < (k : Int) + (u : Int) := by omega
                        have i8 : (12 : Int) < ((k + u : Nat) : Int) := by omega
                        set_option maxRecDepth 100000 in go_wp2
                        refine bodyPost_ret (v := .tuple #[patV none 0 0 false, .int .i64 31]) (by simp [results, Tryz.results150, go_sem, kr0, kr1]) rfl ⟨none, [], 0, false, rfl, patR_zero _, ?_⟩
                        exact (HE.out.below.setCell (p := ⟨w.heap.size + 1, 0, none⟩) (by simp) _).setCell (p := ⟨w.heap.size + 1, 1, none⟩) (by simp) _
    · have her := hl0 hc hw
      obtain rfl := hz (by rw [her]; decide)
      subst her
      have hne : ((bl.length : Int) == ((Pt.wilds p : Nat) : Int)) = false := by rw [beq_eq_false_iff_ne]; omega
      have hne2 : ((bl.length : Int) != ((Pt.wilds p : Nat) : Int)) = true := by rw [bne, hne]; rfl
      clear hnone hsome hc0 hl0 hz hp hl hsx hsy hsn hHW h12 hw hL hLn hc
      generalize Pt.wilds p = q at *
      generalize xs.length = n at *
      generalize bl.length = m at *
      subst hW0
      clear hal
      go_enter Tryz.func150, Tryz.ntmps150
      go_wp2_with fail
      with_reducible refine (HK.out _ HX0.out).mono ?_
      rintro e w1 ⟨rfl, hb1⟩
      obtain ⟨k0, k1, ⟨z0, z1, z2, z3, z4⟩⟩ := pz hb1
      have HB1 := Lib.hid hb1
      clear hb1
      go_wp2_with fail
      with_reducible refine (HW.out _ HB1.out).mono ?_
      rintro e w2 ⟨rfl, hb2⟩
      have hb3 := HB1.out.trans (hb2.mono HB1.out.size)
      obtain ⟨l0, l1, ⟨y0, y1, y2, y3, y4⟩⟩ := pz hb3
      have HB3 := Lib.hid hb3
      clear hb2 hb3 k0 k1 z0 z1 z2 z3 z4
      go_wp2
      refine bodyPost_ret (v := .tuple #[patV none 0 0 false, .int .i64 33]) (by simp [results, Tryz.results150, go_sem, y0, y1]) rfl ⟨none, [], 0, false, rfl, patR_zero _, ?_⟩
      exact ((HAL.out.trans (HB3.out.mono HAL.out.size)).setCell (p := ⟨w.heap.size + 1, 0, none⟩) (by simp) _).setCell (p := ⟨w.heap.size + 1, 1, none⟩) (by simp) _
  · have her := hc0 hc
    obtain rfl := hz (by rw [her]; exact hc)
    subst her
    have t1 : ((Pt.check p : Int) == 0) = false := by rw [beq_eq_false_iff_ne]; omega
    have t2 : ((Pt.check p : Int) != 0) = true := by simpa using (show (Pt.check p : Int) ≠ 0 by omega)
    clear hnone hsome hc0 hl0 hz hp hl hsx hsy hsn hHW h12 hL hLn hc
    generalize Pt.check p = k at *
    generalize xs.length = n at *
    generalize bl.length = m at *
    subst hW0
    clear hal
    go_enter Tryz.func150, Tryz.ntmps150
    go_wp2_with fail
    with_reducible refine (HK.out _ HX0.out).mono ?_
    rintro e w1 ⟨rfl, hb1⟩
    obtain ⟨k0, k1, ⟨z0, z1, z2, z3, z4⟩⟩ := pz hb1
    have HB1 := Lib.hid hb1
    clear hb1
    go_wp2
    refine bodyPost_ret (v := .tuple #[patV none 0 0 false, .int .i64 k]) (by simp [results, Tryz.results150, go_sem, z0, z1]) rfl ⟨none, [], 0, false, rfl, patR_zero _, ?_⟩
    exact ((HAL.out.trans (HB1.out.mono HAL.out.size)).setCell (p := ⟨w.heap.size + 1, 0, none⟩) (by simp) _).setCell (p := ⟨w.heap.size + 1, 1, none⟩) (by simp) _
end Go.Proofs.YtpdkecchpidhdaaGreatDoor

namespace Go.Proofs.YtpdkecchpidhdaaGreatDoor
open Go.RowKit

theorem same_pats (A B : Option Addr) (xs ys : List ByteArray) (c d : Nat) (b f : Bool) (p : Pt.Pat) (w : World) (hp : PatR w A xs c b p) (hq : PatR w B ys d f p) :
    Calls Tryz.prog 42 #[patV A xs.length c b, patV B ys.length d f] w (GivesBB w true) := by
  have h := rsame_any A B xs ys c d w.heap.size w.heap.size b f w hp.rd hq.rd (Nat.le_refl _) (Nat.le_refl _) (Nat.le_trans hp.le hp.cm) hp.le hq.le (Nat.le_trans hq.le hq.cm)
  have e1 : xs = ys := bs_inj (hp.parts.trans hq.parts.symm)
  have e2 : b = f := hp.rest.trans hq.rest.symm
  have e : samePat b f xs ys = true := by
    unfold samePat
    rw [e1, e2]
    simp
  rw [e] at h
  exact h
end Go.Proofs.YtpdkecchpidhdaaGreatDoor
