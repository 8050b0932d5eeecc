/- region.withPaths. -/
import Derived.Test.YtembmegllpkmfaaGreatDoorRegShort
import Derived.Test.YtembmegllpkmfaaGreatDoorOwnRg
namespace Go.Proofs.YtembmegllpkmfaaGreatDoor
open Go.RowKit
set_option linter.unusedVariables false
theorem withP_append : ∀ l m : List Pt.Rg.Reg, Pt.Rg.withP (l ++ m) = (Pt.Rg.withP l).bind fun r => (Pt.Rg.withP m).map fun s => r ++ s
  | [], m => by simp [Pt.Rg.withP]
  | g :: l, m => by
    rw [List.cons_append, Pt.Rg.withP, Pt.Rg.withP]
    by_cases h : g.simp.holes.length ≤ 64
    · rw [if_pos h, if_pos h, withP_append l m]
      cases Pt.Rg.withP l with
      | none => rfl
      | some r =>
        simp only [Option.bind_some, Option.map_some]
        cases Pt.Rg.withP m with
        | none => rfl
        | some s =>
          simp only [Option.map_some]
          cases g.simp.empty <;> rfl
    · rw [if_neg h, if_neg h]
      rfl
theorem withP_one {g : Pt.Rg.Reg} (h : g.simp.holes.length ≤ 64) : Pt.Rg.withP [g] = some (if g.simp.empty then [] else [g.simp]) := by
  rw [Pt.Rg.withP, if_pos h]
  rfl
theorem withP_bad {g : Pt.Rg.Reg} (h : ¬ g.simp.holes.length ≤ 64) : Pt.Rg.withP [g] = none := by rw [Pt.Rg.withP, if_neg h]
theorem withP_no {l : List Pt.Rg.Reg} {k : Nat} (hk : k < l.length) (h : ¬ l[k].simp.holes.length ≤ 64) : Pt.Rg.withP l = none := by
  have e : l = l.take k ++ ([l[k]] ++ l.drop (k + 1)) := by
    rw [List.singleton_append, ← List.drop_eq_getElem_cons hk, List.take_append_drop]
  rw [e, withP_append, withP_append, withP_bad h]
  cases Pt.Rg.withP (l.take k) <;> rfl
theorem RegR.reg {w : World} {A : Option Addr} {xs : List ByteArray} {c : Nat} {b : Bool} {H : Option Addr} {bl : List BindV} {e : Nat} {g : Pt.Rg.Reg} (h : RegR w A xs c b H bl e g) : (⟨A, xs, c, b, H, bl, e⟩ : RegV).reg = g := by
  have h1 := h.base.pat
  have h2 := h.eq
  cases g with
  | mk B L =>
    show (⟨⟨bs xs, b⟩, bl.map BindV.pat⟩ : Pt.Rg.Reg) = ⟨B, L⟩
    rw [show (⟨bs xs, b⟩ : Pt.Pat) = B from h1, show bl.map BindV.pat = L from h2]
/-- All that was made since. -/
def FreshV (w w' : World) (x : RegV) : Prop := FreshA w w' x.A ∧ FreshA w w' x.H ∧ ∀ y ∈ x.bl, FreshA w w' y.A
theorem FreshV.addr {w w' : World} {x : RegV} (h : FreshV w w' x) : ∀ y ∈ x.addrs, ∀ a, y = some a → w.heap.size ≤ a.block ∧ a.block < w'.heap.size := by
  intro y hy a ha
  rcases List.mem_append.1 hy with hy | hy
  · exact h.1 a (by rw [← ha]; exact (adr_mem hy).symm)
  · rcases List.mem_append.1 hy with hy | hy
    · exact h.2.1 a (by rw [← ha]; exact (adr_mem hy).symm)
    · obtain ⟨z, hz, hy⟩ := List.mem_flatMap.1 hy
      exact h.2.2 z hz a (by rw [← ha]; exact (adr_mem hy).symm)
theorem FreshV.more {w w' w'' : World} {x : RegV} (h : FreshV w w' x) (hs : w'.heap.size ≤ w''.heap.size) : FreshV w w'' x := ⟨h.1.more hs, h.2.1.more hs, fun y hy => (h.2.2 y hy).more hs⟩
theorem FreshV.old {w w1 w' : World} {x : RegV} (h : FreshV w1 w' x) (hs : w.heap.size ≤ w1.heap.size) : FreshV w w' x := ⟨h.1.old hs, h.2.1.old hs, fun y hy => (h.2.2 y hy).old hs⟩
/-- What the loop keeps. -/
structure WInv (W : World) (l : List Pt.Rg.Reg) (wx : World) (A4 : Option Addr) (e4 : Nat) (ol : List RegV) (k : Nat) : Prop where
  own : OwnG wx W.heap.size (.slice A4 ol.length e4) ol
  acc : Pt.Rg.withP (l.take k) = some (ol.map RegV.reg)
  len : ol.length ≤ k
  fresh : ∀ x ∈ ol, FreshV W wx x
theorem WInv.skip {W : World} {l : List Pt.Rg.Reg} {wx wy : World} {A4 : Option Addr} {e4 : Nat} {ol : List RegV} {k : Nat} (h : WInv W l wx A4 e4 ol k) (hb : Below wx.heap.size wx wy) (hk : k < l.length) (h64 : l[k].simp.holes.length ≤ 64)
    (he : l[k].simp.empty = true) : WInv W l wy A4 e4 ol (k + 1) := by
  refine ⟨h.own.below hb, ?_, Nat.le_succ_of_le h.len, fun x hx => (h.fresh x hx).more hb.size⟩
  rw [List.take_succ_eq_append_getElem hk, withP_append, h.acc, withP_one h64, he]
  simp
theorem WInv.add {W : World} {l : List Pt.Rg.Reg} {wx wy : World} {A4 A5 : Option Addr} {e4 e5 : Nat} {ol : List RegV} {k : Nat} {y : RegV} (h : WInv W l wx A4 e4 ol k) (hs : wx.heap.size ≤ wy.heap.size) (hk : k < l.length) (h64 : l[k].simp.holes.length ≤ 64)
    (he : l[k].simp.empty = false) (hy : y.reg = l[k].simp) (hown : OwnG wy W.heap.size (.slice A5 (ol ++ [y]).length e5) (ol ++ [y])) (hf : FreshV W wy y) : WInv W l wy A5 e5 (ol ++ [y]) (k + 1) := by
  refine ⟨hown, ?_, by have := h.len; simp; omega, fun x hx => ?_⟩
  · rw [List.take_succ_eq_append_getElem hk, withP_append, h.acc, withP_one h64, he]
    simp [hy]
  · rcases List.mem_append.1 hx with hx | hx
    · exact (h.fresh x hx).more hs
    · rw [List.mem_singleton.1 hx]; exact hf
def GivesWP (w : World) (o : Option (List Pt.Rg.Reg)) (e : Ending) (w' : World) : Prop :=
  match o with
  | none => e = .returned (.tuple #[.slice none 0 0, .int .i64 52]) ∧ Below w.heap.size w w'
  | some r => ∃ A ol c, e = .returned (.tuple #[.slice A (List.length ol) c, .int .i64 0]) ∧ ol.map RegV.reg = r ∧ OwnG w' w.heap.size (.slice A ol.length c) ol ∧ Below w.heap.size w w' ∧ ∀ x ∈ ol, FreshV w w' x
set_option maxHeartbeats 8000000 in
theorem withP_any (A : Option Addr) (rl : List RegV) (c : Nat) (w : World) (hr : RdG w A rl c) (hs : ∀ x ∈ rl, ShortG x.reg) (hl : ∀ x ∈ rl, x.bl.length ≤ 1000000 ∧ x.xs.length ≤ 1000000 ∧ Pt.check x.reg.base = 0) (hN : rl.length ≤ 1000000) :
    Calls Tryz.prog 42 #[.slice A rl.length c] w (GivesWP w (Pt.Rg.withP (rl.map RegV.reg))) := by
  have HR := Lib.hid hr
  have HSI := Lib.hid (fun (k : Nat) (hk : k < rl.length) (w' : World) (h : RegV.R w' rl[k]) => simp_any rl[k].A rl[k].xs rl[k].c rl[k].b rl[k].H rl[k].bl rl[k].e rl[k].reg w' h (hs _ (List.getElem_mem hk)) (hl _ (List.getElem_mem hk)).1 (hl _ (List.getElem_mem hk)).2.1)
  have HSH := Lib.hid (fun (k : Nat) (hk : k < rl.length) (A' : Option Addr) (xs' : List ByteArray) (c' : Nat) (b' : Bool) (H' : Option Addr) (bl' : List BindV) (e' : Nat) (w' : World) (h : RegR w' A' xs' c' b' H' bl' e' rl[k].reg.simp) => short_any A' xs' c' b' H' bl' e' rl[k].reg.simp w' h (hl _ (List.getElem_mem hk)).2.2 simp_holes)
  obtain ⟨o, ho⟩ : ∃ o, o = Pt.Rg.withP (rl.map RegV.reg) := ⟨_, rfl⟩
  rw [← ho]
  have HO := Lib.hid ho
  obtain ⟨n, hn⟩ : ∃ n, n = rl.length := ⟨_, rfl⟩
  have HNL := Lib.hid hn
  rw [← hn] at hN ⊢
  have hni : (n : Int) ≤ 1000000 := by omega
  have hci : (n : Int) ≤ (c : Int) := by have := hr.le; omega
  have hcm : (c : Int) ≤ 9223372036854775807 := by have := hr.cm; unfold maxLen at this; omega
  clear hr hs hl ho hn
  go_enter Tryz.func42, Tryz.ntmps42
  go_wp2
  go_loopg [11, 4] n (fun gg s11 s4 wx => ∃ (k n4 : Nat) (A4 : Option Addr) (e4 : Nat), k + gg = n ∧ s11 = .int .i64 (k : Int) ∧ s4 = .slice A4 n4 e4 ∧ Below w.heap.size w wx ∧ Aside (∃ ol : List RegV, n4 = ol.length ∧ WInv w (rl.map RegV.reg) wx A4 e4 ol k))
  case atStart => exact ⟨0, 0, none, 0, by omega, rfl, rfl, Below.refl _ _, [], rfl, OwnG.empty _ _, rfl, Nat.le_refl _, fun x h => by cases h⟩
  case round =>
    obtain ⟨k, n4, A4, e4, hk, rfl, rfl, hbw, HA⟩ := hrel
    obtain ⟨ol, ho4, hI⟩ := HA.out
    have HI := Lib.hid hI
    have HO4 := Lib.hid ho4
    have HBW := Lib.hid hbw
    by_cases hkn : k < n
    · have i1 : (k : Int) < (n : Int) := by omega
      have hkb : k < rl.length := by rw [← HNL.out]; exact hkn
      have HKM : Hid (k < (rl.map RegV.reg).length) := Lib.hid (by rw [List.length_map]; exact hkb)
      have HKG : Hid ((rl.map RegV.reg)[k]'HKM.out = rl[k].reg) := Lib.hid (by rw [List.getElem_map])
      obtain ⟨q, o9, hA, hq, hcell⟩ := (HR.out.keep hbw).at (by omega)
      subst hA
      obtain ⟨e0, e1, e2⟩ := hcell k hkb
      obtain ⟨W1, hW1⟩ : ∃ W1, W1 = wr.alloc (regObj rl[k].A rl[k].xs.length rl[k].c rl[k].b rl[k].H rl[k].bl.length rl[k].e) := ⟨_, rfl⟩
      have hb1 : Below wr.heap.size wr W1 := by rw [hW1]; exact (Below.refl _ _).alloc (Nat.le_refl _) _
      have HB1 := Lib.hid hb1
      have hgb : GBox W1 wr.heap.size rl[k].A rl[k].xs.length rl[k].c rl[k].b rl[k].H rl[k].bl.length rl[k].e := by rw [hW1]; exact GBox.new ..
      have HGB := Lib.hid hgb
      have HFZ : Hid (∀ i, W1.frozen? ⟨wr.heap.size, i, none⟩ = false) := Lib.hid fun i => by rw [hW1]; simp [regObj]
      have HC := Lib.hid (HSI.out k hkb W1 (((HR.out.parts _ (List.getElem_mem hkb)).keep hbw).keep hb1))
      have HS1 := Lib.hid (HSH.out k hkb)
      have HLT : Hid (wr.heap.size < W1.heap.size) := Lib.hid hgb.lt
      have HGK := Lib.hid hkb
      obtain ⟨t0, t1, t2, tl⟩ := hgb
      clear hcell hbw hb1 hI ho4
      generalize rl[k] = y at *
      generalize y.reg = g at *
      clear hkb
      subst hW1
      go_wp2_with fail
      with_reducible refine HC.out.mono ?_
      rintro en w2 ⟨A', xs', c', b', H', bl', e', rfl, hr', hb2, hf1, hf2, hf3⟩
      have gz := HGB.out.keep hb2
      have hfin := store_fin (q := wr.heap.size) hr' (HB1.out.trans (hb2.mono HB1.out.size)) (Nat.le_refl _) HLT.out hf1 hf2 hf3 (.slice A' xs'.length c') (.bool b') (.slice H' bl'.length e') rfl
      have gs2 := gz.set (A' := A') (n' := xs'.length) (c' := c') (b' := b') (H' := H') (m' := bl'.length) (e' := e')
      have HR' := Lib.hid hfin.1
      have HB3 := Lib.hid hfin.2.1
      have HF3 := Lib.hid hfin.2.2
      have HG3 := Lib.hid gs2
      have HC3 := Lib.hid (HS1.out A' xs' c' b' H' bl' e' _ hfin.1)
      obtain ⟨z0, z1, z2, zl⟩ := gz
      have y0 := (hb2.frozen (p := ⟨wr.heap.size, 0, none⟩) HLT.out).trans (HFZ.out 0)
      have y1 := (hb2.frozen (p := ⟨wr.heap.size, 1, none⟩) HLT.out).trans (HFZ.out 1)
      have y2 := (hb2.frozen (p := ⟨wr.heap.size, 2, none⟩) HLT.out).trans (HFZ.out 2)
      have hlen := reg_len hr'
      have HLEN := Lib.hid hlen
      clear hr' hb2 hf1 hf2 hf3 hfin gs2 t0 t1 t2 tl e0 e1 e2
      by_cases h64 : bl'.length ≤ 64
      rotate_left
      · have j1 : (64 : Int) < (bl'.length : Int) := by omega
        have hno : o = none := by rw [HO.out]; exact withP_no HKM.out (by rw [HKG.out, hlen]; exact h64)
        subst hno
        clear hlen
        go_wp2
        refine bodyPost_ret (v := .tuple #[.slice none 0 0, .int .i64 52]) (by simp [results, Tryz.results42, go_sem]) rfl ⟨rfl, ?_⟩
        exact HBW.out.trans (HB3.out.mono HBW.out.size)
      have j1 : ¬ (64 : Int) < (bl'.length : Int) := by omega
      have H64 : Hid (g.simp.holes.length ≤ 64) := Lib.hid (by rw [hlen]; exact h64)
      clear hlen h64
      generalize hlo : Pt.Rg.lenN g.simp.base g.simp.holes = lo at HC3
      have HEM : Hid (g.simp.empty = lo.isNone) := Lib.hid (by unfold Pt.Rg.Reg.empty; rw [hlo])
      clear hlo
      go_wp2_with fail
      with_reducible refine HC3.out.mono ?_
      rintro en w4 ⟨rfl, hb4⟩
      have HB4 := Lib.hid hb4
      obtain ⟨v0, v1, v2, vl⟩ := HG3.out.keep hb4
      have HX4 := Lib.hid (HB3.out.trans (hb4.mono HB3.out.size))
      have HR4 := Lib.hid (HR'.out.keep hb4)
      clear z0 z1 z2 zl y0 y1 y2 hb4
      cases lo with
      | none =>
        go_wp2
        go_roundg (n - (k + 1))
        case measure => go_light; omega
        case rel =>
          go_light
          exact ⟨k + 1, n4, A4, e4, by omega, by go_num, rfl, HBW.out.trans (HX4.out.mono HBW.out.size), ol, HO4.out, HI.out.skip HX4.out HKM.out (by rw [HKG.out]; exact H64.out) (by rw [HKG.out, HEM.out]; rfl)⟩
      | some nn =>
        have hreg := HR4.out.reg
        obtain ⟨y, hy⟩ : ∃ y : RegV, y = ⟨A', xs', c', b', H', bl', e'⟩ := ⟨_, rfl⟩
        have hRy : RegV.R w4 y := by rw [hy]; unfold RegV.R; rw [hreg]; exact HR4.out
        have hfr : FreshV wr w4 y := by rw [hy]; exact ⟨(HF3.out.1).more HB4.out.size, (HF3.out.2.1).more HB4.out.size, fun z hz => (HF3.out.2.2 z hz).more HB4.out.size⟩
        have HFR := Lib.hid hfr
        have HYR : Hid (y.reg = g.simp) := Lib.hid (by rw [hy]; exact hreg)
        have hnew := newG w4 y hRy
        rw [hy] at hnew
        simp only at hnew
        have HNEW := Lib.hid hnew
        have HOW : Hid (OwnG w4 w.heap.size (.slice A4 ol.length e4) ol) := Lib.hid (HI.out.own.below HX4.out)
        have HAP : Hid (∀ x ∈ [y], ∀ z ∈ x.addrs, ∀ a, z = some a → (Value.slice A4 ol.length e4).ownBlock ≠ some a.block ∧ a.block < w4.heap.size + 1) := Lib.hid fun x hx z hz a ha => by
          rw [List.mem_singleton.1 hx] at hz
          have h1 := HFR.out.addr z hz a ha
          exact ⟨fun e9 => by have h2 := (HI.out.own.lt _ e9).2; omega, by omega⟩
        have hsz := HBW.out.size
        have hsz4 := HX4.out.size
        have hol := HI.out.len
        have HYE := Lib.hid hy
        clear hreg hRy hfr hnew
        rw [HO4.out] at *
        rw [hy] at HAP
        go_wp2_with (refine wpList_append_rg rfl _ _ rfl w.heap.size (.slice A4 ol.length e4) ol rfl (HOW.out.below ((Below.refl _ _).alloc (Nat.le_refl _) _)) (some ⟨w4.heap.size, 0, none⟩) [⟨A', xs', c', b', H', bl', e'⟩] 1 1 rfl rfl HNEW.out (by simpa using HAP.out) (by simp; omega) (by simp; omega) ?_; intro v9 w9 hown9 hb9 hg9)
        obtain ⟨A9, e9, hv9, _⟩ := hown9.form
        subst hv9
        go_roundg (n - (k + 1))
        case measure => go_light; omega
        case rel =>
          go_light
          have q1 : Below w.heap.size w w4 := HBW.out.trans (HX4.out.mono HBW.out.size)
          have q2 : Below w.heap.size w w9 := (q1.trans (((Below.refl w4.heap.size w4).alloc (Nat.le_refl _) _).mono q1.size)).trans hb9
          have q3 : w4.heap.size ≤ w9.heap.size := Nat.le_trans (((Below.refl w4.heap.size w4).alloc (Nat.le_refl _) _).size) hb9.size
          refine ⟨k + 1, _, A9, e9, by omega, by go_num, rfl, q2, ol ++ [⟨A', xs', c', b', H', bl', e'⟩], rfl, HI.out.add (by omega) HKM.out (by rw [HKG.out]; exact H64.out) (by rw [HKG.out, HEM.out]; rfl) (by rw [HKG.out, ← HYE.out]; exact HYR.out) hown9 ?_⟩
          rw [← HYE.out]
          exact ((HFR.out).old hsz).more q3
    · have i1 : ¬ (k : Int) < (n : Int) := by omega
      have hacc := hI.acc
      rw [List.take_of_length_le (by rw [List.length_map, ← HNL.out]; omega)] at hacc
      rw [← HO.out] at hacc
      subst hacc
      clear hI ho4 hbw
      go_wp2
      refine bodyPost_ret (v := .tuple #[.slice A4 n4 e4, .int .i64 0]) (by simp [results, Tryz.results42, go_sem]) rfl ⟨A4, ol, e4, by rw [HO4.out], rfl, HI.out.own, HBW.out, HI.out.fresh⟩
end Go.Proofs.YtembmegllpkmfaaGreatDoor
