/- region.Simplify, region.Empty. -/
import Derived.Test.YtembmegllpkmfaaGreatDoorRegSimp2
namespace Go.Proofs.YtembmegllpkmfaaGreatDoor
open Go.RowKit
set_option linter.unusedVariables false
def ShortG (g : Pt.Rg.Reg) : Prop := ∀ h ∈ g.holes, ∀ x, Pt.meet g.base h = some x → shortP x
theorem simp_holes {g : Pt.Rg.Reg} : ∀ h ∈ g.simp.holes, Pt.within h g.simp.base = true := fun h hh => (Pt.Rg.met_ok (((Pt.Rg.simpL_is g.base g.holes).mem h).1 hh).1).2
/-- A region and a number. -/
def GivesGN (w : World) (g : Pt.Rg.Reg) (n : Nat) (e : Ending) (w' : World) : Prop :=
  ∃ A xs c b H bl e', e = .returned (.tuple #[regV A (List.length xs) c b H (List.length bl) e', .int .i64 (n : Int)]) ∧ RegR w' A xs c b H bl e' g ∧ Below w.heap.size w w' ∧ FreshA w w' A ∧ FreshA w w' H ∧ ∀ x ∈ bl, FreshA w w' x.A
def GivesTBN (w : World) (v : Bool) (n : Nat) (e : Ending) (w' : World) : Prop := e = .returned (.tuple #[.bool v, .int .i64 (n : Int)]) ∧ Below w.heap.size w w'
theorem RdB_nil_reg (w : World) : RegR w none [] 0 false none [] 0 ⟨Pt.none_, []⟩ :=
  ⟨⟨.inl rfl, rfl, rfl, Nat.le_refl _, Nat.zero_le _, fun _ => rfl, fun x h => by cases h⟩, ⟨.inl rfl, fun x h => (by cases h), Nat.le_refl _, Nat.zero_le _, fun _ => rfl⟩, rfl⟩
set_option maxHeartbeats 4000000 in
theorem empty_any (A : Option Addr) (xs : List ByteArray) (c : Nat) (b : Bool) (H : Option Addr) (bl : List BindV) (e : Nat) (g : Pt.Rg.Reg) (w : World) (hg : RegR w A xs c b H bl e g) (hs : ShortG g) :
    Calls Tryz.prog 11 #[regV A xs.length c b H bl.length e] w (GivesTBN w (decide (Pt.Rg.gcheck g = 0) && (Pt.Rg.lenN g.simp.base g.simp.holes).isNone) (Pt.Rg.gcheck g)) := by
  obtain ⟨W0, hW0⟩ : ∃ W0, W0 = w.alloc (regObj A xs.length c b H bl.length e) := ⟨_, rfl⟩
  have hal : Below w.heap.size w W0 := by rw [hW0]; exact (Below.refl _ _).alloc (Nat.le_refl _) _
  have HAL := Lib.hid hal
  have hgb : GBox W0 w.heap.size A xs.length c b H bl.length e := by rw [hW0]; exact GBox.new ..
  have HGB := Lib.hid hgb
  have HCK := Lib.hid (gcheck_any A xs c b H bl e g W0 (hg.keep hal))
  by_cases hk : Pt.Rg.gcheck g = 0
  · obtain ⟨kB, kH, k64⟩ := Pt.Rg.gcheck_zero.1 hk
    have HSI := Lib.hid (fun (w' : World) (hb : Below W0.heap.size W0 w') => simp_any A xs c b H bl e g w' ((hg.keep hal).keep hb) hs (by rw [← reg_len hg]; omega) (by rw [← hg.base.len]; have := (Pt.check_ok.1 kB).2; omega))
    have HSH := Lib.hid (fun (A' : Option Addr) (xs' : List ByteArray) (c' : Nat) (b' : Bool) (H' : Option Addr) (bl' : List BindV) (e' : Nat) (w' : World) (hr : RegR w' A' xs' c' b' H' bl' e' g.simp) => short_any A' xs' c' b' H' bl' e' g.simp w' hr kB simp_holes)
    rw [hk, decide_eq_true rfl, Bool.true_and]
    rw [hk] at HCK
    generalize Pt.Rg.lenN g.simp.base g.simp.holes = o at *
    obtain ⟨t0, t1, t2, tl⟩ := hgb
    generalize bl.length = m at *
    generalize xs.length = n at *
    clear hg hal hs hk kB kH k64
    subst hW0
    go_enter Tryz.func11, Tryz.ntmps11
    go_wp2_with fail
    with_reducible refine HCK.out.mono ?_
    rintro en w1 ⟨rfl, hb1⟩
    have HB1 := Lib.hid hb1
    obtain ⟨u0, u1, u2, ul⟩ := HGB.out.keep hb1
    have HC2 := Lib.hid (HSI.out w1 hb1)
    clear t0 t1 t2 tl hb1
    go_wp2_with fail
    with_reducible refine HC2.out.mono ?_
    rintro en w2 ⟨A', xs', c', b', H', bl', e', rfl, hr, hb2, _⟩
    have HB2 := Lib.hid hb2
    have HC3 := Lib.hid (HSH.out A' xs' c' b' H' bl' e' w2 hr)
    clear hb2 hr
    go_wp2_with fail
    with_reducible refine HC3.out.mono ?_
    rintro en w3 ⟨rfl, hb3⟩
    have HB3 := Lib.hid hb3
    clear hb3
    have hbb : Hid (Below w.heap.size w w3) := Lib.hid (HAL.out.trans (((HB1.out.trans (HB2.out.mono HB1.out.size)).trans (HB3.out.mono (Nat.le_trans HB1.out.size HB2.out.size))).mono HAL.out.size))
    cases o with
    | none =>
      go_wp2
      refine bodyPost_ret (v := .tuple #[.bool true, .int .i64 0]) (by simp [results, Tryz.results11, go_sem]) rfl ⟨rfl, hbb.out⟩
    | some v =>
      go_wp2
      refine bodyPost_ret (v := .tuple #[.bool false, .int .i64 0]) (by simp [results, Tryz.results11, go_sem]) rfl ⟨rfl, hbb.out⟩
  · rw [decide_eq_false hk, Bool.false_and]
    generalize Pt.Rg.gcheck g = k at *
    have i1 : ((k : Int) == 0) = false := by rw [beq_eq_false_iff_ne]; omega
    have i2 : ((k : Int) != 0) = true := by rw [bne, i1]; rfl
    obtain ⟨t0, t1, t2, tl⟩ := hgb
    generalize bl.length = m at *
    generalize xs.length = n at *
    clear hg hal hs hk
    subst hW0
    go_enter Tryz.func11, Tryz.ntmps11
    go_wp2_with fail
    with_reducible refine HCK.out.mono ?_
    rintro en w1 ⟨rfl, hb1⟩
    have HB1 := Lib.hid hb1
    clear hb1
    go_wp2
    refine bodyPost_ret (v := .tuple #[.bool false, .int .i64 (k : Int)]) (by simp [results, Tryz.results11, go_sem]) rfl ⟨rfl, HAL.out.trans (HB1.out.mono HAL.out.size)⟩
theorem store_fin {w w1 w2 w'' : World} {g : Pt.Rg.Reg} {xs : List ByteArray} {b : Bool} {c e q : Nat} {A H : Option Addr} {bl : List BindV} (hr : RegR w2 A xs c b H bl e g) (hb : Below w.heap.size w w2) (hq : w.heap.size ≤ q) (hq1 : q < w1.heap.size)
    (hA : FreshA w1 w2 A) (hH : FreshA w1 w2 H) (hx : ∀ x ∈ bl, FreshA w1 w2 x.A) (u0 u1 u2 : Value) (hw : w'' = ((w2.setCell ⟨q, 0, none⟩ u0).setCell ⟨q, 1, none⟩ u1).setCell ⟨q, 2, none⟩ u2) :
    RegR w'' A xs c b H bl e g ∧ Below w.heap.size w w'' ∧ FreshA w w'' A ∧ FreshA w w'' H ∧ ∀ x ∈ bl, FreshA w w'' x.A := by
  have hg : w2.grownBy w'' (some q) := by
    rw [hw]
    exact ((grown_set _ _ _ _).trans (grown_set _ _ _ _)).trans (grown_set _ _ _ _)
  refine ⟨⟨hr.base.grownA hg fun y hy a e => ⟨fun e2 => ?_, hr.base.adr_lt y hy a e⟩, hr.holes.grownQ hg (fun a ha e => ?_) (fun x hxm a ha e => ?_), hr.eq⟩, hb.trans (below_row hg (fun k hk => by injection hk with hk; omega) hb.size), fun a ha => ?_, fun a ha => ?_, fun x hxm a ha => ?_⟩
  · have h1 := (hA a (by rw [← e]; exact (adr_mem hy).symm)).1
    injection e2 with e2
    omega
  · have h1 := (hH a ha).1
    omega
  · have h1 := (hx x hxm a ha).1
    omega
  · have h1 := hA a ha
    exact ⟨by omega, Nat.lt_of_lt_of_le h1.2 hg.size⟩
  · have h1 := hH a ha
    exact ⟨by omega, Nat.lt_of_lt_of_le h1.2 hg.size⟩
  · have h1 := hx x hxm a ha
    exact ⟨by omega, Nat.lt_of_lt_of_le h1.2 hg.size⟩
set_option maxHeartbeats 4000000 in
theorem simplify_any (A : Option Addr) (xs : List ByteArray) (c : Nat) (b : Bool) (H : Option Addr) (bl : List BindV) (e : Nat) (g : Pt.Rg.Reg) (w : World) (hg : RegR w A xs c b H bl e g) (hs : ShortG g) :
    Calls Tryz.prog 49 #[regV A xs.length c b H bl.length e] w (GivesGN w (if Pt.Rg.gcheck g = 0 then g.simp else ⟨Pt.none_, []⟩) (Pt.Rg.gcheck g)) := by
  obtain ⟨W0, hW0⟩ : ∃ W0, W0 = (w.alloc (regObj A xs.length c b H bl.length e)).alloc (regObj none 0 0 false none 0 0) := ⟨_, rfl⟩
  have hal : Below w.heap.size w W0 := by rw [hW0]; exact ((Below.refl _ _).alloc (Nat.le_refl _) _).alloc (by simp) _
  have HAL := Lib.hid hal
  have hgb : GBox W0 w.heap.size A xs.length c b H bl.length e := by rw [hW0]; exact (GBox.new ..).keep ((Below.refl _ _).alloc (Nat.le_refl _) _)
  have HGB := Lib.hid hgb
  have hzb : GBox W0 (w.heap.size + 1) none 0 0 false none 0 0 := by
    have h := GBox.new (w.alloc (regObj A xs.length c b H bl.length e)) none 0 0 false none 0 0
    rw [hW0]
    simpa using h
  have HZB := Lib.hid hzb
  have HFZ : Hid (∀ i, W0.frozen? ⟨w.heap.size + 1, i, none⟩ = false) := Lib.hid fun i => by rw [hW0]; simp [regObj]
  have hz : w.heap.size + 1 < W0.heap.size := by rw [hW0]; simp
  have HCK := Lib.hid (gcheck_any A xs c b H bl e g W0 (hg.keep hal))
  by_cases hk : Pt.Rg.gcheck g = 0
  · obtain ⟨kB, kH, k64⟩ := Pt.Rg.gcheck_zero.1 hk
    have HSI := Lib.hid (fun (w' : World) (hb : Below W0.heap.size W0 w') => simp_any A xs c b H bl e g w' ((hg.keep hal).keep hb) hs (by rw [← reg_len hg]; omega) (by rw [← hg.base.len]; have := (Pt.check_ok.1 kB).2; omega))
    rw [if_pos hk]
    rw [hk] at HCK ⊢
    generalize g.simp = gs at *
    obtain ⟨t0, t1, t2, tl⟩ := hgb
    generalize bl.length = m at *
    generalize xs.length = n at *
    clear hg hal hs hk kB kH k64 hzb
    subst hW0
    go_enter Tryz.func49, Tryz.ntmps49
    go_wp2_with fail
    with_reducible refine HCK.out.mono ?_
    rintro en w1 ⟨rfl, hb1⟩
    have HB1 := Lib.hid hb1
    obtain ⟨u0, u1, u2, ul⟩ := HGB.out.keep hb1
    have HC2 := Lib.hid (HSI.out w1 hb1)
    clear t0 t1 t2 tl hb1
    go_wp2_with fail
    with_reducible refine HC2.out.mono ?_
    rintro en w2 ⟨A', xs', c', b', H', bl', e', rfl, hr, hb2, hf1, hf2, hf3⟩
    have HB2 := Lib.hid hb2
    have HR := Lib.hid hr
    have HF1 := Lib.hid hf1
    have HF2 := Lib.hid hf2
    have HF3 := Lib.hid hf3
    have hbz := HB1.out.trans (hb2.mono HB1.out.size)
    have HBZ := Lib.hid hbz
    obtain ⟨z0, z1, z2, zl⟩ := HZB.out.keep hbz
    have y0 := (hbz.frozen (p := ⟨w.heap.size + 1, 0, none⟩) hz).trans (HFZ.out 0)
    have y1 := (hbz.frozen (p := ⟨w.heap.size + 1, 1, none⟩) hz).trans (HFZ.out 1)
    have y2 := (hbz.frozen (p := ⟨w.heap.size + 1, 2, none⟩) hz).trans (HFZ.out 2)
    clear hb2 hr hf1 hf2 hf3 u0 u1 u2 hbz
    go_wp2
    refine bodyPost_ret (v := .tuple #[regV A' xs'.length c' b' H' bl'.length e', .int .i64 0]) (by simp [results, Tryz.results49, go_sem, z0, z1, z2, regV]) rfl ?_
    have hfin := store_fin (q := w.heap.size + 1) HR.out (HAL.out.trans (HBZ.out.mono HAL.out.size)) (Nat.le_succ _) (Nat.lt_of_lt_of_le hz HB1.out.size) HF1.out HF2.out HF3.out (.slice A' xs'.length c') (.bool b') (.slice H' bl'.length e') rfl
    exact ⟨A', xs', c', b', H', bl', e', rfl, hfin.1, hfin.2.1, hfin.2.2.1, hfin.2.2.2.1, hfin.2.2.2.2⟩
  · rw [if_neg hk]
    generalize Pt.Rg.gcheck g = k at *
    have i1 : ((k : Int) == 0) = false := by rw [beq_eq_false_iff_ne]; omega
    have i2 : ((k : Int) != 0) = true := by rw [bne, i1]; rfl
    obtain ⟨t0, t1, t2, tl⟩ := hgb
    generalize bl.length = m at *
    generalize xs.length = n at *
    clear hg hal hs hk hzb
    subst hW0
    go_enter Tryz.func49, Tryz.ntmps49
    go_wp2_with fail
    with_reducible refine HCK.out.mono ?_
    rintro en w1 ⟨rfl, hb1⟩
    have HB1 := Lib.hid hb1
    obtain ⟨z0, z1, z2, zl⟩ := HZB.out.keep hb1
    have y0 := (hb1.frozen (p := ⟨w.heap.size + 1, 0, none⟩) hz).trans (HFZ.out 0)
    have y1 := (hb1.frozen (p := ⟨w.heap.size + 1, 1, none⟩) hz).trans (HFZ.out 1)
    have y2 := (hb1.frozen (p := ⟨w.heap.size + 1, 2, none⟩) hz).trans (HFZ.out 2)
    clear hb1
    go_wp2
    refine bodyPost_ret (v := .tuple #[regV none 0 0 false none 0 0, .int .i64 (k : Int)]) (by simp [results, Tryz.results49, go_sem, z0, z1, z2, regV]) rfl ?_
    have hn := RdB_nil_reg w1
    have hfin := store_fin (w1 := w1) (q := w.heap.size + 1) hn (HAL.out.trans (HB1.out.mono HAL.out.size)) (Nat.le_succ _) (Nat.lt_of_lt_of_le hz HB1.out.size) (fun a h => by cases h) (fun a h => by cases h) (fun x h => by cases h) (.slice none 0 0) (.bool false) (.slice none 0 0) rfl
    exact ⟨none, [], 0, false, none, [], 0, rfl, hfin.1, hfin.2.1, hfin.2.2.1, hfin.2.2.2.1, hfin.2.2.2.2⟩
end Go.Proofs.YtembmegllpkmfaaGreatDoor
