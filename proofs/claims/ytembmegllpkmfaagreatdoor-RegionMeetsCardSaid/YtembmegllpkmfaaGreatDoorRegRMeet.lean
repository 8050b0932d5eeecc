/- The reference's Meet of regions. -/
import Derived.Test.YtembmegllpkmfaaGreatDoorRegRSimp
import Derived.Test.YtembmegllpkmfaaGreatDoorRegMeetL
namespace Go.Proofs.YtembmegllpkmfaaGreatDoor
open Go.RowKit
set_option linter.unusedVariables false
theorem RdB.adr_lt2 {w : World} {A : Option Addr} {bl : List BindV} {c : Nat} (h : RdB w A bl c) : ∀ y ∈ adr A bl, ∀ a, y = some a → a.block < w.heap.size := by
  intro y hy a ha
  rcases h.cells with h0 | ⟨g, o, hA, hlt, _⟩
  · subst h0
    cases hy
  · rw [adr_mem hy, hA] at ha
    injection ha with ha
    rw [← ha]
    exact hlt
theorem RegR.off {w w' : World} {q : Nat} {A : Option Addr} {xs : List ByteArray} {c : Nat} {b : Bool} {H : Option Addr} {bl : List BindV} {e : Nat} {g : Pt.Rg.Reg} (h : RegR w A xs c b H bl e g) (hg : w.grownBy w' (some q))
    (h1 : ∀ y ∈ adr A xs, ∀ a, y = some a → a.block ≠ q) (h2 : ∀ a, H = some a → a.block ≠ q) (h3 : ∀ x ∈ bl, ∀ a, x.A = some a → a.block ≠ q) : RegR w' A xs c b H bl e g := by
  refine h.grownA hg fun y hy a ha => ?_
  rcases List.mem_append.1 hy with hy | hy
  · exact ⟨fun e => h1 y hy a ha (Option.some.inj e).symm, h.base.adr_lt y hy a ha⟩
  · rcases List.mem_append.1 hy with hy | hy
    · exact ⟨fun e => h2 a (by rw [← ha]; exact (adr_mem hy).symm) (Option.some.inj e).symm, h.holes.adr_lt2 y hy a ha⟩
    · obtain ⟨z, hz, hy⟩ := List.mem_flatMap.1 hy
      exact ⟨fun e => h3 z hz a (by rw [← ha]; exact (adr_mem hy).symm) (Option.some.inj e).symm, (h.holes.parts z hz).adr_lt y hy a ha⟩
theorem lenN_at3 {B : Pt.Pat} {H : List Pt.Pat} {n : Nat} (h : Pt.Rg.lenN B H = some n) : Pt.fits B n = true := by
  unfold Pt.Rg.lenN Pt.Rg.findN at h
  have hm := List.mem_of_find?_eq_some h
  rw [List.mem_range'_1] at hm
  unfold Pt.Rg.firstN at hm
  cases hr : B.rest with
  | true =>
    rw [hr] at hm
    simp only [if_true] at hm
    exact (Pt.Rg.fits_far hr).2 (by omega)
  | false =>
    rw [hr] at hm
    simp only [Bool.false_eq_true, if_false] at hm
    exact (Pt.Rg.fits_one hr).2 (by omega)
/-- A box that holds the zero region still. -/
structure ZB (w : World) (q : Nat) : Prop where
  c0 : w.cell? ⟨q, 0, none⟩ = some (.slice none 0 0)
  c1 : w.cell? ⟨q, 1, none⟩ = some (.bool false)
  c2 : w.cell? ⟨q, 2, none⟩ = some (.slice none 0 0)
  fz : ∀ i, w.frozen? ⟨q, i, none⟩ = false
  lt : q < w.heap.size
theorem ZB.new (w : World) : ZB (w.alloc (regObj none 0 0 false none 0 0)) w.heap.size := ⟨cells_new _ _ _ 0 _ rfl, cells_new _ _ _ 1 _ rfl, cells_new _ _ _ 2 _ rfl, fun i => by simp [regObj], by simp⟩
theorem ZB.keep {w w' : World} {q : Nat} (h : ZB w q) (hb : Below w.heap.size w w') : ZB w' q :=
  ⟨(hb.cell (p := ⟨q, 0, none⟩) h.lt).trans h.c0, (hb.cell (p := ⟨q, 1, none⟩) h.lt).trans h.c1, (hb.cell (p := ⟨q, 2, none⟩) h.lt).trans h.c2, fun i => (hb.frozen (p := ⟨q, i, none⟩) h.lt).trans (h.fz i), Nat.lt_of_lt_of_le h.lt hb.size⟩
theorem ZB.grow {w w' : World} {q : Nat} {own : Option Nat} (h : ZB w q) (hg : w.grownBy w' own) (hn : own ≠ some q) : ZB w' q := by
  have hb := hg.block q h.lt (fun e => hn e.symm)
  have hc : ∀ i, w'.cell? ⟨q, i, none⟩ = w.cell? ⟨q, i, none⟩ := fun i => by unfold World.cell?; simp only [hb]
  have hf : ∀ i, w'.frozen? ⟨q, i, none⟩ = w.frozen? ⟨q, i, none⟩ := fun i => by unfold World.frozen?; simp only [hb]
  exact ⟨(hc 0).trans h.c0, (hc 1).trans h.c1, (hc 2).trans h.c2, fun i => (hf i).trans (h.fz i), Nat.lt_of_lt_of_le h.lt hg.size⟩
theorem zb_store {V w w9 : World} {q : Nat} {A : Option Addr} {xs : List ByteArray} {c : Nat} {b : Bool} {H : Option Addr} {bl : List BindV} {e : Nat} {g : Pt.Rg.Reg} (hb : Below V.heap.size V w) (hq : V.heap.size ≤ q) (hz : ZB w q) (h : RegR w A xs c b H bl e g)
    (h1 : ∀ y ∈ adr A xs, ∀ a, y = some a → a.block ≠ q) (h2 : ∀ a, H = some a → a.block ≠ q) (h3 : ∀ x ∈ bl, ∀ a, x.A = some a → a.block ≠ q) {n m : Nat} (hn : n = xs.length) (hm : m = bl.length)
    (hw : w9 = ((w.setCell ⟨q, 0, none⟩ (.slice A n c)).setCell ⟨q, 1, none⟩ (.bool b)).setCell ⟨q, 2, none⟩ (.slice H m e)) : GBox w9 q A n c b H m e ∧ Below V.heap.size V w9 ∧ RegR w9 A xs c b H bl e g := by
  have hg : w.grownBy w9 (some q) := by
    rw [hw]
    exact ((grown_set _ _ _ _).trans (grown_set _ _ _ _)).trans (grown_set _ _ _ _)
  refine ⟨⟨by rw [hw]; simp [go_sem, hz.c0], by rw [hw]; simp [go_sem, hz.c1], by rw [hw]; simp [go_sem, hz.c2], Nat.lt_of_lt_of_le hz.lt hg.size⟩, hb.trans (below_row hg (fun k hk => by injection hk with hk; omega) hb.size), h.off hg h1 h2 h3⟩
theorem zb_fresh {w w' : World} {q : Nat} {A : Option Addr} (hz : ZB w q) (hf : FreshA w w' A) : ∀ a, A = some a → a.block ≠ q := fun a ha e => by have h1 := (hf a ha).1; have h2 := hz.lt; omega
theorem zb_freshL {w w' : World} {q : Nat} {l : List BindV} (hz : ZB w q) (hf : ∀ x ∈ l, FreshA w w' x.A) : ∀ x ∈ l, ∀ a, x.A = some a → a.block ≠ q := fun x hx => zb_fresh hz (hf x hx)
theorem meetR_bad1 {a b : Pt.Rg.Reg} {k : Nat} (hk : Pt.Rg.gcheck a = k) (h : k ≠ 0) : Pt.Rg.meetR a b = (none, k) := by
  unfold Pt.Rg.meetR
  rw [if_neg (by rw [hk]; exact h), hk]
theorem meetR_bad2 {a b : Pt.Rg.Reg} {k : Nat} (ha : Pt.Rg.gcheck a = 0) (hk : Pt.Rg.gcheck b = k) (h : k ≠ 0) : Pt.Rg.meetR a b = (none, k) := by
  unfold Pt.Rg.meetR
  rw [if_pos ha, if_neg (by rw [hk]; exact h), hk]
set_option maxHeartbeats 16000000 in
theorem gmeet_any (A B : Option Addr) (xs ys : List ByteArray) (c d : Nat) (b f : Bool) (H K : Option Addr) (bl cl : List BindV) (e m : Nat) (g h : Pt.Rg.Reg) (w : World) (hg : RegR w A xs c b H bl e g) (hh : RegR w B ys d f K cl m h) (sg : SzG 100000 g) (sh : SzG 100000 h) :
    Calls Tryz.prog 16 #[regV A xs.length c b H bl.length e, regV B ys.length d f K cl.length m] w (GivesM1 w (Pt.Rg.meetR g h).1 (Pt.Rg.meetR g h).2) := by
  obtain ⟨W0, hW0⟩ : ∃ W0, W0 = ((w.alloc (regObj A xs.length c b H bl.length e)).alloc (regObj B ys.length d f K cl.length m)).alloc (regObj none 0 0 false none 0 0) := ⟨_, rfl⟩
  have hal : Below w.heap.size w W0 := by rw [hW0]; exact (((Below.refl _ _).alloc (Nat.le_refl _) _).alloc (by simp) _).alloc (by simp; omega) _
  have HAL := Lib.hid hal
  have hb0 : GBox W0 w.heap.size A xs.length c b H bl.length e := by rw [hW0]; exact (GBox.new ..).keep (((Below.refl _ _).alloc (Nat.le_refl _) _).alloc (by simp) _)
  have hb1 : GBox W0 (w.heap.size + 1) B ys.length d f K cl.length m := by
    have h := (GBox.new (w.alloc (regObj A xs.length c b H bl.length e)) B ys.length d f K cl.length m).keep ((Below.refl _ _).alloc (Nat.le_refl _) (regObj none 0 0 false none 0 0))
    rw [hW0]
    simpa using h
  have hb2 : GBox W0 (w.heap.size + 1 + 1) none 0 0 false none 0 0 := by
    have h := GBox.new ((w.alloc (regObj A xs.length c b H bl.length e)).alloc (regObj B ys.length d f K cl.length m)) none 0 0 false none 0 0
    rw [hW0]
    simpa using h
  have HB0 := Lib.hid (fun (w' : World) (hb : Below W0.heap.size W0 w') => hb0.keep hb)
  have HB1 := Lib.hid (fun (w' : World) (hb : Below W0.heap.size W0 w') => hb1.keep hb)
  have HB2 := Lib.hid (fun (w' : World) (hb : Below W0.heap.size W0 w') => hb2.keep hb)
  have HFZ0 : ∀ i, W0.frozen? ⟨w.heap.size + 1 + 1, i, none⟩ = false := fun i => by
    have h : ∀ X : World, (X.alloc (regObj none 0 0 false none 0 0)).frozen? ⟨X.heap.size, i, none⟩ = false := fun X => by simp [regObj]
    have h2 := h ((w.alloc (regObj A xs.length c b H bl.length e)).alloc (regObj B ys.length d f K cl.length m))
    rw [show ((w.alloc (regObj A xs.length c b H bl.length e)).alloc (regObj B ys.length d f K cl.length m)).heap.size = w.heap.size + 1 + 1 by simp] at h2
    rw [hW0]
    exact h2
  have HFZ := Lib.hid (fun (w' : World) (hb : Below W0.heap.size W0 w') (i : Nat) => (hb.frozen (p := ⟨w.heap.size + 1 + 1, i, none⟩) hb2.lt).trans (HFZ0 i))
  have HCA := Lib.hid (ggcheck_any A xs c b H bl e g W0 (hg.keep hal))
  have HCB := Lib.hid (fun (w' : World) (hb : Below W0.heap.size W0 w') => ggcheck_any B ys d f K cl m h w' ((hh.keep hal).keep hb))
  have HME := Lib.hid (fun (w' : World) (hb : Below W0.heap.size W0 w') => rmeetF_any A B xs ys c d b f g.base h.base w' ((hg.keep hal).keep hb).base ((hh.keep hal).keep hb).base)
  have HHL := Lib.hid (fun (w' : World) (hb : Below W0.heap.size W0 w') => ((hg.keep hal).keep hb).holes)
  have HKL := Lib.hid (fun (w' : World) (hb : Below W0.heap.size W0 w') => ((hh.keep hal).keep hb).holes)
  have HEQ : Hid ((bl ++ cl).map BindV.pat = g.holes ++ h.holes) := Lib.hid (by rw [List.map_append, hg.eq, hh.eq])
  have HSZ := Lib.hid (fun (C : Pt.Pat) (he : Pt.meet g.base h.base = some C) => (szG_two sg sh he).short (by decide))
  obtain ⟨mr, hmr⟩ : ∃ mr, mr = Pt.Rg.meetR g h := ⟨_, rfl⟩
  rw [← hmr]
  have HMR := Lib.hid hmr
  generalize hka : Pt.Rg.gcheck g = k at HCA
  by_cases hk0 : k = 0
  rotate_left
  · have hv := HMR.out.trans (meetR_bad1 hka hk0)
    subst hv
    have i1 : ((k : Int) == 0) = false := by rw [beq_eq_false_iff_ne]; omega
    have i2 : ((k : Int) != 0) = true := by rw [bne, i1]; rfl
    generalize xs.length = nx at *
    generalize ys.length = ny at *
    generalize bl.length = nb at *
    generalize cl.length = nc at *
    obtain ⟨t0, t1, t2, tl⟩ := hb0
    obtain ⟨s0, s1, s2, sl⟩ := hb1
    clear hg hh hal hb2 sg sh hka hk0 HFZ0
    subst hW0
    go_enter Tryz.func16, Tryz.ntmps16
    go_wp2_with fail
    with_reducible refine HCA.out.mono ?_
    rintro en w1 ⟨rfl, hb1⟩
    have HX1 := Lib.hid hb1
    obtain ⟨z0, z1, z2, zl⟩ := HB2.out _ hb1
    have y0 := HFZ.out _ hb1 0
    have y1 := HFZ.out _ hb1 1
    have y2 := HFZ.out _ hb1 2
    clear hb1 t0 t1 t2 tl s0 s1 s2 sl
    go_wp2
    refine bodyPost_ret (v := .tuple #[regV none 0 0 false none 0 0, .bool false, .int .i64 (k : Int)]) (by simp [results, Tryz.results16, go_sem, z0, z1, z2, regV]) rfl ⟨none, [], 0, false, none, [], 0, rfl, RdB_nil_reg _, ?_⟩
    exact box_three (q := w.heap.size + 1 + 1) (HAL.out.trans (HX1.out.mono HAL.out.size)) (by omega) (HB2.out _ HX1.out) _ _ _ rfl
  subst hk0
  generalize hkb : Pt.Rg.gcheck h = k at HCB
  by_cases hk0 : k = 0
  rotate_left
  · have hv := HMR.out.trans (meetR_bad2 hka hkb hk0)
    subst hv
    have i1 : ((k : Int) == 0) = false := by rw [beq_eq_false_iff_ne]; omega
    have i2 : ((k : Int) != 0) = true := by rw [bne, i1]; rfl
    generalize xs.length = nx at *
    generalize ys.length = ny at *
    generalize bl.length = nb at *
    generalize cl.length = nc at *
    obtain ⟨t0, t1, t2, tl⟩ := hb0
    obtain ⟨s0, s1, s2, sl⟩ := hb1
    clear hg hh hal hb2 sg sh hka hkb hk0 HFZ0
    subst hW0
    go_enter Tryz.func16, Tryz.ntmps16
    go_wp2_with fail
    with_reducible refine HCA.out.mono ?_
    rintro en w1 ⟨rfl, hb1⟩
    have HX1 := Lib.hid hb1
    have HC2 := Lib.hid (HCB.out _ hb1)
    obtain ⟨s01, s11, s21, sl1⟩ := HB1.out _ hb1
    clear hb1 t0 t1 t2 tl s0 s1 s2 sl
    go_wp2_with fail
    with_reducible refine HC2.out.mono ?_
    rintro en w2 ⟨rfl, hb2⟩
    have hx2 := HX1.out.trans (hb2.mono HX1.out.size)
    have HX2 := Lib.hid hx2
    obtain ⟨z0, z1, z2, zl⟩ := HB2.out _ hx2
    have y0 := HFZ.out _ hx2 0
    have y1 := HFZ.out _ hx2 1
    have y2 := HFZ.out _ hx2 2
    clear hb2 hx2 s01 s11 s21 sl1
    go_wp2
    refine bodyPost_ret (v := .tuple #[regV none 0 0 false none 0 0, .bool false, .int .i64 (k : Int)]) (by simp [results, Tryz.results16, go_sem, z0, z1, z2, regV]) rfl ⟨none, [], 0, false, none, [], 0, rfl, RdB_nil_reg _, ?_⟩
    exact box_three (q := w.heap.size + 1 + 1) (HAL.out.trans (HX2.out.mono HAL.out.size)) (by omega) (HB2.out _ HX2.out) _ _ _ rfl
  subst hk0
  obtain ⟨ga1, ga2, ga3⟩ := Pt.Rg.gcheck_zero.1 hka
  obtain ⟨gb1, gb2, gb3⟩ := Pt.Rg.gcheck_zero.1 hkb
  have HMV := Lib.hid (meetR_form hka hkb)
  have HGH : Hid ((∀ x ∈ g.holes, Pt.check x = 0) ∧ ∀ x ∈ h.holes, Pt.check x = 0) := Lib.hid ⟨ga2, gb2⟩
  have HN : Hid (bl.length + cl.length ≤ 1000) := Lib.hid (by rw [← reg_len hg, ← reg_len hh]; omega)
  clear hka hkb
  generalize hme : Pt.meet g.base h.base = om at HME
  have HOM := Lib.hid hme
  obtain ⟨nx, hnx⟩ : ∃ n, n = xs.length := ⟨_, rfl⟩
  obtain ⟨ny, hny⟩ : ∃ n, n = ys.length := ⟨_, rfl⟩
  obtain ⟨nb, hnb⟩ : ∃ n, n = bl.length := ⟨_, rfl⟩
  obtain ⟨nc, hnc⟩ : ∃ n, n = cl.length := ⟨_, rfl⟩
  have HNB := Lib.hid hnb
  have HNC := Lib.hid hnc
  rw [← hnx, ← hnb] at hW0 hb0 HB0 HCA
  rw [← hny, ← hnc] at hW0 hb1 HB1 HCB
  rw [← hnx, ← hny] at HME
  rw [← hnx, ← hny, ← hnb, ← hnc]
  clear hnx hny hnb hnc hme
  obtain ⟨t0, t1, t2, tl⟩ := hb0
  obtain ⟨s0, s1, s2, sl⟩ := hb1
  have hsz0 : w.heap.size + 1 + 1 < W0.heap.size := hb2.lt
  have HSZ0 := Lib.hid hsz0
  clear hg hh hal hb2 sg sh HFZ0 ga1 ga2 ga3 gb1 gb2 gb3 hsz0
  subst hW0
  go_enter Tryz.func16, Tryz.ntmps16
  go_wp2_with fail
  with_reducible refine HCA.out.mono ?_
  rintro en w0 ⟨rfl, hb0⟩
  have HX0 := Lib.hid hb0
  have HC2 := Lib.hid (HCB.out _ hb0)
  obtain ⟨s01, s11, s21, sl1⟩ := HB1.out _ hb0
  clear hb0 t0 t1 t2 tl s0 s1 s2 sl
  go_wp2_with fail
  with_reducible refine HC2.out.mono ?_
  rintro en w1 ⟨rfl, hb1⟩
  have hx1 := HX0.out.trans (hb1.mono HX0.out.size)
  have HX1 := Lib.hid hx1
  obtain ⟨t01, t11, t21, tl1⟩ := HB0.out _ hx1
  obtain ⟨s0, s1, s2, sl⟩ := HB1.out _ hx1
  have HC1 := Lib.hid (HME.out _ hx1)
  clear hb1 hx1 s01 s11 s21 sl1
  go_wp2_with fail
  with_reducible refine HC1.out.mono ?_
  intro en w2 hh
  obtain ⟨A6, xs6, c6, b6, rfl, hp6, hb2, hf6⟩ := hh
  have HX2 := Lib.hid (HX1.out.trans (hb2.mono HX1.out.size))
  have HP6 := Lib.hid hp6
  have HA6L : Hid (∀ y ∈ adr A6 xs6, ∀ a, y = some a → w.heap.size + 1 + 1 < a.block) := Lib.hid fun y hy a ha => by
    have h1 := (hf6 a (by rw [← ha]; exact (adr_mem hy).symm)).1
    have h2 := HX1.out.size
    have h3 := HSZ0.out
    simp only [World.alloc, Array.size_push] at h2 h3
    omega
  clear t01 t11 t21 tl1 s0 s1 s2 sl hb2 hp6 hf6
  obtain ⟨W2, hW2⟩ : ∃ W2, W2 = w2.alloc (.cells #[.slice A6 xs6.length c6, .bool b6] 24) := ⟨_, rfl⟩
  have hal2 : Below w2.heap.size w2 W2 := by rw [hW2]; exact (Below.refl _ _).alloc (Nat.le_refl _) _
  have hX3 := HX2.out.trans (hal2.mono HX2.out.size)
  have HX3 := Lib.hid hX3
  have hpb : PBox W2 w2.heap.size A6 xs6.length c6 b6 := by rw [hW2]; exact PBox.new ..
  have HPB := Lib.hid (fun (w' : World) (hb : Below W2.heap.size W2 w') => hpb.keep hb)
  go_upto_region 8 with fail
  generalize hwg : w2.alloc (.cells #[.slice A6 xs6.length c6, .bool b6] 24) = V2
  have hWW : V2 = W2 := hwg.symm.trans hW2.symm
  subst hWW
  clear hwg hW2
  cases om with
  | none =>
    have hv : mr = (none, 0) := by rw [HMR.out, HMV.out, HOM.out]
    subst hv
    obtain ⟨z0, z1, z2, zl⟩ := HB2.out _ hX3
    have y0 := HFZ.out _ hX3 0
    have y1 := HFZ.out _ hX3 1
    have y2 := HFZ.out _ hX3 2
    clear hal2 hX3 hpb
    go_wp2
    refine bodyPost_ret (v := .tuple #[regV none 0 0 false none 0 0, .bool false, .int .i64 0]) (by simp [results, Tryz.results16, go_sem, z0, z1, z2, regV]) rfl ⟨none, [], 0, false, none, [], 0, rfl, RdB_nil_reg _, ?_⟩
    have hx := HAL.out.trans (HX3.out.mono HAL.out.size)
    exact box_three (q := w.heap.size + 1 + 1) hx (by omega) (HB2.out _ HX3.out) _ _ _ rfl
  | some C =>
    have hCC : Pt.check C = 0 := Pt.meet_ok HOM.out
    have HCC := Lib.hid hCC
    have HP2 := Lib.hid (fun (w' : World) (hb : Below V2.heap.size V2 w') => ((show PatR w2 A6 xs6 c6 b6 C from HP6.out).keep hal2).keep hb)
    have HA6 : Hid (∀ y ∈ adr A6 xs6, ∀ a, y = some a → a.block < V2.heap.size) := Lib.hid ((show PatR w2 A6 xs6 c6 b6 C from HP6.out).keep hal2).adr_lt
    have HKE := Lib.hid (fun (w' : World) (hb : Below V2.heap.size V2 w') => show w'.cell? ⟨w2.heap.size, 0, none⟩ = some (.slice A6 xs6.length c6) ∧ w'.cell? ⟨w2.heap.size, 1, none⟩ = some (.bool b6) ∧ w'.cell? ⟨w.heap.size, 2, none⟩ = some (.slice H nb e) ∧ w'.cell? ⟨w.heap.size + 1, 2, none⟩ = some (.slice K nc m) from
      ⟨(HPB.out w' hb).c0, (HPB.out w' hb).c1, (HB0.out w' (HX3.out.trans (hb.mono HX3.out.size))).c2, (HB1.out w' (HX3.out.trans (hb.mono HX3.out.size))).c2⟩)
    obtain ⟨R0, hR0⟩ : ∃ R0 : Pt.Rg.Reg, R0 = (⟨C, g.holes ++ h.holes⟩ : Pt.Rg.Reg).simp := ⟨_, rfl⟩
    have HR0 := Lib.hid hR0
    have hGS := fun (A10 : Option Addr) (e10 : Nat) (w' : World) (hb : Below V2.heap.size V2 w') (hr : RdB w' A10 (bl ++ cl) e10) => show Calls Tryz.prog 44 #[patV A6 xs6.length c6 b6, .slice A10 (nb + nc) e10] w' (GivesGR w' A6 xs6 c6 b6 R0) from by
      have h := gsimp_any A6 xs6 c6 b6 A10 (bl ++ cl) e10 C w' (HP2.out w' hb) hr (by rw [List.length_append]; have := HN.out; omega) (fun x hx => (HSZ.out C HOM.out) x.pat (by show x.pat ∈ g.holes ++ h.holes; rw [← HEQ.out]; exact List.mem_map_of_mem hx))
      rw [HEQ.out, List.length_append, ← HNB.out, ← HNC.out] at h
      rw [hR0]
      exact h
    obtain ⟨n6, hn6⟩ : ∃ n, n = xs6.length := ⟨_, rfl⟩
    have HN6 := Lib.hid hn6
    rw [← hn6] at hGS hpb HKE HPB
    have HGS := Lib.hid hGS
    obtain ⟨d0, d1, d2, d3⟩ := HKE.out V2 (Below.refl _ _)
    have HAXB : Hid (∀ x ∈ bl, ∀ y ∈ adr x.A x.xs, ∀ a, y = some a → a.block < V2.heap.size) := Lib.hid fun x hx y hy a ha => ((HHL.out _ hX3).parts x hx).adr_lt y hy a ha
    have HAXC : Hid (∀ x ∈ cl, ∀ y ∈ adr x.A x.xs, ∀ a, y = some a → a.block < V2.heap.size) := Lib.hid fun x hx y hy a ha => ((HKL.out _ hX3).parts x hx).adr_lt y hy a ha
    have HRB := Lib.hid (fun (w' : World) (hb : Below V2.heap.size V2 w') => HHL.out w' (HX3.out.trans (hb.mono HX3.out.size)))
    have HRC := Lib.hid (fun (w' : World) (hb : Below V2.heap.size V2 w') => HKL.out w' (HX3.out.trans (hb.mono HX3.out.size)))
    have HLN : Hid (bl.length ≤ 1000 ∧ cl.length ≤ 1000) := Lib.hid (by have := HN.out; omega)
    have hpl := hpb.lt
    rw [← hn6]
    clear hal2 hX3 hpb hGS hR0 hCC hn6
    go_upto_region 10 with fail
    go_cut [11] from 35 to 42 (fun s11 wx => ∃ (q : Nat) (K7 : Option Addr) (n7 f7 : Nat), s11 = .pointer (some ⟨q, 0, none⟩) ∧ GBox wx q A6 n6 c6 b6 K7 n7 f7 ∧ Below V2.heap.size V2 wx ∧ Aside (∃ ol : List BindV, n7 = ol.length ∧ RegR wx A6 xs6 c6 b6 K7 ol f7 R0 ∧ (∀ a, K7 = some a → V2.heap.size ≤ a.block) ∧ ∀ x ∈ ol, ∀ a, x.A = some a → V2.heap.size ≤ a.block))
    case first =>
      set_option maxRecDepth 100000 in
      go_region_held3 (fun w' => w'.cell? ⟨w2.heap.size, 0, none⟩ = some (.slice A6 n6 c6) ∧ w'.cell? ⟨w2.heap.size, 1, none⟩ = some (.bool b6) ∧ w'.cell? ⟨w.heap.size, 2, none⟩ = some (.slice H nb e) ∧ w'.cell? ⟨w.heap.size + 1, 2, none⟩ = some (.slice K nc m))
        (first | exact HKE.out _ b11_ | exact HKE.out _ b10_ | exact HKE.out _ b9_ | exact HKE.out _ (((b11_.setCell (by first | exact HZQ.out | omega) _).setCell (by first | exact HZQ.out | omega) _).setCell (by first | exact HZQ.out | omega) _) | exact HKE.out _ (b11_.trans (((Below.refl _ _).alloc (Nat.le_refl _) _).mono b11_.size)) | exact HKE.out _ (b10_.trans (((Below.refl _ _).alloc (Nat.le_refl _) _).mono b10_.size)) | exact HKE.out _ (b9_.trans (((Below.refl _ _).alloc (Nat.le_refl _) _).mono b9_.size)) | exact HKE.out _ (below_drew (Below.refl _ _)) | exact HKE.out _ (Below.refl _ _) | exact HKE.out _ ((Below.refl _ _).alloc (Nat.le_refl _) _) | exact HKE.out _ (below_drew ((Below.refl _ _).alloc (Nat.le_refl _) _)) | go_keep)
        (first
          | (go_at_call 44; with_reducible refine (HGS.out A10 e10 _ (b10_.trans (((Below.refl w10.heap.size w10).alloc (Nat.le_refl _) (regObj none 0 0 false none 0 0)).mono b10_.size)) (HR10.out.keep ((Below.refl w10.heap.size w10).alloc (Nat.le_refl _) (regObj none 0 0 false none 0 0)))).mono ?_; intro en w11 hh; unfold GivesGR at hh; obtain ⟨K11, ol11, f11, rfl, hr11, hb11, hf11, hf12⟩ := hh
             rw [← HN6.out]
             have b11_ : Below V2.heap.size V2 w11 := (b10_.trans (((Below.refl w10.heap.size w10).alloc (Nat.le_refl _) (regObj none 0 0 false none 0 0)).mono b10_.size)).trans (hb11.mono (Nat.le_trans b10_.size (by simp)))
             have HZ11 := Lib.hid ((ZB.new w10).keep hb11)
             have HZQ : Hid (V2.heap.size ≤ w10.heap.size) := Lib.hid b10_.size
             have HZH : Hid (∀ a, K11 = some a → a.block ≠ w10.heap.size) := Lib.hid fun a ha e9 => by have h1 := (hf11 a ha).1; simp at h1; omega
             have HZL : Hid (∀ x ∈ ol11, ∀ a, x.A = some a → a.block ≠ w10.heap.size) := Lib.hid fun x hx a ha e9 => by have h1 := (hf12 x hx a ha).1; simp at h1; omega
             have HZA : Hid (∀ y ∈ adr A6 xs6, ∀ a, y = some a → a.block ≠ w10.heap.size) := Lib.hid fun y hy a ha e9 => by have h1 := HA6.out y hy a ha; have h2 := b10_.size; omega
             have HR11 := Lib.hid hr11
             have HF11 : Hid (∀ a, K11 = some a → V2.heap.size ≤ a.block) := Lib.hid fun a ha => Nat.le_trans b10_.size (Nat.le_trans (by first | exact Nat.le_refl _ | simp) (hf11 a ha).1)
             have HF12 : Hid (∀ x ∈ ol11, ∀ a, x.A = some a → V2.heap.size ≤ a.block) := Lib.hid fun x hx a ha => Nat.le_trans b10_.size (Nat.le_trans (by first | exact Nat.le_refl _ | simp) (hf12 x hx a ha).1)
             try obtain ⟨k0, k1, k2, k3, kl⟩ := HZ11.out
             try have k4 := k3 0
             try have k5 := k3 1
             try have k6 := k3 2
             clear hr11 hb11 hf11 hf12)
          | (go_at_call 44; with_reducible refine (HGS.out A10 e10 _ b10_ HR10.out).mono ?_; intro en w11 hh; unfold GivesGR at hh; obtain ⟨K11, ol11, f11, rfl, hr11, hb11, hf11, hf12⟩ := hh
             rw [← HN6.out]
             have b11_ : Below V2.heap.size V2 w11 := b10_.trans (hb11.mono b10_.size)
             try have HZ11 := Lib.hid (HZ10.out.keep hb11)
             try have HZH := Lib.hid (zb_fresh HZ10.out hf11)
             try have HZL := Lib.hid (zb_freshL HZ10.out hf12)
             have HR11 := Lib.hid hr11
             have HF11 : Hid (∀ a, K11 = some a → V2.heap.size ≤ a.block) := Lib.hid fun a ha => Nat.le_trans b10_.size (Nat.le_trans (by first | exact Nat.le_refl _ | simp) (hf11 a ha).1)
             have HF12 : Hid (∀ x ∈ ol11, ∀ a, x.A = some a → V2.heap.size ≤ a.block) := Lib.hid fun x hx a ha => Nat.le_trans b10_.size (Nat.le_trans (by first | exact Nat.le_refl _ | simp) (hf12 x hx a ha).1)
             try obtain ⟨k0, k1, k2, k3, kl⟩ := HZ11.out
             try have k4 := k3 0
             try have k5 := k3 1
             try have k6 := k3 2
             clear hr11 hb11 hf11 hf12)
          | (refine step_append_pt rfl _ _ rfl V2.heap.size (.slice A9 nb e9) bl (by rfl) (HO9.out.below ((Below.refl w9.heap.size w9).alloc (Nat.le_refl _) (regObj none 0 0 false none 0 0))) K cl nc m HNC.out (by rfl) (HRC.out _ (b9_.trans (((Below.refl w9.heap.size w9).alloc (Nat.le_refl _) (regObj none 0 0 false none 0 0)).mono b9_.size))) (fun x hx y hy a ha => ⟨fun h9 => by have h1 := HAXC.out x hx y hy a ha; have h2 := (HO9.out.lt _ h9).1; omega, by have h1 := HAXC.out x hx y hy a ha; have h2 := b9_.size; simp; omega⟩) (by have := HLN.out; simp; omega) (by have h2 := b9_.size; simp; omega) ?_
             intro v10 w10 hown10 hb10 hg10
             have b10_ : Below V2.heap.size V2 w10 := (b9_.trans (((Below.refl w9.heap.size w9).alloc (Nat.le_refl _) (regObj none 0 0 false none 0 0)).mono b9_.size)).trans hb10
             have HZ10 := Lib.hid ((ZB.new w9).grow hg10 (fun h9 => by have h2 := (HO9.out.lt _ h9).2; omega))
             have HZQ : Hid (V2.heap.size ≤ w9.heap.size) := Lib.hid b9_.size
             have HZA : Hid (∀ y ∈ adr A6 xs6, ∀ a, y = some a → a.block ≠ w9.heap.size) := Lib.hid fun y hy a ha e9 => by have h1 := HA6.out y hy a ha; have h2 := b9_.size; omega
             obtain ⟨A10, e10, hfv10, _⟩ := hown10.form
             have HR10 := Lib.hid (show RdB w10 A10 (bl ++ cl) e10 from by rw [hfv10] at hown10; exact hown10.rdB)
             rw [List.length_append, ← HNB.out, ← HNC.out] at hfv10
             subst hfv10
             clear hown10 hb10 hg10)
          | (refine step_append_pt rfl _ _ rfl V2.heap.size (.slice A9 nb e9) bl (by rfl) HO9.out K cl nc m HNC.out (by rfl) (HRC.out _ b9_) (fun x hx y hy a ha => ⟨fun h9 => by have h1 := HAXC.out x hx y hy a ha; have h2 := (HO9.out.lt _ h9).1; omega, by have h1 := HAXC.out x hx y hy a ha; have h2 := b9_.size; simp; omega⟩) (by have := HLN.out; simp; omega) (by have h2 := b9_.size; simp; omega) ?_
             intro v10 w10 hown10 hb10 hg10
             have b10_ : Below V2.heap.size V2 w10 := b9_.trans hb10
             try have HZ10 := Lib.hid (HZ.out.grow hg10 (fun h9 => by have h2 := (HOA.out.lt _ h9).1; omega))
             obtain ⟨A10, e10, hfv10, _⟩ := hown10.form
             have HR10 := Lib.hid (show RdB w10 A10 (bl ++ cl) e10 from by rw [hfv10] at hown10; exact hown10.rdB)
             rw [List.length_append, ← HNB.out, ← HNC.out] at hfv10
             subst hfv10
             clear hown10 hb10 hg10)
          | (refine step_append_pt rfl _ _ rfl (V2.heap.size + 1) (.slice none 0 0) [] (by rfl) (OwnP.empty _ _) H bl nb e HNB.out (by rfl) (HRB.out _ (below_drew ((Below.refl _ _).alloc (Nat.le_refl _) (regObj none 0 0 false none 0 0)))) (fun x hx y hy a ha => ⟨by simp [Value.ownBlock], Nat.lt_of_lt_of_le (HAXB.out x hx y hy a ha) (by simp)⟩) (by have := HLN.out; simp; omega) (by simp) ?_
             intro v9 w9 hown9 hb9 hg9
             rw [List.nil_append] at hown9
             obtain ⟨A9, e9, hfv9, _⟩ := hown9.form
             rw [← HNB.out] at hfv9
             subst hfv9
             have b9_ : Below V2.heap.size V2 w9 := (below_drew ((Below.refl _ _).alloc (Nat.le_refl _) (regObj none 0 0 false none 0 0))).trans (hb9.mono (Nat.le_succ _))
             have HOA := Lib.hid hown9
             have HO9 := Lib.hid (hown9.more (Nat.le_succ _))
             have HZ := Lib.hid (((ZB.new V2).keep (below_drew (Below.refl _ _))).grow hg9 (by simp [Value.ownBlock]))
             have HZQ : Hid (V2.heap.size ≤ V2.heap.size) := Lib.hid (Nat.le_refl _)
             have HZA : Hid (∀ y ∈ adr A6 xs6, ∀ a, y = some a → a.block ≠ V2.heap.size) := Lib.hid fun y hy a ha e9 => by have h1 := HA6.out y hy a ha; omega
             clear hown9 hb9 hg9)
          | (refine step_append_pt rfl _ _ rfl V2.heap.size (.slice none 0 0) [] (by rfl) (OwnP.empty _ _) H bl nb e HNB.out (by rfl) (HRB.out _ (below_drew (Below.refl _ _))) (fun x hx y hy a ha => ⟨by simp [Value.ownBlock], Nat.lt_of_lt_of_le (HAXB.out x hx y hy a ha) (by simp)⟩) (by have := HLN.out; simp; omega) (by simp) ?_
             intro v9 w9 hown9 hb9 hg9
             rw [List.nil_append] at hown9
             obtain ⟨A9, e9, hfv9, _⟩ := hown9.form
             rw [← HNB.out] at hfv9
             subst hfv9
             have b9_ : Below V2.heap.size V2 w9 := (below_drew (Below.refl _ _)).trans hb9
             have HO9 := Lib.hid hown9
             clear hown9 hb9 hg9))
      all_goals (go_wp2_with fail; go_meet)
      all_goals first
        | exact ⟨w11.heap.size, K11, ol11.length, f11, rfl, by simpa using GBox.new w11 A6 n6 c6 b6 K11 ol11.length f11, b11_.trans (((Below.refl _ _).alloc (Nat.le_refl _) _).mono b11_.size), ol11, rfl, HR11.out.keep ((Below.refl _ _).alloc (Nat.le_refl _) _), HF11.out, HF12.out⟩
        | (obtain ⟨q1, q2, q3⟩ := zb_store (V := V2) (n := n6) (m := ol11.length) b11_ HZQ.out HZ11.out HR11.out HZA.out HZH.out HZL.out HN6.out rfl rfl
           exact ⟨_, K11, ol11.length, f11, rfl, q1, q2, ol11, rfl, q3, HF11.out, HF12.out⟩)
    case rest =>
      obtain ⟨q, K7, n7, f7, rfl, hgb, hb7, HA7⟩ := hcut
      obtain ⟨ol, hn7, hr7, hf7, hf8⟩ := HA7.out
      have HF7 := Lib.hid hf7
      have HF8 := Lib.hid hf8
      have hxc := HX3.out.trans (hb7.mono HX3.out.size)
      have HXC := Lib.hid hxc
      have HR7 := Lib.hid hr7
      have HN7 := Lib.hid hn7
      have hl7 : n7 = R0.holes.length := by rw [hn7]; exact (reg_len hr7).symm
      have HL7 := Lib.hid hl7
      have hCB : R0.base = C := by rw [HR0.out]; rfl
      have hCH : ∀ x ∈ R0.holes, Pt.check x = 0 := by
        rw [HR0.out]
        exact fun x hx => (Pt.Rg.simp_holes (Pt.Rg.simpL_is C (g.holes ++ h.holes)) x hx).1
      have HLE := Lib.hid (fun (w' : World) (hb : Below wc.heap.size wc w') => length_any A6 xs6 c6 b6 K7 ol f7 R0 w' (hr7.keep hb) (by rw [hCB]; exact HCC.out) hCH)
      have HGK := Lib.hid (fun (w' : World) (hb : Below wc.heap.size wc w') => hgb.keep hb)
      have hmv : mr = if R0.holes.length ≤ 64 then (if R0.empty then none else some R0, 0) else (none, 52) := by
        rw [HMR.out, HMV.out, HOM.out, HR0.out]
      have HMV2 := Lib.hid hmv
      have HEM : Hid (R0.empty = (Pt.Rg.lenN R0.base R0.holes).isNone) := Lib.hid rfl
      have hlo : ∀ k, Pt.Rg.lenN R0.base R0.holes = some k → 0 < k := by
        intro k hk
        have h1 := lenN_at3 hk
        have := Pt.Rg.fits_two (by rw [hCB]; exact HCC.out) h1
        omega
      have HLO := Lib.hid hlo
      rw [← HN6.out, ← HN7.out] at HLE
      generalize hln : Pt.Rg.lenN R0.base R0.holes = lo at HLE
      have HLN2 := Lib.hid hln
      obtain ⟨z0, z1, z2, zl⟩ := HB2.out _ hxc
      have y0 := HFZ.out _ hxc 0
      have y1 := HFZ.out _ hxc 1
      have y2 := HFZ.out _ hxc 2
      obtain ⟨k0, k1, k2, kl⟩ := hgb
      clear hb7 hr7 hn7 hf7 hf8 hxc hl7 hCB hCH hmv hlo hln d0 d1 d2 d3 HA7
      by_cases h64 : n7 ≤ 64
      rotate_left
      · have i1 : (64 : Int) < (n7 : Int) := by omega
        have hv : mr = (none, 52) := by rw [HMV2.out, if_neg (by rw [← HL7.out]; exact h64)]
        subst hv
        clear h64
        go_wp2
        refine bodyPost_ret (v := .tuple #[regV none 0 0 false none 0 0, .bool false, .int .i64 52]) (by simp [results, Tryz.results16, go_sem, z0, z1, z2, regV]) rfl ⟨none, [], 0, false, none, [], 0, rfl, RdB_nil_reg _, ?_⟩
        exact box_three (q := w.heap.size + 1 + 1) (HAL.out.trans (HXC.out.mono HAL.out.size)) (by omega) (HB2.out _ HXC.out) _ _ _ rfl
      have i1 : ¬ (64 : Int) < (n7 : Int) := by omega
      have hv64 : mr = (if R0.empty then none else some R0, 0) := by rw [HMV2.out, if_pos (by rw [← HL7.out]; exact h64)]
      have HV64 := Lib.hid hv64
      clear h64 hv64
      go_wp2_with fail
      with_reducible refine (HLE.out _ (Below.refl _ _)).mono ?_
      rintro en w9 ⟨rfl, hb9⟩
      have hx9 := HXC.out.trans (hb9.mono HXC.out.size)
      have HX9 := Lib.hid hx9
      have HB9 := Lib.hid hb9
      clear z0 z1 z2 zl y0 y1 y2 k0 k1 k2 kl
      obtain ⟨z0, z1, z2, zl⟩ := HB2.out _ hx9
      have y0 := HFZ.out _ hx9 0
      have y1 := HFZ.out _ hx9 1
      have y2 := HFZ.out _ hx9 2
      obtain ⟨k0, k1, k2, kl⟩ := HGK.out _ hb9
      clear hb9 hx9
      cases lo with
      | none =>
        have hv : mr = (none, 0) := by rw [HV64.out, HEM.out, HLN2.out]; rfl
        subst hv
        go_wp2
        refine bodyPost_ret (v := .tuple #[regV none 0 0 false none 0 0, .bool false, .int .i64 0]) (by simp [results, Tryz.results16, go_sem, z0, z1, z2, regV]) rfl ⟨none, [], 0, false, none, [], 0, rfl, RdB_nil_reg _, ?_⟩
        exact box_three (q := w.heap.size + 1 + 1) (HAL.out.trans (HX9.out.mono HAL.out.size)) (by omega) (HB2.out _ HX9.out) _ _ _ rfl
      | some k =>
        have hv : mr = (some R0, 0) := by rw [HV64.out, HEM.out, HLN2.out]; rfl
        subst hv
        have hk0 := HLO.out k HLN2.out
        have i2 : ((k : Int) == 0) = false := by rw [beq_eq_false_iff_ne]; omega
        have i3 : ¬ (k : Int) = 0 := by omega
        have HRG : Hid (RegR w9 A6 xs6 c6 b6 K7 ol f7 R0) := Lib.hid (HR7.out.keep HB9.out)
        have HQ : Hid (w.heap.size + 1 + 1 < V2.heap.size) := Lib.hid (Nat.lt_of_lt_of_le HSZ0.out HX3.out.size)
        clear hk0
        simp only [Option.getD_some]
        go_wp2
        refine bodyPost_ret (v := .tuple #[regV A6 n6 c6 b6 K7 n7 f7, .bool true, .int .i64 0]) (by simp [results, Tryz.results16, go_sem, z0, z1, z2, regV]) rfl ?_
        obtain ⟨w10, hw10⟩ : ∃ w10, w10 = ((w9.setCell ⟨w.heap.size + 1 + 1, 0, none⟩ (.slice A6 n6 c6)).setCell ⟨w.heap.size + 1 + 1, 1, none⟩ (.bool b6)).setCell ⟨w.heap.size + 1 + 1, 2, none⟩ (.slice K7 n7 f7) := ⟨_, rfl⟩
        have hg : w9.grownBy w10 (some (w.heap.size + 1 + 1)) := by
          rw [hw10]
          exact ((grown_set _ _ _ _).trans (grown_set _ _ _ _)).trans (grown_set _ _ _ _)
        have hQ := HQ.out
        have hrr := HRG.out.off hg (fun y hy a ha => by have := HA6L.out y hy a ha; omega) (fun a ha => by have := HF7.out a ha; omega) (fun x hx a ha => by have := HF8.out x hx a ha; omega)
        have hbe := box_three (q := w.heap.size + 1 + 1) (HAL.out.trans (HX9.out.mono HAL.out.size)) (by omega) (HB2.out _ HX9.out) (.slice A6 n6 c6) (.bool b6) (.slice K7 n7 f7) hw10
        rw [HN6.out, HN7.out] at hw10
        rw [HN6.out, HN7.out]
        subst hw10
        exact ⟨A6, xs6, c6, b6, K7, ol, f7, rfl, hrr, hbe⟩
end Go.Proofs.YtembmegllpkmfaaGreatDoor
