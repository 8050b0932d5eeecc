/- region.Meet. -/
import Derived.Test.YtembmegllpkmfaaGreatDoorRegWith
import Derived.Test.YtembmegllpkmfaaGreatDoorConc
namespace Go.Proofs.YtembmegllpkmfaaGreatDoor
open Go.RowKit
set_option linter.unusedVariables false
def GivesMt (w : World) (o : Option Pt.Rg.Reg) (n : Nat) (e : Ending) (w' : World) : Prop :=
  match o with
  | none => e = .returned (.tuple #[regV none 0 0 false none 0 0, .bool false, .int .i64 (n : Int)]) ∧ Below w.heap.size w w'
  | some g => ∃ A xs c b H bl f, e = .returned (.tuple #[regV A (List.length xs) c b H (List.length bl) f, .bool true, .int .i64 (n : Int)]) ∧ RegR w' A xs c b H bl f g ∧ Below w.heap.size w w' ∧ FreshV w w' ⟨A, xs, c, b, H, bl, f⟩
theorem szG_two {K : Nat} {a b : Pt.Rg.Reg} {B : Pt.Pat} (ha : SzG K a) (hb : SzG K b) (h : Pt.meet a.base b.base = some B) : SzG K ⟨B, a.holes ++ b.holes⟩ := by
  refine ⟨Pt.meet_sizes ha.1 hb.1 h, fun x hx => ?_⟩
  rcases List.mem_append.1 hx with hx | hx
  · exact ha.2 x hx
  · exact hb.2 x hx
theorem meetR_bad {a b : Pt.Rg.Reg} {k : Nat} (hk : orN (Pt.Rg.gcheck a) (Pt.Rg.gcheck b) = k) (h : k ≠ 0) : Pt.Rg.meetR a b = (none, k) := by
  unfold orN at hk
  unfold Pt.Rg.meetR
  by_cases h1 : Pt.Rg.gcheck a = 0
  · rw [if_pos h1] at hk ⊢
    rw [if_neg (by omega), hk]
  · rw [if_neg h1] at hk ⊢
    rw [hk]
theorem orN_zero {x y : Nat} (h : orN x y = 0) : x = 0 ∧ y = 0 := by
  unfold orN at h
  split at h <;> omega
theorem box_three {w w1 w2 : World} {q : Nat} {A : Option Addr} {n c : Nat} {b : Bool} {H : Option Addr} {m e : Nat} (hb : Below w.heap.size w w1) (hq : w.heap.size ≤ q) (hz : GBox w1 q A n c b H m e)
    (u0 u1 u2 : Value) (hw : w2 = ((w1.setCell ⟨q, 0, none⟩ u0).setCell ⟨q, 1, none⟩ u1).setCell ⟨q, 2, none⟩ u2) : Below w.heap.size w w2 := by
  rw [hw]
  exact ((hb.setCell (p := ⟨q, 0, none⟩) hq _).setCell (p := ⟨q, 1, none⟩) hq _).setCell (p := ⟨q, 2, none⟩) hq _
theorem OwnP.offside {w w' : World} {base q : Nat} {v : Value} {l : List BindV} (h : OwnP w base v l) (hg : w.grownBy w' (some q)) (hq : ∀ k, v.ownBlock = some k → k ≠ q) (hx : ∀ x ∈ l, ∀ y ∈ adr x.A x.xs, ∀ a, y = some a → a.block ≠ q) : OwnP w' base v l := by
  refine ⟨World.ownsRow.kept h.row hg ?_, fun x hxm => (h.parts x hxm).grownA hg fun y hy a e => ⟨fun e2 => ?_, (h.apart x hxm y hy a e).2⟩, fun x hxm y hy a e => ⟨(h.apart x hxm y hy a e).1, Nat.lt_of_lt_of_le (h.apart x hxm y hy a e).2 hg.size⟩⟩
  · cases hv : v.ownBlock with
    | none => exact .inl rfl
    | some k => exact .inr fun e => by injection e with e; exact hq k hv e
  · injection e2 with e2
    exact hx x hxm y hy a e e2.symm
theorem cut_store {V w5 w9 : World} {q base n c m e : Nat} {A H : Option Addr} {b : Bool} {u0 u1 u2 : Value} {l : List BindV} (hb : Below V.heap.size V w5) (hq : V.heap.size ≤ q) (hqb : q < base) (k0 : w5.cell? ⟨q, 0, none⟩ = some u0) (k1 : w5.cell? ⟨q, 1, none⟩ = some u1) (k2 : w5.cell? ⟨q, 2, none⟩ = some u2)
    (hown : OwnP w5 base (.slice H m e) l) (hx : ∀ x ∈ l, ∀ y ∈ adr x.A x.xs, ∀ a, y = some a → a.block < V.heap.size) (hw : w9 = ((w5.setCell ⟨q, 0, none⟩ (.slice A n c)).setCell ⟨q, 1, none⟩ (.bool b)).setCell ⟨q, 2, none⟩ (.slice H m e)) :
    GBox w9 q A n c b H m e ∧ Below V.heap.size V w9 ∧ OwnP w9 base (.slice H m e) l := by
  have hlt : q < w5.heap.size := World.block_lt_of_cell? w5 ⟨q, 0, none⟩ k0
  have hg : w5.grownBy w9 (some q) := by
    rw [hw]
    exact ((grown_set _ _ _ _).trans (grown_set _ _ _ _)).trans (grown_set _ _ _ _)
  refine ⟨⟨by rw [hw]; simp [go_sem, k0], by rw [hw]; simp [go_sem, k1], by rw [hw]; simp [go_sem, k2], Nat.lt_of_lt_of_le hlt hg.size⟩, hb.trans (below_row hg (fun k hk => by injection hk with hk; omega) hb.size), hown.offside hg (fun k hk => ?_) (fun x hxm y hy a ha => ?_)⟩
  · have := (hown.lt k hk).1
    omega
  · have := hx x hxm y hy a ha
    omega
set_option maxHeartbeats 16000000 in
theorem meet5_any (A B : Option Addr) (xs ys : List ByteArray) (c d : Nat) (b f : Bool) (H K : Option Addr) (bl cl : List BindV) (e m : Nat) (g h : Pt.Rg.Reg) (w : World) (hg : RegR w A xs c b H bl e g) (hh : RegR w B ys d f K cl m h) (sg : SzG 100000 g) (sh : SzG 100000 h) :
    Calls Tryz.prog 15 #[regV A xs.length c b H bl.length e, regV B ys.length d f K cl.length m] w (GivesMt w (Pt.Rg.meetR g h).1 (Pt.Rg.meetR g h).2) := by
  obtain ⟨W0, hW0⟩ : ∃ W0, W0 = ((w.alloc (regObj A xs.length c b H bl.length e)).alloc (regObj B ys.length d f K cl.length m)).alloc (regObj none 0 0 false none 0 0) := ⟨_, rfl⟩
  have hal : Below w.heap.size w W0 := by rw [hW0]; exact (((Below.refl _ _).alloc (Nat.le_refl _) _).alloc (by simp) _).alloc (by simp; omega) _
  have HAL := Lib.hid hal
  have hb0 : GBox W0 w.heap.size A xs.length c b H bl.length e := by rw [hW0]; exact (GBox.new ..).keep (((Below.refl _ _).alloc (Nat.le_refl _) _).alloc (by simp) _)
  have hb1 : GBox W0 (w.heap.size + 1) B ys.length d f K cl.length m := by
    have h := (GBox.new (w.alloc (regObj A xs.length c b H bl.length e)) B ys.length d f K cl.length m).keep ((Below.refl _ _).alloc (Nat.le_refl _) (regObj none 0 0 false none 0 0))
    rw [hW0]
    simpa using h
  have hb2 : GBox W0 (w.heap.size + 1 + 1) none 0 0 false none 0 0 := by
    have h := GBox.new ((w.alloc (regObj A xs.length c b H bl.length e)).alloc (regObj B ys.length d f K cl.length m)) none 0 0 false none 0 0
    rw [hW0]
    simpa using h
  have HB0 := Lib.hid (fun (w' : World) (hb : Below W0.heap.size W0 w') => hb0.keep hb)
  have HB1 := Lib.hid (fun (w' : World) (hb : Below W0.heap.size W0 w') => hb1.keep hb)
  have HB2 := Lib.hid (fun (w' : World) (hb : Below W0.heap.size W0 w') => hb2.keep hb)
  have HFZ0 : ∀ i, W0.frozen? ⟨w.heap.size + 1 + 1, i, none⟩ = false := fun i => by
    have h : ∀ X : World, (X.alloc (regObj none 0 0 false none 0 0)).frozen? ⟨X.heap.size, i, none⟩ = false := fun X => by simp [regObj]
    have h2 := h ((w.alloc (regObj A xs.length c b H bl.length e)).alloc (regObj B ys.length d f K cl.length m))
    rw [show ((w.alloc (regObj A xs.length c b H bl.length e)).alloc (regObj B ys.length d f K cl.length m)).heap.size = w.heap.size + 1 + 1 by simp] at h2
    rw [hW0]
    exact h2
  have HFZ := Lib.hid (fun (w' : World) (hb : Below W0.heap.size W0 w') (i : Nat) => (hb.frozen (p := ⟨w.heap.size + 1 + 1, i, none⟩) hb2.lt).trans (HFZ0 i))
  have hsz0 : w.heap.size + 1 + 1 < W0.heap.size := hb2.lt
  have HCK := Lib.hid (both_any A xs c b H bl e B ys d f K cl m g h W0 (hg.keep hal) (hh.keep hal))
  have HME := Lib.hid (fun (w' : World) (hb : Below W0.heap.size W0 w') => meetF_any A B xs ys c d b f g.base h.base w' ((hg.keep hal).keep hb).base ((hh.keep hal).keep hb).base)
  have HHL := Lib.hid (fun (w' : World) (hb : Below W0.heap.size W0 w') => ((hg.keep hal).keep hb).holes)
  have HKL := Lib.hid (fun (w' : World) (hb : Below W0.heap.size W0 w') => ((hh.keep hal).keep hb).holes)
  have HEQ : Hid (g.holes ++ h.holes = (bl ++ cl).map BindV.pat) := Lib.hid (by rw [List.map_append, hg.eq, hh.eq])
  have HL1 := Lib.hid (reg_len hg)
  have HL2 := Lib.hid (reg_len hh)
  have HSZ := Lib.hid (fun (C : Pt.Pat) (he : Pt.meet g.base h.base = some C) => (szG_two sg sh he).short (by decide))
  obtain ⟨mr, hmr⟩ : ∃ mr, mr = Pt.Rg.meetR g h := ⟨_, rfl⟩
  rw [← hmr]
  have HMR := Lib.hid hmr
  generalize hk : orN (Pt.Rg.gcheck g) (Pt.Rg.gcheck h) = k at HCK
  by_cases hk0 : k = 0
  rotate_left
  · have hv := HMR.out.trans (meetR_bad hk hk0)
    subst hv
    have i1 : ((k : Int) == 0) = false := by rw [beq_eq_false_iff_ne]; omega
    have i2 : ((k : Int) != 0) = true := by rw [bne, i1]; rfl
    generalize xs.length = nx at *
    generalize ys.length = ny at *
    generalize bl.length = nb at *
    generalize cl.length = nc at *
    obtain ⟨t0, t1, t2, tl⟩ := hb0
    obtain ⟨s0, s1, s2, sl⟩ := hb1
    clear hg hh hal hb2 sg sh hk hk0 HFZ0
    subst hW0
    go_enter Tryz.func15, Tryz.ntmps15
    go_wp2_with fail
    with_reducible refine HCK.out.mono ?_
    rintro en w1 ⟨rfl, hb1⟩
    have HX1 := Lib.hid hb1
    obtain ⟨z0, z1, z2, zl⟩ := HB2.out _ hb1
    have y0 := HFZ.out _ hb1 0
    have y1 := HFZ.out _ hb1 1
    have y2 := HFZ.out _ hb1 2
    clear hb1 t0 t1 t2 tl s0 s1 s2 sl
    go_wp2
    refine bodyPost_ret (v := .tuple #[regV none 0 0 false none 0 0, .bool false, .int .i64 (k : Int)]) (by simp [results, Tryz.results15, go_sem, z0, z1, z2, regV]) rfl ⟨rfl, ?_⟩
    exact box_three (q := w.heap.size + 1 + 1) (HAL.out.trans (HX1.out.mono HAL.out.size)) (by omega) (HB2.out _ HX1.out) _ _ _ rfl
  subst hk0
  obtain ⟨ka, kb⟩ := orN_zero hk
  obtain ⟨ga1, ga2, ga3⟩ := Pt.Rg.gcheck_zero.1 ka
  obtain ⟨gb1, gb2, gb3⟩ := Pt.Rg.gcheck_zero.1 kb
  have hmv : Pt.Rg.meetR g h = match Pt.meet g.base h.base with
    | none => (none, 0)
    | some C => match Pt.Rg.withP [⟨C, g.holes ++ h.holes⟩] with
      | none => (none, 52)
      | some l => (l.head?, 0) := by
    unfold Pt.Rg.meetR
    rw [if_pos ka, if_pos kb]
    cases Pt.meet g.base h.base with
    | none => rfl
    | some C => simp only; cases Pt.Rg.withP [⟨C, g.holes ++ h.holes⟩] <;> rfl
  have HMV := Lib.hid hmv
  have HN : Hid (bl.length + cl.length ≤ 1000) := Lib.hid (by rw [← reg_len hg, ← reg_len hh]; omega)
  clear hmv hk ka kb
  generalize hme : Pt.meet g.base h.base = om at HME
  have HOM := Lib.hid hme
  obtain ⟨nx, hnx⟩ : ∃ n, n = xs.length := ⟨_, rfl⟩
  obtain ⟨ny, hny⟩ : ∃ n, n = ys.length := ⟨_, rfl⟩
  obtain ⟨nb, hnb⟩ : ∃ n, n = bl.length := ⟨_, rfl⟩
  obtain ⟨nc, hnc⟩ : ∃ n, n = cl.length := ⟨_, rfl⟩
  have HNB := Lib.hid hnb
  have HNC := Lib.hid hnc
  rw [← hnx, ← hnb] at hW0 hb0 HB0
  rw [← hny, ← hnc] at hW0 hb1 HB1
  rw [← hnx, ← hny] at HME
  rw [← hnx, ← hny, ← hnb, ← hnc] at HCK ⊢
  clear hnx hny hnb hnc hme
  obtain ⟨t0, t1, t2, tl⟩ := hb0
  obtain ⟨s0, s1, s2, sl⟩ := hb1
  clear hg hh hal hb2 sg sh HFZ0 ga1 ga2 ga3 gb1 gb2 gb3
  have hW0' := hW0
  have HW0 := Lib.hid hW0'
  clear hW0'
  subst hW0
  go_enter Tryz.func15, Tryz.ntmps15
  go_wp2_with fail
  with_reducible refine HCK.out.mono ?_
  rintro en w1 ⟨rfl, hb1⟩
  have HX1 := Lib.hid hb1
  obtain ⟨t01, t11, t21, tl1⟩ := HB0.out _ hb1
  obtain ⟨s01, s11, s21, sl1⟩ := HB1.out _ hb1
  have HC1 := Lib.hid (HME.out _ hb1)
  clear hb1 t0 t1 t2 tl s0 s1 s2 sl
  go_wp2_with fail
  with_reducible refine HC1.out.mono ?_
  intro en w2 hh
  obtain ⟨A6, xs6, c6, b6, rfl, hp6, hb2, hf6⟩ := hh
  have HX2 := Lib.hid (HX1.out.trans (hb2.mono HX1.out.size))
  have HF6 := Lib.hid hf6
  have HP6 := Lib.hid hp6
  have hs1 := HX1.out.size
  have HS12 := Lib.hid hb2.size
  clear t01 t11 t21 tl1 s01 s11 s21 sl1 hb2 hp6 hf6
  obtain ⟨W2, hW2⟩ : ∃ W2, W2 = w2.alloc (.cells #[.slice A6 xs6.length c6, .bool b6] 24) := ⟨_, rfl⟩
  have hal2 : Below w2.heap.size w2 W2 := by rw [hW2]; exact (Below.refl _ _).alloc (Nat.le_refl _) _
  have hX3 := HX2.out.trans (hal2.mono HX2.out.size)
  have HX3 := Lib.hid hX3
  have hpb : PBox W2 w2.heap.size A6 xs6.length c6 b6 := by rw [hW2]; exact PBox.new ..
  have HPB := Lib.hid (fun (w' : World) (hb : Below W2.heap.size W2 w') => hpb.keep hb)
  have HAL2 := Lib.hid hal2
  go_upto_region 5 with fail
  generalize hwg : w2.alloc (.cells #[.slice A6 xs6.length c6, .bool b6] 24) = V2
  have hWW : V2 = W2 := hwg.symm.trans hW2.symm
  subst hWW
  clear hwg hW2
  cases om with
  | none =>
    have hv : mr = (none, 0) := by rw [HMR.out, HMV.out, HOM.out]
    subst hv
    obtain ⟨z0, z1, z2, zl⟩ := HB2.out _ hX3
    have y0 := HFZ.out _ hX3 0
    have y1 := HFZ.out _ hX3 1
    have y2 := HFZ.out _ hX3 2
    clear hal2 hX3 hpb
    go_wp2
    refine bodyPost_ret (v := .tuple #[regV none 0 0 false none 0 0, .bool false, .int .i64 0]) (by simp [results, Tryz.results15, go_sem, z0, z1, z2, regV]) rfl ⟨rfl, ?_⟩
    have hx := HAL.out.trans (HX3.out.mono HAL.out.size)
    exact box_three (q := w.heap.size + 1 + 1) hx (by omega) (HB2.out _ HX3.out) _ _ _ rfl
  | some C =>
    have HP2 := Lib.hid (fun (w' : World) (hb : Below V2.heap.size V2 w') => ((show PatR w2 A6 xs6 c6 b6 C from HP6.out).keep hal2).keep hb)
    have HF62 : Hid (FreshA w V2 A6) := Lib.hid fun a ha => ⟨Nat.le_trans HAL.out.size (Nat.le_trans HX1.out.size (HF6.out a ha).1), Nat.lt_of_lt_of_le (HF6.out a ha).2 hal2.size⟩
    have HKE := Lib.hid (fun (w' : World) (hb : Below V2.heap.size V2 w') => show w'.cell? ⟨w2.heap.size, 0, none⟩ = some (.slice A6 xs6.length c6) ∧ w'.cell? ⟨w2.heap.size, 1, none⟩ = some (.bool b6) ∧ w'.cell? ⟨w.heap.size, 2, none⟩ = some (.slice H nb e) ∧ w'.cell? ⟨w.heap.size + 1, 2, none⟩ = some (.slice K nc m) from
      ⟨(HPB.out w' hb).c0, (HPB.out w' hb).c1, (HB0.out w' (HX3.out.trans (hb.mono HX3.out.size))).c2, (HB1.out w' (HX3.out.trans (hb.mono HX3.out.size))).c2⟩)
    have HCG := fun (U : World) (r : Nat) (hb : Below V2.heap.size V2 U) (r0 : U.cell? ⟨r, 0, none⟩ = some (.slice H nb e)) (r1 : U.cell? ⟨r, 1, none⟩ = some (.slice K nc m)) (hr : r < U.heap.size) => show Calls Tryz.prog 41 #[.slice (some ⟨r, 0, none⟩) 2 2] U (fun en w' => ∃ A c, en = .returned (.slice A (bl ++ cl).length c) ∧ OwnP w' U.heap.size (.slice A (bl ++ cl).length c) (bl ++ cl) ∧ Below U.heap.size U w') from
      concat_any r H K bl cl e m U (by rw [← HNB.out]; exact r0) (by rw [← HNC.out]; exact r1) hr (HHL.out _ (HX3.out.trans (hb.mono HX3.out.size))) (HKL.out _ (HX3.out.trans (hb.mono HX3.out.size))) (by have := HN.out; omega)
    have hbx3 : ∀ X : World, (X.alloc (regObj none 0 0 false none 0 0)).cell? ⟨X.heap.size, 0, none⟩ = some (.slice none 0 0) ∧ (X.alloc (regObj none 0 0 false none 0 0)).cell? ⟨X.heap.size, 1, none⟩ = some (.bool false) ∧ (X.alloc (regObj none 0 0 false none 0 0)).cell? ⟨X.heap.size, 2, none⟩ = some (.slice none 0 0) ∧ ∀ i, (X.alloc (regObj none 0 0 false none 0 0)).frozen? ⟨X.heap.size, i, none⟩ = false := fun X =>
      ⟨cells_new X _ _ 0 _ rfl, cells_new X _ _ 1 _ rfl, cells_new X _ _ 2 _ rfl, fun i => by simp [regObj]⟩
    have hrow : ∀ X : World, (X.alloc (.cells #[.slice H nb e, .slice K nc m] 25)).cell? ⟨X.heap.size, 0, none⟩ = some (.slice H nb e) ∧ (X.alloc (.cells #[.slice H nb e, .slice K nc m] 25)).cell? ⟨X.heap.size, 1, none⟩ = some (.slice K nc m) := fun X => ⟨cells_new X _ _ 0 _ rfl, cells_new X _ _ 1 _ rfl⟩
    obtain ⟨U0, hU0⟩ : ∃ U, U = (V2.alloc (.cells #[.slice H nb e, .slice K nc m] 25)).drew := ⟨_, rfl⟩
    obtain ⟨UA, hUA⟩ : ∃ U, U = ((V2.alloc (.cells #[.slice H nb e, .slice K nc m] 25)).alloc (regObj none 0 0 false none 0 0)).drew := ⟨_, rfl⟩
    obtain ⟨UB, hUB⟩ : ∃ U, U = ((V2.alloc (regObj none 0 0 false none 0 0)).alloc (.cells #[.slice H nb e, .slice K nc m] 25)).drew := ⟨_, rfl⟩
    have R0 : Hid (Below V2.heap.size V2 U0) := Lib.hid (by rw [hU0]; exact below_drew ((Below.refl _ _).alloc (Nat.le_refl _) _))
    have RA : Hid (Below V2.heap.size V2 UA) := Lib.hid (by rw [hUA]; exact below_drew (((Below.refl _ _).alloc (Nat.le_refl _) _).alloc (by simp) _))
    have RB : Hid (Below V2.heap.size V2 UB) := Lib.hid (by rw [hUB]; exact below_drew (((Below.refl _ _).alloc (Nat.le_refl _) _).alloc (by simp) _))
    have Z0 : Hid (U0.heap.size = V2.heap.size + 1) := Lib.hid (by rw [hU0]; simp)
    have ZA : Hid (UA.heap.size = V2.heap.size + 1 + 1) := Lib.hid (by rw [hUA]; simp)
    have ZB' : Hid (UB.heap.size = V2.heap.size + 1 + 1) := Lib.hid (by rw [hUB]; simp)
    have hv1 : (V2.alloc (.cells #[.slice H nb e, .slice K nc m] 25)).heap.size = V2.heap.size + 1 := by simp
    have hv2 : (V2.alloc (regObj none 0 0 false none 0 0)).heap.size = V2.heap.size + 1 := by simp
    have hra := hrow V2
    have hrb := hrow (V2.alloc (regObj none 0 0 false none 0 0))
    have hba := hbx3 (V2.alloc (.cells #[.slice H nb e, .slice K nc m] 25))
    have hbb := hbx3 V2
    rw [hv1] at hba
    rw [hv2] at hrb
    have hkA : Below (V2.alloc (.cells #[.slice H nb e, .slice K nc m] 25)).heap.size (V2.alloc (.cells #[.slice H nb e, .slice K nc m] 25)) UA := by rw [hUA]; exact below_drew ((Below.refl _ _).alloc (Nat.le_refl _) _)
    have hkB : Below (V2.alloc (regObj none 0 0 false none 0 0)).heap.size (V2.alloc (regObj none 0 0 false none 0 0)) UB := by rw [hUB]; exact below_drew ((Below.refl _ _).alloc (Nat.le_refl _) _)
    have HC0 := Lib.hid (HCG U0 V2.heap.size R0.out (by rw [hU0]; exact hra.1) (by rw [hU0]; exact hra.2) (by have := Z0.out; omega))
    have HCA := Lib.hid (HCG UA V2.heap.size RA.out ((hkA.cell (p := ⟨V2.heap.size, 0, none⟩) (by rw [hv1]; exact Nat.lt_succ_self _)).trans hra.1) ((hkA.cell (p := ⟨V2.heap.size, 1, none⟩) (by rw [hv1]; exact Nat.lt_succ_self _)).trans hra.2) (by have := ZA.out; omega))
    have HCB := Lib.hid (HCG UB (V2.heap.size + 1) RB.out (by rw [hUB]; exact hrb.1) (by rw [hUB]; exact hrb.2) (by have := ZB'.out; omega))
    have BA : Hid (UA.cell? ⟨V2.heap.size + 1, 0, none⟩ = some (.slice none 0 0) ∧ UA.cell? ⟨V2.heap.size + 1, 1, none⟩ = some (.bool false) ∧ UA.cell? ⟨V2.heap.size + 1, 2, none⟩ = some (.slice none 0 0) ∧ ∀ i, UA.frozen? ⟨V2.heap.size + 1, i, none⟩ = false) := Lib.hid (by rw [hUA]; exact hba)
    have BB : Hid (UB.cell? ⟨V2.heap.size, 0, none⟩ = some (.slice none 0 0) ∧ UB.cell? ⟨V2.heap.size, 1, none⟩ = some (.bool false) ∧ UB.cell? ⟨V2.heap.size, 2, none⟩ = some (.slice none 0 0) ∧ ∀ i, UB.frozen? ⟨V2.heap.size, i, none⟩ = false) := Lib.hid
      ⟨(hkB.cell (p := ⟨V2.heap.size, 0, none⟩) (by rw [hv2]; exact Nat.lt_succ_self _)).trans hbb.1, (hkB.cell (p := ⟨V2.heap.size, 1, none⟩) (by rw [hv2]; exact Nat.lt_succ_self _)).trans hbb.2.1, (hkB.cell (p := ⟨V2.heap.size, 2, none⟩) (by rw [hv2]; exact Nat.lt_succ_self _)).trans hbb.2.2.1, fun i => (hkB.frozen (p := ⟨V2.heap.size, i, none⟩) (by rw [hv2]; exact Nat.lt_succ_self _)).trans (hbb.2.2.2 i)⟩
    have HU0 := Lib.hid hU0
    have HUA := Lib.hid hUA
    have HUB := Lib.hid hUB
    rw [hU0] at HC0
    rw [hUA] at HCA
    rw [hUB] at HCB
    clear HCG hbx3 hrow hU0 hUA hUB hv1 hv2 hra hrb hba hbb hkA hkB
    obtain ⟨z0, z1, z2, zl⟩ := HB2.out _ hX3
    have y0 := HFZ.out _ hX3 0
    have y1 := HFZ.out _ hX3 1
    have y2 := HFZ.out _ hX3 2
    obtain ⟨d0, d1, d2, d3⟩ := HKE.out V2 (Below.refl _ _)
    have hs3 := HX3.out.size
    have hpl := hpb.lt
    clear hal2 hX3 hpb
    generalize hn6 : xs6.length = n6 at *
    have HN6 := Lib.hid hn6
    clear hn6
    go_upto_region 7 with fail
    have HAX : Hid (∀ x ∈ bl ++ cl, ∀ y ∈ adr x.A x.xs, ∀ a, y = some a → a.block < V2.heap.size) := Lib.hid fun x hx y hy a ha => by
      rcases List.mem_append.1 hx with hx | hx
      · exact ((HHL.out _ HX3.out).parts x hx).adr_lt y hy a ha
      · exact ((HKL.out _ HX3.out).parts x hx).adr_lt y hy a ha
    go_cut [10] from 31 to 38 (fun s10 wx => ∃ (q : Nat) (A7 : Option Addr) (c7 : Nat), s10 = .pointer (some ⟨q, 0, none⟩) ∧ GBox wx q A6 n6 c6 b6 A7 (bl.length + cl.length) c7 ∧ Below V2.heap.size V2 wx ∧ Aside (OwnP wx V2.heap.size (.slice A7 (bl ++ cl).length c7) (bl ++ cl)))
    case first =>
      set_option maxRecDepth 100000 in
      go_region_held3 (fun w' => w'.cell? ⟨w2.heap.size, 0, none⟩ = some (.slice A6 n6 c6) ∧ w'.cell? ⟨w2.heap.size, 1, none⟩ = some (.bool b6) ∧ w'.cell? ⟨w.heap.size, 2, none⟩ = some (.slice H nb e) ∧ w'.cell? ⟨w.heap.size + 1, 2, none⟩ = some (.slice K nc m))
        (first | exact HKE.out _ b5_ | exact HKE.out _ (b5_.trans (((Below.refl _ _).alloc (Nat.le_refl _) _).mono b5_.size)) | exact HKE.out _ (((b5_.setCell (by simp) _).setCell (by simp) _).setCell (by simp) _) | exact HKE.out _ (by rw [HU0.out] at R0; exact R0.out) | exact HKE.out _ (by rw [HUA.out] at RA; exact RA.out) | exact HKE.out _ (by rw [HUB.out] at RB; exact RB.out) | exact HKE.out _ (below_drew (Below.refl _ _)) | exact HKE.out _ (Below.refl _ _) | exact HKE.out _ ((Below.refl _ _).alloc (Nat.le_refl _) _) | exact HKE.out _ (below_drew ((Below.refl _ _).alloc (Nat.le_refl _) _)) | exact HKE.out _ (((Below.refl _ _).alloc (Nat.le_refl _) _).alloc (by simp) _) | go_keep)
        (first
          | (go_at_call 41; have hcc := HC0.out; with_reducible refine hcc.mono ?_; intro en w5 hh; rw [← HU0.out] at hh; obtain ⟨A7, c7, rfl, hown7, hb7⟩ := hh
             have b5_ : Below V2.heap.size V2 w5 := R0.out.trans (hb7.mono (by have := Z0.out; omega))
             have HO7 := Lib.hid (hown7.more (show V2.heap.size ≤ U0.heap.size by have := Z0.out; omega))
             have HW5 := Lib.hid b5_
             clear hown7 hb7)
          | (go_at_call 41; have hcc := HCA.out; with_reducible refine hcc.mono ?_; intro en w5 hh; rw [← HUA.out] at hh; obtain ⟨A7, c7, rfl, hown7, hb7⟩ := hh
             have b5_ : Below V2.heap.size V2 w5 := RA.out.trans (hb7.mono (by have := ZA.out; omega))
             have k0 := (hb7.cell (p := ⟨V2.heap.size + 1, 0, none⟩) (by have := ZA.out; show V2.heap.size + 1 < UA.heap.size; omega)).trans BA.out.1
             have k1 := (hb7.cell (p := ⟨V2.heap.size + 1, 1, none⟩) (by have := ZA.out; show V2.heap.size + 1 < UA.heap.size; omega)).trans BA.out.2.1
             have k2 := (hb7.cell (p := ⟨V2.heap.size + 1, 2, none⟩) (by have := ZA.out; show V2.heap.size + 1 < UA.heap.size; omega)).trans BA.out.2.2.1
             have k3 := (hb7.frozen (p := ⟨V2.heap.size + 1, 0, none⟩) (by have := ZA.out; show V2.heap.size + 1 < UA.heap.size; omega)).trans (BA.out.2.2.2 0)
             have k4 := (hb7.frozen (p := ⟨V2.heap.size + 1, 1, none⟩) (by have := ZA.out; show V2.heap.size + 1 < UA.heap.size; omega)).trans (BA.out.2.2.2 1)
             have k5 := (hb7.frozen (p := ⟨V2.heap.size + 1, 2, none⟩) (by have := ZA.out; show V2.heap.size + 1 < UA.heap.size; omega)).trans (BA.out.2.2.2 2)
             have HO7 := Lib.hid (hown7.more (show V2.heap.size + 1 + 1 ≤ UA.heap.size by have := ZA.out; omega))
             have HW5 := Lib.hid b5_
             clear hown7 hb7)
          | (go_at_call 41; have hcc := HCB.out; with_reducible refine hcc.mono ?_; intro en w5 hh; rw [← HUB.out] at hh; obtain ⟨A7, c7, rfl, hown7, hb7⟩ := hh
             have b5_ : Below V2.heap.size V2 w5 := RB.out.trans (hb7.mono (by have := ZB'.out; omega))
             have k0 := (hb7.cell (p := ⟨V2.heap.size, 0, none⟩) (by have := ZB'.out; show V2.heap.size < UB.heap.size; omega)).trans BB.out.1
             have k1 := (hb7.cell (p := ⟨V2.heap.size, 1, none⟩) (by have := ZB'.out; show V2.heap.size < UB.heap.size; omega)).trans BB.out.2.1
             have k2 := (hb7.cell (p := ⟨V2.heap.size, 2, none⟩) (by have := ZB'.out; show V2.heap.size < UB.heap.size; omega)).trans BB.out.2.2.1
             have k3 := (hb7.frozen (p := ⟨V2.heap.size, 0, none⟩) (by have := ZB'.out; show V2.heap.size < UB.heap.size; omega)).trans (BB.out.2.2.2 0)
             have k4 := (hb7.frozen (p := ⟨V2.heap.size, 1, none⟩) (by have := ZB'.out; show V2.heap.size < UB.heap.size; omega)).trans (BB.out.2.2.2 1)
             have k5 := (hb7.frozen (p := ⟨V2.heap.size, 2, none⟩) (by have := ZB'.out; show V2.heap.size < UB.heap.size; omega)).trans (BB.out.2.2.2 2)
             have HO7 := Lib.hid (hown7.more (show V2.heap.size + 1 + 1 ≤ UB.heap.size by have := ZB'.out; omega))
             have HW5 := Lib.hid b5_
             clear hown7 hb7))
      all_goals (go_wp2_with fail; go_meet)
      · exact ⟨w5.heap.size, A7, c7, rfl, by simpa using GBox.new w5 A6 n6 c6 b6 A7 (bl.length + cl.length) c7, HW5.out.trans (((Below.refl _ _).alloc (Nat.le_refl _) _).mono HW5.out.size), HO7.out.below ((Below.refl _ _).alloc (Nat.le_refl _) _)⟩
      · obtain ⟨q1, q2, q3⟩ := cut_store (A := A6) (n := n6) (c := c6) (b := b6) HW5.out (Nat.le_succ _) (Nat.lt_succ_self _) k0 k1 k2 HO7.out HAX.out rfl
        have hl7 : (bl ++ cl).length = bl.length + cl.length := List.length_append
        rw [hl7] at q1 q2 q3
        exact ⟨V2.heap.size + 1, A7, c7, rfl, q1, q2, by show OwnP _ _ _ _; rw [hl7]; exact q3.more (by omega)⟩
      · obtain ⟨q1, q2, q3⟩ := cut_store (A := A6) (n := n6) (c := c6) (b := b6) HW5.out (Nat.le_refl _) (show V2.heap.size < V2.heap.size + 1 + 1 by omega) k0 k1 k2 HO7.out HAX.out rfl
        have hl7 : (bl ++ cl).length = bl.length + cl.length := List.length_append
        rw [hl7] at q1 q2 q3
        exact ⟨V2.heap.size, A7, c7, rfl, q1, q2, by show OwnP _ _ _ _; rw [hl7]; exact q3.more (by omega)⟩
    case rest =>
      obtain ⟨q, A7, c7, rfl, hgb, hb7, HO7⟩ := hcut
      have hl7 : (bl ++ cl).length = bl.length + cl.length := List.length_append
      have hN7 := HN.out
      obtain ⟨y, hy⟩ : ∃ y : RegV, y = ⟨A6, xs6, c6, b6, A7, bl ++ cl, c7⟩ := ⟨_, rfl⟩
      have hRG : RegR wc A6 xs6 c6 b6 A7 (bl ++ cl) c7 ⟨C, g.holes ++ h.holes⟩ := ⟨HP2.out wc hb7, HO7.out.rdB, HEQ.out.symm⟩
      have hreg : y.reg = ⟨C, g.holes ++ h.holes⟩ := by rw [hy]; exact hRG.reg
      have hRy : RegV.R wc y := by unfold RegV.R; rw [hreg, hy]; exact hRG
      have hCC : Pt.check C = 0 := Pt.meet_ok HOM.out
      have hx12 : xs6.length ≤ 12 := by
        have h1 := (Pt.check_ok.1 hCC).2
        have h2 : C.parts.length = xs6.length := hRG.base.len
        omega
      have hWP := withP_any (some ⟨wc.heap.size, 0, none⟩) [y] 1 (wc.alloc (.cells #[.slice y.A y.xs.length y.c, .bool y.b, .slice y.H y.bl.length y.e] 27)) (newG wc y hRy) (fun x hx => by rw [List.mem_singleton.1 hx, hreg]; exact HSZ.out C HOM.out)
        (fun x hx => by rw [List.mem_singleton.1 hx, hreg]; exact ⟨by rw [hy]; show (bl ++ cl).length ≤ _; omega, by rw [hy]; show xs6.length ≤ _; omega, hCC⟩) (by simp)
      have hmrv : mr = match Pt.Rg.withP [y.reg] with
        | none => (none, 52)
        | some l => (l.head?, 0) := by
        rw [HMR.out, HMV.out, HOM.out, hreg]
      simp only [List.map_cons, List.map_nil] at hWP
      generalize Pt.Rg.withP [y.reg] = o at hWP hmrv
      rw [hy] at hWP
      simp only [List.length_singleton, hl7, HN6.out] at hWP
      have HWP := Lib.hid hWP
      have HMRV := Lib.hid hmrv
      have hbv := HX3.out.trans (hb7.mono HX3.out.size)
      have hbr := hbv.trans (((Below.refl wc.heap.size wc).alloc (Nat.le_refl _) (.cells #[.slice A6 n6 c6, .bool b6, .slice A7 (bl.length + cl.length) c7] 27)).mono hbv.size)
      have HBR := Lib.hid hbr
      have HVC := Lib.hid hb7.size
      have HWS : Hid (w.heap.size ≤ wc.heap.size) := Lib.hid (Nat.le_trans HAL.out.size hbv.size)
      obtain ⟨x0, x1, x2, xl⟩ := hgb
      clear hRG hreg hRy hCC hx12 hWP hmrv hbv hbr hb7 z0 z1 z2 zl y0 y1 y2 d0 d1 d2 d3 hy
      go_wp2_with fail
      with_reducible refine HWP.out.mono ?_
      intro en w8 hh
      cases o with
      | none =>
        obtain ⟨rfl, hb8⟩ := hh
        have hv : mr = (none, 52) := HMRV.out
        subst hv
        have hb9 := HBR.out.trans (hb8.mono HBR.out.size)
        have HB9 := Lib.hid hb9
        obtain ⟨z0, z1, z2, zl⟩ := HB2.out _ hb9
        have y0 := HFZ.out _ hb9 0
        have y1 := HFZ.out _ hb9 1
        have y2 := HFZ.out _ hb9 2
        clear hb8 hb9
        go_wp2
        refine bodyPost_ret (v := .tuple #[regV none 0 0 false none 0 0, .bool false, .int .i64 52]) (by simp [results, Tryz.results15, go_sem, z0, z1, z2, regV]) rfl ⟨rfl, ?_⟩
        exact box_three (q := w.heap.size + 1 + 1) (HAL.out.trans (HB9.out.mono HAL.out.size)) (by omega) (HB2.out _ HB9.out) _ _ _ rfl
      | some r =>
        obtain ⟨A8, ol, c8, rfl, hr, hown8, hb8, hf8⟩ := hh
        have hb9 := HBR.out.trans (hb8.mono HBR.out.size)
        have HB9 := Lib.hid hb9
        obtain ⟨z0, z1, z2, zl⟩ := HB2.out _ hb9
        have y0 := HFZ.out _ hb9 0
        have y1 := HFZ.out _ hb9 1
        have y2 := HFZ.out _ hb9 2
        clear hb9
        cases ol with
        | nil =>
          have hv : mr = (none, 0) := by rw [HMRV.out, ← hr]; rfl
          subst hv
          clear hb8 hr hown8 hf8
          go_wp2
          refine bodyPost_ret (v := .tuple #[regV none 0 0 false none 0 0, .bool false, .int .i64 0]) (by simp [results, Tryz.results15, go_sem, z0, z1, z2, regV]) rfl ⟨rfl, ?_⟩
          exact box_three (q := w.heap.size + 1 + 1) (HAL.out.trans (HB9.out.mono HAL.out.size)) (by omega) (HB2.out _ HB9.out) _ _ _ rfl
        | cons v vs =>
          have hv : mr = (some v.reg, 0) := by rw [HMRV.out, ← hr]; rfl
          subst hv
          obtain ⟨A9, c9, he9, hrd, _⟩ := hown8.rd
          injection he9 with e91 _ e93
          subst e91 e93
          obtain ⟨q9, o9, hA9, hq9, hcell⟩ := hrd.at (by simp)
          subst hA9
          obtain ⟨m0, m1, m2⟩ := hcell 0 (by simp)
          simp only [List.getElem_cons_zero, Nat.zero_mul, Nat.add_zero] at m0 m1 m2
          have i1 : ¬ (((v :: vs).length : Nat) : Int) = 0 := by rw [List.length_cons]; omega
          have i2 : (0 : Int) < (((v :: vs).length : Nat) : Int) := by rw [List.length_cons]; omega
          have HRV := Lib.hid (hrd.parts v (by simp))
          have HFV : Hid (FreshV wc w8 v) := Lib.hid ((hf8 v (by simp)).old (by simp))
          have HQ9 : Hid (w.heap.size + 1 + 1 < wc.heap.size) := Lib.hid (Nat.lt_of_lt_of_le (Nat.lt_of_lt_of_le hsz0 HX3.out.size) HVC.out)
          clear hb8 hr hown8 hf8 hrd hcell
          generalize (v :: vs).length = nn at *
          go_wp2
          refine bodyPost_ret (v := .tuple #[regV v.A v.xs.length v.c v.b v.H v.bl.length v.e, .bool true, .int .i64 0]) (by simp [results, Tryz.results15, go_sem, z0, z1, z2, regV]) rfl ?_
          have hfin := store_fin (w := w) (w1 := wc) (q := w.heap.size + 1 + 1) HRV.out (HAL.out.trans (HB9.out.mono HAL.out.size)) (by omega) HQ9.out HFV.out.1 HFV.out.2.1 HFV.out.2.2 (.slice v.A v.xs.length v.c) (.bool v.b) (.slice v.H v.bl.length v.e) rfl
          exact ⟨v.A, v.xs, v.c, v.b, v.H, v.bl, v.e, rfl, hfin.1, hfin.2.1, hfin.2.2.1, hfin.2.2.2.1, hfin.2.2.2.2⟩
end Go.Proofs.YtembmegllpkmfaaGreatDoor
