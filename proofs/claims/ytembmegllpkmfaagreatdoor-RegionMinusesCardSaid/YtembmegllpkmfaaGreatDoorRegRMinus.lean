/- The reference's Minus of regions. -/
import Derived.Test.YtembmegllpkmfaaGreatDoorRegRSimp
import Derived.Test.YtembmegllpkmfaaGreatDoorRegMinusL
namespace Go.Proofs.YtembmegllpkmfaaGreatDoor
open Go.RowKit
set_option linter.unusedVariables false
theorem RdB.adr_lt2 {w : World} {A : Option Addr} {bl : List BindV} {c : Nat} (h : RdB w A bl c) : ∀ y ∈ adr A bl, ∀ a, y = some a → a.block < w.heap.size := by
  intro y hy a ha
  rcases h.cells with h0 | ⟨g, o, hA, hlt, _⟩
  · subst h0
    cases hy
  · rw [adr_mem hy, hA] at ha
    injection ha with ha
    rw [← ha]
    exact hlt
theorem RegR.off {w w' : World} {q : Nat} {A : Option Addr} {xs : List ByteArray} {c : Nat} {b : Bool} {H : Option Addr} {bl : List BindV} {e : Nat} {g : Pt.Rg.Reg} (h : RegR w A xs c b H bl e g) (hg : w.grownBy w' (some q))
    (h1 : ∀ y ∈ adr A xs, ∀ a, y = some a → a.block ≠ q) (h2 : ∀ a, H = some a → a.block ≠ q) (h3 : ∀ x ∈ bl, ∀ a, x.A = some a → a.block ≠ q) : RegR w' A xs c b H bl e g := by
  refine h.grownA hg fun y hy a ha => ?_
  rcases List.mem_append.1 hy with hy | hy
  · exact ⟨fun e => h1 y hy a ha (Option.some.inj e).symm, h.base.adr_lt y hy a ha⟩
  · rcases List.mem_append.1 hy with hy | hy
    · exact ⟨fun e => h2 a (by rw [← ha]; exact (adr_mem hy).symm) (Option.some.inj e).symm, h.holes.adr_lt2 y hy a ha⟩
    · obtain ⟨z, hz, hy⟩ := List.mem_flatMap.1 hy
      exact ⟨fun e => h3 z hz a (by rw [← ha]; exact (adr_mem hy).symm) (Option.some.inj e).symm, (h.holes.parts z hz).adr_lt y hy a ha⟩
theorem lenN_at3 {B : Pt.Pat} {H : List Pt.Pat} {n : Nat} (h : Pt.Rg.lenN B H = some n) : Pt.fits B n = true := by
  unfold Pt.Rg.lenN Pt.Rg.findN at h
  have hm := List.mem_of_find?_eq_some h
  rw [List.mem_range'_1] at hm
  unfold Pt.Rg.firstN at hm
  cases hr : B.rest with
  | true =>
    rw [hr] at hm
    simp only [if_true] at hm
    exact (Pt.Rg.fits_far hr).2 (by omega)
  | false =>
    rw [hr] at hm
    simp only [Bool.false_eq_true, if_false] at hm
    exact (Pt.Rg.fits_one hr).2 (by omega)
def GivesMnR (w : World) (o : Option (List Pt.Rg.Reg) × Nat) (e : Ending) (w' : World) : Prop :=
  match o.1 with
  | none => e = .returned (.tuple #[.slice none 0 0, .int .i64 (o.2 : Int)]) ∧ Below w.heap.size w w'
  | some r => ∃ A ol c, e = .returned (.tuple #[.slice A (List.length ol) c, .int .i64 (o.2 : Int)]) ∧ ol.map RegV.reg = r ∧ RdG w' A ol c ∧ Below w.heap.size w w'
theorem minusR_bad1 {a b : Pt.Rg.Reg} {k : Nat} (hk : Pt.Rg.gcheck a = k) (h : k ≠ 0) : Pt.Rg.minusR a b = (none, k) := by
  unfold Pt.Rg.minusR
  rw [if_neg (by rw [hk]; exact h), hk]
theorem minusR_bad2 {a b : Pt.Rg.Reg} {k : Nat} (ha : Pt.Rg.gcheck a = 0) (hk : Pt.Rg.gcheck b = k) (h : k ≠ 0) : Pt.Rg.minusR a b = (none, k) := by
  unfold Pt.Rg.minusR
  rw [if_pos ha, if_neg (by rw [hk]; exact h), hk]
theorem minusR_form {a b : Pt.Rg.Reg} (ha : Pt.Rg.gcheck a = 0) (hb : Pt.Rg.gcheck b = 0) : Pt.Rg.minusR a b = match Pt.Rg.withP (Pt.Rg.minusL a b) with
    | none => (none, 52)
    | some l => (some l, 0) := by
  unfold Pt.Rg.minusR
  rw [if_pos ha, if_pos hb]
  cases Pt.Rg.withP (Pt.Rg.minusL a b) <;> rfl
theorem withP_filter : ∀ {l : List Pt.Rg.Reg}, (∀ x ∈ l.map Pt.Rg.Reg.simp, x.holes.length ≤ 64) → Pt.Rg.withP l = some ((l.map Pt.Rg.Reg.simp).filter fun x => !x.empty)
  | [], _ => rfl
  | g :: l, h => by
    rw [Pt.Rg.withP, if_pos (h g.simp (by simp)), withP_filter (fun x hx => h x (by rw [List.map_cons]; exact List.mem_cons_of_mem _ hx)), List.map_cons]
    cases he : g.simp.empty with
    | true => simp [he]
    | false => simp [he]
/-- What the loop over the holes keeps. -/
structure PInv (base : Nat) (a : Pt.Rg.Reg) (P0 : Pt.Pat) (hs : List Pt.Pat) (wx : World) (A8 : Option Addr) (e8 : Nat) (l : List RegV) (k : Nat) : Prop where
  own : OwnG wx base (.slice A8 l.length e8) l
  acc : l.map RegV.reg = ((⟨a.base, a.holes ++ [P0]⟩ :: Pt.Rg.minusGo a [] (hs.take k)) : List Pt.Rg.Reg).map Pt.Rg.Reg.simp
  len : l.length ≤ k + 1
theorem PInv.skip {W : Nat} {a : Pt.Rg.Reg} {P0 : Pt.Pat} {hs : List Pt.Pat} {wx wy : World} {A8 : Option Addr} {e8 : Nat} {l : List RegV} {k : Nat} (h : PInv W a P0 hs wx A8 e8 l k) (hb : Below wx.heap.size wx wy) (hk : k < hs.length) (hm : Pt.meet a.base hs[k] = none) : PInv W a P0 hs wy A8 e8 l (k + 1) :=
  ⟨h.own.below hb, by rw [List.take_succ_eq_append_getElem hk, minusGo_snoc, hm, List.append_nil]; exact h.acc, Nat.le_succ_of_le h.len⟩
theorem PInv.add {W : Nat} {a : Pt.Rg.Reg} {P0 C : Pt.Pat} {hs : List Pt.Pat} {wx wy : World} {A8 A9 : Option Addr} {e8 e9 : Nat} {l : List RegV} {y : RegV} {k : Nat} (h : PInv W a P0 hs wx A8 e8 l k) (hk : k < hs.length) (hm : Pt.meet a.base hs[k] = some C)
    (hy : y.reg = (⟨C, a.holes ++ hs.take k⟩ : Pt.Rg.Reg).simp) (hown : OwnG wy W (.slice A9 (l ++ [y]).length e9) (l ++ [y])) : PInv W a P0 hs wy A9 e9 (l ++ [y]) (k + 1) := by
  refine ⟨hown, ?_, by have := h.len; simp; omega⟩
  rw [List.take_succ_eq_append_getElem hk, minusGo_snoc, hm, List.map_append, h.acc, List.nil_append]
  simp [hy]
/-- What the loop over the parts keeps. -/
structure QInv (V : World) (L : List Pt.Rg.Reg) (wx : World) (A9 : Option Addr) (e9 : Nat) (out : List RegV) (k : Nat) : Prop where
  own : OwnG wx V.heap.size (.slice A9 out.length e9) out
  acc : out.map RegV.reg = (L.take k).filter fun x => !x.empty
  all : ∀ x ∈ L.take k, x.holes.length ≤ 64
  len : out.length ≤ k
theorem QInv.skip {V : World} {L : List Pt.Rg.Reg} {wx wy : World} {A9 : Option Addr} {e9 : Nat} {out : List RegV} {k : Nat} (h : QInv V L wx A9 e9 out k) (hb : Below wx.heap.size wx wy) (hk : k < L.length) (h64 : L[k].holes.length ≤ 64) (he : L[k].empty = true) : QInv V L wy A9 e9 out (k + 1) := by
  refine ⟨h.own.below hb, ?_, fun x hx => ?_, Nat.le_succ_of_le h.len⟩
  · rw [List.take_succ_eq_append_getElem hk, List.filter_append, ← h.acc]
    simp [he]
  · rw [List.take_succ_eq_append_getElem hk] at hx
    rcases List.mem_append.1 hx with hx | hx
    · exact h.all x hx
    · rw [List.mem_singleton.1 hx]; exact h64
theorem QInv.add {V : World} {L : List Pt.Rg.Reg} {wx wy : World} {A9 A10 : Option Addr} {e9 e10 : Nat} {out : List RegV} {y : RegV} {k : Nat} (h : QInv V L wx A9 e9 out k) (hk : k < L.length) (h64 : L[k].holes.length ≤ 64) (he : L[k].empty = false)
    (hy : y.reg = L[k]) (hown : OwnG wy V.heap.size (.slice A10 (out ++ [y]).length e10) (out ++ [y])) : QInv V L wy A10 e10 (out ++ [y]) (k + 1) := by
  refine ⟨hown, ?_, fun x hx => ?_, by have := h.len; simp; omega⟩
  · rw [List.take_succ_eq_append_getElem hk, List.filter_append, ← h.acc, List.map_append]
    simp [he, hy]
  · rw [List.take_succ_eq_append_getElem hk] at hx
    rcases List.mem_append.1 hx with hx | hx
    · exact h.all x hx
    · rw [List.mem_singleton.1 hx]; exact h64
theorem minusGo_le (a : Pt.Rg.Reg) : ∀ (l pre : List Pt.Pat), (Pt.Rg.minusGo a pre l).length ≤ l.length
  | [], pre => Nat.le_refl _
  | h :: l, pre => by
    unfold Pt.Rg.minusGo
    have ih := minusGo_le a l (pre ++ [h])
    rw [List.length_append, List.length_cons]
    cases Pt.meet a.base h <;> simp <;> omega
set_option maxHeartbeats 16000000 in
theorem gminus_any (A B : Option Addr) (xs ys : List ByteArray) (c d : Nat) (b f : Bool) (H K : Option Addr) (bl cl : List BindV) (e m : Nat) (g h : Pt.Rg.Reg) (w : World) (hg : RegR w A xs c b H bl e g) (hh : RegR w B ys d f K cl m h) (sg : SzG 100000 g) (sh : SzG 100000 h) :
    Calls Tryz.prog 19 #[regV A xs.length c b H bl.length e, regV B ys.length d f K cl.length m] w (GivesMnR w (Pt.Rg.minusR g h)) := by
  obtain ⟨W0, hW0⟩ : ∃ W0, W0 = (w.alloc (regObj A xs.length c b H bl.length e)).alloc (regObj B ys.length d f K cl.length m) := ⟨_, rfl⟩
  have hal : Below w.heap.size w W0 := by rw [hW0]; exact ((Below.refl _ _).alloc (Nat.le_refl _) _).alloc (by simp) _
  have HAL := Lib.hid hal
  have hb0 : GBox W0 w.heap.size A xs.length c b H bl.length e := by rw [hW0]; exact (GBox.new ..).keep ((Below.refl _ _).alloc (Nat.le_refl _) _)
  have hb1 : GBox W0 (w.heap.size + 1) B ys.length d f K cl.length m := by
    have h := GBox.new (w.alloc (regObj A xs.length c b H bl.length e)) B ys.length d f K cl.length m
    rw [hW0]
    simpa using h
  have HB0 := Lib.hid (fun (w' : World) (hb : Below W0.heap.size W0 w') => hb0.keep hb)
  have HB1 := Lib.hid (fun (w' : World) (hb : Below W0.heap.size W0 w') => hb1.keep hb)
  have HFZ0 : ∀ i, W0.frozen? ⟨w.heap.size + 1, i, none⟩ = false := fun i => by
    have h2 : ∀ X : World, (X.alloc (regObj B ys.length d f K cl.length m)).frozen? ⟨X.heap.size, i, none⟩ = false := fun X => by simp [regObj]
    have h3 := h2 (w.alloc (regObj A xs.length c b H bl.length e))
    rw [show (w.alloc (regObj A xs.length c b H bl.length e)).heap.size = w.heap.size + 1 by simp] at h3
    rw [hW0]
    exact h3
  have HFZ := Lib.hid (fun (w' : World) (hb : Below W0.heap.size W0 w') (i : Nat) => (hb.frozen (p := ⟨w.heap.size + 1, i, none⟩) hb1.lt).trans (HFZ0 i))
  have HCA := Lib.hid (ggcheck_any A xs c b H bl e g W0 (hg.keep hal))
  have HCB := Lib.hid (fun (w' : World) (hb : Below W0.heap.size W0 w') => ggcheck_any B ys d f K cl m h w' ((hh.keep hal).keep hb))
  obtain ⟨mr, hmr⟩ : ∃ mr, mr = Pt.Rg.minusR g h := ⟨_, rfl⟩
  rw [← hmr]
  have HMR := Lib.hid hmr
  clear hmr
  generalize hka : Pt.Rg.gcheck g = k at HCA
  by_cases hk0 : k = 0
  rotate_left
  · have hv := HMR.out.trans (minusR_bad1 hka hk0)
    subst hv
    have i1 : ((k : Int) == 0) = false := by rw [beq_eq_false_iff_ne]; omega
    have i2 : ((k : Int) != 0) = true := by rw [bne, i1]; rfl
    generalize xs.length = nx at *
    generalize ys.length = ny at *
    generalize bl.length = nb at *
    generalize cl.length = nc at *
    obtain ⟨t0, t1, t2, tl⟩ := hb0
    clear hg hh hal hb1 sg sh hka hk0 HFZ0
    subst hW0
    go_enter Tryz.func19, Tryz.ntmps19
    go_wp2_with fail
    with_reducible refine HCA.out.mono ?_
    rintro en w1 ⟨rfl, hb1⟩
    have HX1 := Lib.hid hb1
    clear hb1 t0 t1 t2 tl
    go_wp2
    refine bodyPost_ret (v := .tuple #[.slice none 0 0, .int .i64 (k : Int)]) (by simp [results, Tryz.results19, go_sem]) rfl ⟨rfl, ?_⟩
    exact HAL.out.trans (HX1.out.mono HAL.out.size)
  subst hk0
  generalize hkb : Pt.Rg.gcheck h = k at HCB
  by_cases hk0 : k = 0
  rotate_left
  · have hv := HMR.out.trans (minusR_bad2 hka hkb hk0)
    subst hv
    have i1 : ((k : Int) == 0) = false := by rw [beq_eq_false_iff_ne]; omega
    have i2 : ((k : Int) != 0) = true := by rw [bne, i1]; rfl
    generalize xs.length = nx at *
    generalize ys.length = ny at *
    generalize bl.length = nb at *
    generalize cl.length = nc at *
    obtain ⟨t0, t1, t2, tl⟩ := hb0
    clear hg hh hal hb1 sg sh hka hkb hk0 HFZ0
    subst hW0
    go_enter Tryz.func19, Tryz.ntmps19
    go_wp2_with fail
    with_reducible refine HCA.out.mono ?_
    rintro en w1 ⟨rfl, hb1⟩
    have HX1 := Lib.hid hb1
    have HC2 := Lib.hid (HCB.out _ hb1)
    obtain ⟨s01, s11, s21, sl1⟩ := HB1.out _ hb1
    clear hb1 t0 t1 t2 tl
    go_wp2_with fail
    with_reducible refine HC2.out.mono ?_
    rintro en w2 ⟨rfl, hb2⟩
    have HX2 := Lib.hid (HX1.out.trans (hb2.mono HX1.out.size))
    clear hb2 s01 s11 s21 sl1
    go_wp2
    refine bodyPost_ret (v := .tuple #[.slice none 0 0, .int .i64 (k : Int)]) (by simp [results, Tryz.results19, go_sem]) rfl ⟨rfl, ?_⟩
    exact HAL.out.trans (HX2.out.mono HAL.out.size)
  subst hk0
  obtain ⟨ga1, ga2, ga3⟩ := Pt.Rg.gcheck_zero.1 hka
  obtain ⟨gb1, gb2, gb3⟩ := Pt.Rg.gcheck_zero.1 hkb
  have HMV := Lib.hid (minusR_form hka hkb)
  have HGA := Lib.hid ga1
  have HN : Hid (bl.length ≤ 64 ∧ cl.length ≤ 64) := Lib.hid ⟨by rw [← reg_len hg]; exact ga3, by rw [← reg_len hh]; exact gb3⟩
  have HSG := Lib.hid sg
  have HSH := Lib.hid sh
  have HG0 := Lib.hid hg
  have HH0 := Lib.hid hh
  have HGS7 := Lib.hid (fun (w' : World) (hb : Below W0.heap.size W0 w') => show Calls Tryz.prog 44 #[patV B ys.length d f, .slice K cl.length m] w' (GivesGR w' B ys d f h.simp) from by
    have h9 := gsimp_any B ys d f K cl m h.base w' ((hh.keep hal).keep hb).base ((hh.keep hal).keep hb).holes (by have := HN.out; omega) (fun x hx => (sh.short (by decide)) x.pat (by rw [← hh.eq]; exact List.mem_map_of_mem hx))
    rw [hh.eq] at h9
    exact h9)
  clear hka hkb
  obtain ⟨nx, hnx⟩ : ∃ n, n = xs.length := ⟨_, rfl⟩
  obtain ⟨ny, hny⟩ : ∃ n, n = ys.length := ⟨_, rfl⟩
  obtain ⟨nb, hnb⟩ : ∃ n, n = bl.length := ⟨_, rfl⟩
  obtain ⟨nc, hnc⟩ : ∃ n, n = cl.length := ⟨_, rfl⟩
  have HNX := Lib.hid hnx
  have HNY := Lib.hid hny
  have HNB := Lib.hid hnb
  rw [← hnx, ← hnb] at hW0 hb0 HB0 HCA
  rw [← hny, ← hnc] at hW0 hb1 HB1 HCB HGS7
  rw [← hnx, ← hny, ← hnb, ← hnc]
  have hsz1 : w.heap.size + 1 < W0.heap.size := hb1.lt
  have HSZ1 := Lib.hid hsz1
  clear hnx hny hnb hnc
  obtain ⟨t0, t1, t2, tl⟩ := hb0
  clear hg hh hal hb1 sg sh HFZ0 ga1 ga2 ga3 gb1 gb2 gb3 hsz1
  subst hW0
  go_enter Tryz.func19, Tryz.ntmps19
  go_wp2_with fail
  with_reducible refine HCA.out.mono ?_
  rintro en w0 ⟨rfl, hb0⟩
  have HX0 := Lib.hid hb0
  have HC2 := Lib.hid (HCB.out _ hb0)
  obtain ⟨s01, s11, s21, sl1⟩ := HB1.out _ hb0
  clear hb0 t0 t1 t2 tl
  go_wp2_with fail
  with_reducible refine HC2.out.mono ?_
  rintro en w1 ⟨rfl, hb1⟩
  have hx1 := HX0.out.trans (hb1.mono HX0.out.size)
  have HX1 := Lib.hid hx1
  obtain ⟨s0, s1, s2, sl⟩ := HB1.out _ hx1
  have HC7 := Lib.hid (HGS7.out _ hx1)
  clear hb1 hx1 s01 s11 s21 sl1
  go_wp2_with fail
  with_reducible refine HC7.out.mono ?_
  intro en w2 hh
  unfold GivesGR at hh
  obtain ⟨K2, ol2, f2, rfl, hr2, hb2, hf21, hf22⟩ := hh
  have hx2 := HX1.out.trans (hb2.mono HX1.out.size)
  have HX2 := Lib.hid hx2
  have gz := HB1.out _ hx2
  have g0z := HB0.out _ hx2
  have y0 := HFZ.out _ hx2 0
  have y1 := HFZ.out _ hx2 1
  have y2 := HFZ.out _ hx2 2
  obtain ⟨n2, hn2⟩ : ∃ n, n = ol2.length := ⟨_, rfl⟩
  have HN2 := Lib.hid hn2
  rw [← HNY.out, ← hn2]
  obtain ⟨V, hV⟩ : ∃ V, V = ((w2.setCell ⟨w.heap.size + 1, 0, none⟩ (.slice B ny d)).setCell ⟨w.heap.size + 1, 1, none⟩ (.bool f)).setCell ⟨w.heap.size + 1, 2, none⟩ (.slice K2 n2 f2) := ⟨_, rfl⟩
  have hgV : w2.grownBy V (some (w.heap.size + 1)) := by
    rw [hV]
    exact ((grown_set _ _ _ _).trans (grown_set _ _ _ _)).trans (grown_set _ _ _ _)
  have hwV : Below w.heap.size w V := HAL.out.trans ((HX2.out.mono HAL.out.size).trans (below_row hgV (fun k hk => by injection hk with hk; omega) (Nat.le_trans HAL.out.size HX2.out.size)))
  have HWV := Lib.hid hwV
  have HGR : Hid (∀ w' : World, Below V.heap.size V w' → RegR w' A xs c b H bl e g) := Lib.hid fun w' hb => (HG0.out.keep hwV).keep hb
  have hHH : RegR V B ys d f K2 ol2 f2 h.simp := hr2.off hgV (fun y hy a ha => by have := HH0.out.base.adr_lt y hy a ha; omega) (fun a ha => by
    have h1 := (hf21 a ha).1
    have h2 := HX1.out.size
    have h3 := HSZ1.out
    simp only [World.alloc, Array.size_push] at h2 h3
    omega) (fun x hx a ha => by
    have h1 := (hf22 x hx a ha).1
    have h2 := HX1.out.size
    have h3 := HSZ1.out
    simp only [World.alloc, Array.size_push] at h2 h3
    omega)
  have HHR := Lib.hid (fun (w' : World) (hb : Below V.heap.size V w') => hHH.keep hb)
  have HE1 : Hid (∀ w' : World, Below V.heap.size V w' → GBox w' (w.heap.size + 1) B ny d f K2 n2 f2) := Lib.hid fun w' hb => by
    have h9 := gz.set (A' := B) (n' := ny) (c' := d) (b' := f) (H' := K2) (m' := n2) (e' := f2)
    rw [← hV] at h9
    exact h9.keep hb
  have HE0 : Hid (∀ w' : World, Below V.heap.size V w' → GBox w' w.heap.size A nx c b H nb e) := Lib.hid fun w' hb => (g0z.grow2 hgV (fun e9 => by have h9 := Option.some.inj e9; omega)).keep hb
  have HLB : Hid (ol2.length ≤ 64) := Lib.hid (by
    have h1 := reg_len hr2
    have h2 := simp_holes_len h
    have h3 := reg_len HH0.out
    have h4 := HN.out
    omega)
  have hni : (n2 : Int) ≤ 64 := by have := HLB.out; omega
  have HSF : Hid (∀ x ∈ h.simp.holes, Pt.szs 100000 x ∧ Pt.check x = 0) := Lib.hid fun x hx => ⟨HSH.out.simp.2 x hx, (Pt.Rg.simp_holes (Pt.Rg.simpL_is h.base h.holes) x hx).1⟩
  obtain ⟨pv, hpv⟩ : ∃ pv : BindV, pv = ⟨B, ys, d, f⟩ := ⟨_, rfl⟩
  have hpp : pv.pat = h.base := by rw [hpv]; exact HH0.out.base.pat
  have HPV := Lib.hid hpp
  have HNP := Lib.hid (fun (X : World) (hb : Below V.heap.size V X) => show RdB (X.alloc (.cells #[.slice B ny d, .bool f] 24)) (some ⟨X.heap.size, 0, none⟩) [pv] 1 from by
    have h9 := newP X pv (by rw [hpp, hpv]; exact ((HHR.out X hb).base))
    rw [hpv] at h9
    simp only [← HNY.out] at h9
    rw [← hpv] at h9
    exact h9)
  have HYP : Hid (∀ y ∈ adr pv.A pv.xs, ∀ a, y = some a → a.block < V.heap.size) := Lib.hid (by rw [hpv]; exact hHH.base.adr_lt)
  have hVB := HG0.out.keep hwV
  have HAXB : Hid (∀ x ∈ bl, ∀ y ∈ adr x.A x.xs, ∀ a, y = some a → a.block < V.heap.size) := Lib.hid fun x hx y hy a ha => (hVB.holes.parts x hx).adr_lt y hy a ha
  have HAXC : Hid (∀ x ∈ ol2, ∀ y ∈ adr x.A x.xs, ∀ a, y = some a → a.block < V.heap.size) := Lib.hid fun x hx y hy a ha => (hHH.holes.parts x hx).adr_lt y hy a ha
  have HAA : Hid (∀ y ∈ adr A xs, ∀ a, y = some a → a.block < V.heap.size) := Lib.hid hVB.base.adr_lt
  obtain ⟨R0, hR0⟩ : ∃ R0 : Pt.Rg.Reg, R0 = (⟨g.base, g.holes ++ [h.base]⟩ : Pt.Rg.Reg).simp := ⟨_, rfl⟩
  have HR0 := Lib.hid hR0
  have HGS8 := Lib.hid (fun (A10 : Option Addr) (e10 : Nat) (w' : World) (hb : Below V.heap.size V w') (hr : RdB w' A10 (bl ++ [pv]) e10) => show Calls Tryz.prog 44 #[patV A nx c b, .slice A10 (nb + 1) e10] w' (GivesGR w' A xs c b R0) from by
    have hq : (bl ++ [pv]).map BindV.pat = g.holes ++ [h.base] := by rw [List.map_append, HG0.out.eq, List.map_cons, List.map_nil, hpp]
    have hsz : SzG 100000 ⟨g.base, g.holes ++ [h.base]⟩ := ⟨HSG.out.1, fun x hx => by
      rcases List.mem_append.1 hx with hx | hx
      · exact HSG.out.2 x hx
      · rw [List.mem_singleton.1 hx]; exact HSH.out.1⟩
    have h9 := gsimp_any A xs c b A10 (bl ++ [pv]) e10 g.base w' (HGR.out w' hb).base hr (by rw [List.length_append, List.length_singleton]; have := HN.out; omega) (fun x hx => (hsz.short (by decide)) x.pat (by show x.pat ∈ g.holes ++ [h.base]; rw [← hq]; exact List.mem_map_of_mem hx))
    rw [hq, List.length_append, List.length_singleton, ← HNB.out, ← HNX.out] at h9
    rw [hR0]
    exact h9)
  obtain ⟨s0', s1', s2', sl'⟩ := gz
  clear s0 s1 s2 sl hr2 hb2 hf21 hf22 hx2 g0z hgV hwV hHH hVB hpp hR0 hn2
  go_upto_region 8 with fail
  generalize hwg : ((w2.setCell ⟨w.heap.size + 1, 0, none⟩ (.slice B ny d)).setCell ⟨w.heap.size + 1, 1, none⟩ (.bool f)).setCell ⟨w.heap.size + 1, 2, none⟩ (.slice K2 n2 f2) = V8
  have hWW : V8 = V := hwg.symm.trans hV.symm
  subst hWW
  clear hwg hV s0' s1' s2' sl' y0 y1 y2 hpv
  have HKE := Lib.hid (fun (w' : World) (hb : Below V8.heap.size V8 w') => show w'.cell? ⟨w.heap.size, 0, none⟩ = some (.slice A nx c) ∧ w'.cell? ⟨w.heap.size, 1, none⟩ = some (.bool b) ∧ w'.cell? ⟨w.heap.size, 2, none⟩ = some (.slice H nb e) ∧ w'.cell? ⟨w.heap.size + 1, 0, none⟩ = some (.slice B ny d) ∧ w'.cell? ⟨w.heap.size + 1, 1, none⟩ = some (.bool f) from
    ⟨(HE0.out w' hb).c0, (HE0.out w' hb).c1, (HE0.out w' hb).c2, (HE1.out w' hb).c0, (HE1.out w' hb).c1⟩)
  have HRB8 := Lib.hid (fun (w' : World) (hb : Below V8.heap.size V8 w') => (HGR.out w' hb).holes)
  have HVV : Hid (w.heap.size + 1 < V8.heap.size) := Lib.hid (HE1.out V8 (Below.refl _ _)).lt
  obtain ⟨d0, d1, d2, d3, d4⟩ := HKE.out V8 (Below.refl _ _)
  go_cut [8] from 31 to 41 (fun s8 wx => ∃ (q : Nat), s8 = .slice (some ⟨q, 0, none⟩) 1 1 ∧ Below V8.heap.size V8 wx ∧ Aside (∃ y : RegV, y.reg = R0 ∧ OwnG wx V8.heap.size (.slice (some ⟨q, 0, none⟩) 1 1) [y]))
  case first =>
    set_option maxRecDepth 100000 in
    go_region_held3 (fun w' => w'.cell? ⟨w.heap.size, 0, none⟩ = some (.slice A nx c) ∧ w'.cell? ⟨w.heap.size, 1, none⟩ = some (.bool b) ∧ w'.cell? ⟨w.heap.size, 2, none⟩ = some (.slice H nb e) ∧ w'.cell? ⟨w.heap.size + 1, 0, none⟩ = some (.slice B ny d) ∧ w'.cell? ⟨w.heap.size + 1, 1, none⟩ = some (.bool f))
      (first | exact HKE.out _ b11_ | exact HKE.out _ b10_ | exact HKE.out _ b9_ | exact HKE.out _ (b11_.trans (((Below.refl _ _).alloc (Nat.le_refl _) _).mono b11_.size)) | exact HKE.out _ (b10_.trans (((Below.refl _ _).alloc (Nat.le_refl _) _).mono b10_.size)) | exact HKE.out _ (b9_.trans (((Below.refl _ _).alloc (Nat.le_refl _) _).mono b9_.size)) | exact HKE.out _ (below_drew (Below.refl _ _)) | exact HKE.out _ (Below.refl _ _) | exact HKE.out _ ((Below.refl _ _).alloc (Nat.le_refl _) _) | exact HKE.out _ (below_drew ((Below.refl _ _).alloc (Nat.le_refl _) _)) | go_keep)
      (first
        | (go_at_call 44; with_reducible refine (HGS8.out A10 e10 _ b10_ HR10.out).mono ?_; intro en w11 hh; unfold GivesGR at hh; obtain ⟨K11, ol11, f11, rfl, hr11, hb11, hf11, hf12⟩ := hh
           have b11_ : Below V8.heap.size V8 w11 := b10_.trans (hb11.mono b10_.size)
           have HR11 := Lib.hid hr11
           have HF11 : Hid (∀ a, K11 = some a → V8.heap.size ≤ a.block ∧ a.block < w11.heap.size) := Lib.hid fun a ha => ⟨Nat.le_trans b10_.size (hf11 a ha).1, (hf11 a ha).2⟩
           have HF12 : Hid (∀ x ∈ ol11, ∀ a, x.A = some a → V8.heap.size ≤ a.block ∧ a.block < w11.heap.size) := Lib.hid fun x hx a ha => ⟨Nat.le_trans b10_.size (hf12 x hx a ha).1, (hf12 x hx a ha).2⟩
           rw [← HNX.out]
           clear hr11 hb11 hf11 hf12)
        | (refine step_append_pt rfl _ _ rfl V8.heap.size (.slice A9 nb e9) bl (by rfl) (HO9.out.below ((Below.refl w9.heap.size w9).alloc (Nat.le_refl _) (.cells #[.slice B ny d, .bool f] 24))) (some ⟨w9.heap.size, 0, none⟩) [pv] 1 1 rfl (by rfl) (HNP.out w9 b9_) (fun x hx y hy a ha => ⟨fun h9 => by rw [List.mem_singleton.1 hx] at hy; have h1 := HYP.out y hy a ha; have h2 := (HO9.out.lt _ h9).1; omega, by rw [List.mem_singleton.1 hx] at hy; have h1 := HYP.out y hy a ha; have h2 := b9_.size; simp; omega⟩) (by have := HN.out; simp; omega) (by have h2 := b9_.size; simp; omega) ?_
           intro v10 w10 hown10 hb10 hg10
           have b10_ : Below V8.heap.size V8 w10 := (b9_.trans (((Below.refl w9.heap.size w9).alloc (Nat.le_refl _) (.cells #[.slice B ny d, .bool f] 24)).mono b9_.size)).trans hb10
           obtain ⟨A10, e10, hfv10, _⟩ := hown10.form
           have HR10 := Lib.hid (show RdB w10 A10 (bl ++ [pv]) e10 from by rw [hfv10] at hown10; exact hown10.rdB)
           rw [List.length_append, List.length_singleton, ← HNB.out] at hfv10
           subst hfv10
           clear hown10 hb10 hg10)
        | (refine step_append_pt rfl _ _ rfl V8.heap.size (.slice A9 nb e9) bl (by rfl) HO9.out (some ⟨V8.heap.size, 0, none⟩) [pv] 1 1 rfl (by rfl) HNG.out (fun x hx y hy a ha => ⟨fun h9 => by rw [List.mem_singleton.1 hx] at hy; have h1 := HYP.out y hy a ha; have h2 := (HO9.out.lt _ h9).1; omega, by rw [List.mem_singleton.1 hx] at hy; have h1 := HYP.out y hy a ha; have h2 := b9_.size; simp; omega⟩) (by have := HN.out; simp; omega) (by have h2 := b9_.size; simp; omega) ?_
           intro v10 w10 hown10 hb10 hg10
           have b10_ : Below V8.heap.size V8 w10 := b9_.trans hb10
           obtain ⟨A10, e10, hfv10, _⟩ := hown10.form
           have HR10 := Lib.hid (show RdB w10 A10 (bl ++ [pv]) e10 from by rw [hfv10] at hown10; exact hown10.rdB)
           rw [List.length_append, List.length_singleton, ← HNB.out] at hfv10
           subst hfv10
           clear hown10 hb10 hg10)
        | (refine step_append_pt rfl _ _ rfl (V8.heap.size + 1) (.slice none 0 0) [] (by rfl) (OwnP.empty _ _) H bl nb e HNB.out (by rfl) (HRB8.out _ (below_drew ((Below.refl _ _).alloc (Nat.le_refl _) (.cells #[.slice B ny d, .bool f] 24)))) (fun x hx y hy a ha => ⟨by simp [Value.ownBlock], Nat.lt_of_lt_of_le (HAXB.out x hx y hy a ha) (by simp)⟩) (by have := HN.out; simp; omega) (by simp) ?_
           intro v9 w9 hown9 hb9 hg9
           rw [List.nil_append] at hown9
           obtain ⟨A9, e9, hfv9, _⟩ := hown9.form
           rw [← HNB.out] at hfv9
           subst hfv9
           have b9_ : Below V8.heap.size V8 w9 := (below_drew ((Below.refl _ _).alloc (Nat.le_refl _) (.cells #[.slice B ny d, .bool f] 24))).trans (hb9.mono (Nat.le_succ _))
           have HO9 := Lib.hid (hown9.more (Nat.le_succ _))
           have HNG := Lib.hid (((HNP.out V8 (Below.refl _ _)).keep (below_drew (Below.refl _ _))).keep (below_row hg9 (fun k hk => by simp [Value.ownBlock] at hk) (Nat.le_refl _)))
           clear hown9 hb9 hg9)
        | (refine step_append_pt rfl _ _ rfl V8.heap.size (.slice none 0 0) [] (by rfl) (OwnP.empty _ _) H bl nb e HNB.out (by rfl) (HRB8.out _ (below_drew (Below.refl _ _))) (fun x hx y hy a ha => ⟨by simp [Value.ownBlock], Nat.lt_of_lt_of_le (HAXB.out x hx y hy a ha) (by simp)⟩) (by have := HN.out; simp; omega) (by simp) ?_
           intro v9 w9 hown9 hb9 hg9
           rw [List.nil_append] at hown9
           obtain ⟨A9, e9, hfv9, _⟩ := hown9.form
           rw [← HNB.out] at hfv9
           subst hfv9
           have b9_ : Below V8.heap.size V8 w9 := (below_drew (Below.refl _ _)).trans hb9
           have HO9 := Lib.hid hown9
           clear hown9 hb9 hg9))
    all_goals (go_wp2_with fail; go_meet)
    all_goals
      obtain ⟨y, hy⟩ : ∃ y : RegV, y = ⟨A, xs, c, b, K11, ol11, f11⟩ := ⟨_, rfl⟩
      have hyr : y.reg = R0 := by rw [hy]; exact HR11.out.reg
      have hyR : RegV.R w11 y := by unfold RegV.R; rw [hyr, hy]; exact HR11.out
      have hnew := (ownG_new w11 y hyR).more b11_.size
      rw [hy] at hnew
      simp only [← HNX.out] at hnew
      rw [← hy] at hnew
      exact ⟨w11.heap.size, rfl, b11_.trans (((Below.refl _ _).alloc (Nat.le_refl _) _).mono b11_.size), y, hyr, hnew⟩
  case rest =>
    obtain ⟨q8, rfl, hb8, HA8⟩ := hcut
    obtain ⟨y8, hy8, hown8⟩ := HA8.out
    have HY8 := Lib.hid hy8
    have HO8 := Lib.hid hown8
    have HB8 := Lib.hid hb8
    obtain ⟨u0, u1, u2, ul⟩ := HE1.out _ hb8
    clear hy8 hown8 hb8 HA8 d0 d1 d2 d3 d4
    go_wp2
    go_loopg [45, 8] n2 (fun gg s45 s8 wx => ∃ (k n8 : Nat) (A8 : Option Addr) (e8 : Nat), k + gg = n2 ∧ s45 = .int .i64 (k : Int) ∧ s8 = .slice A8 n8 e8 ∧ Below V8.heap.size V8 wx ∧ Aside (∃ l : List RegV, n8 = l.length ∧ PInv V8.heap.size g h.base (ol2.map BindV.pat) wx A8 e8 l k))
    case atStart =>
      refine ⟨0, 1, some ⟨q8, 0, none⟩, 1, by omega, rfl, rfl, HB8.out, [y8], rfl, HO8.out, ?_, Nat.le_refl _⟩
      rw [List.map_cons, List.map_nil, HY8.out, HR0.out]
      rfl
    case round =>
      obtain ⟨k, n8, A8, e8, hk, rfl, rfl, hbw, HA⟩ := hrel
      obtain ⟨l, hl8, hI⟩ := HA.out
      have HI := Lib.hid hI
      have HL8 := Lib.hid hl8
      have HBW := Lib.hid hbw
      by_cases hkn : k < n2
      · have j1 : (k : Int) < (n2 : Int) := by omega
        have hkb : k < ol2.length := by rw [← HN2.out]; exact hkn
        have HKB := Lib.hid hkb
        have HKH : Hid (k < (ol2.map BindV.pat).length) := Lib.hid (by rw [List.length_map]; exact hkb)
        obtain ⟨q9, o9, hA9, hq9, hcell⟩ := (HHR.out _ hbw).holes.at (by omega)
        obtain ⟨e0, e1⟩ := hcell k hkb
        obtain ⟨W2, hW2⟩ : ∃ W2, W2 = wr.alloc (.cells #[.slice ol2[k].A ol2[k].xs.length ol2[k].c, .bool ol2[k].b] 24) := ⟨_, rfl⟩
        have hal2 : Below wr.heap.size wr W2 := by rw [hW2]; exact (Below.refl _ _).alloc (Nat.le_refl _) _
        have hx2 := hbw.trans (hal2.mono hbw.size)
        have hC := rmeetF_any A ol2[k].A xs ol2[k].xs c ol2[k].c b ol2[k].b g.base ol2[k].pat W2 (HGR.out W2 hx2).base ((HHR.out W2 hx2).holes.parts _ (List.getElem_mem hkb))
        have HME : Hid (∀ r, Pt.meet g.base ol2[k].pat = r → Pt.meet g.base ((ol2.map BindV.pat)[k]'HKH.out) = r) := Lib.hid (by intro r h9; rw [List.getElem_map]; exact h9)
        have HSK : Hid (Pt.szs 100000 ol2[k].pat) := Lib.hid (HSF.out _ (by rw [← (HHR.out _ hbw).eq]; exact List.mem_map_of_mem (List.getElem_mem hkb))).1
        have HAL2 := Lib.hid hal2
        have HX2 := Lib.hid hx2
        have hpb2 : PBox W2 wr.heap.size ol2[k].A ol2[k].xs.length ol2[k].c ol2[k].b := by rw [hW2]; exact PBox.new ..
        obtain ⟨x0, x1, x2, xl⟩ := HE0.out _ hbw
        generalize hor : Pt.meet g.base ol2[k].pat = o' at hC
        have HOR := Lib.hid (HME.out _ hor)
        have HOK := Lib.hid hor
        rw [← HNX.out] at hC
        have HC := Lib.hid hC
        obtain ⟨s0, s1, sl⟩ := hpb2
        clear hC hor HME hal2 hcell hI hl8 hx2 hbw
        subst hA9
        generalize ol2[k] = yk at *
        go_wp2_with fail
        subst hW2
        with_reducible refine HC.out.mono ?_
        intro en w3 hh
        obtain ⟨A6, xs6, c6, b6, rfl, hp6, hb3, hf6⟩ := hh
        have HP6 := Lib.hid hp6
        have HF6 := Lib.hid hf6
        have HB3 := Lib.hid (HAL2.out.trans (hb3.mono HAL2.out.size))
        have hs3 := HB3.out.size
        clear hp6 hf6 hb3 e0 e1 x0 x1 x2 xl s0 s1 sl
        cases o' with
        | none =>
          go_wp2
          go_roundg (n2 - (k + 1))
          case measure => go_light; omega
          case rel =>
            go_light
            have hbx := HB3.out.trans (((Below.refl w3.heap.size w3).alloc (Nat.le_refl _) (.cells #[.slice A6 xs6.length c6, .bool b6] 24)).mono hs3)
            exact ⟨k + 1, n8, A8, e8, by omega, by go_num, rfl, HBW.out.trans (hbx.mono HBW.out.size), l, HL8.out, HI.out.skip hbx HKH.out HOR.out⟩
        | some C =>
          obtain ⟨V6, hV6⟩ : ∃ V6, V6 = w3.alloc (.cells #[.slice A6 xs6.length c6, .bool b6] 24) := ⟨_, rfl⟩
          have hal6 : Below w3.heap.size w3 V6 := by rw [hV6]; exact (Below.refl _ _).alloc (Nat.le_refl _) _
          have hx6 : Below wr.heap.size wr V6 := HB3.out.trans (hal6.mono hs3)
          have hv6 := HBW.out.trans (hx6.mono HBW.out.size)
          have HX6 := Lib.hid hx6
          have HV6 := Lib.hid hv6
          have hpb6 : PBox V6 w3.heap.size A6 xs6.length c6 b6 := by rw [hV6]; exact PBox.new ..
          have HP6V := Lib.hid (fun (w' : World) (hb : Below V6.heap.size V6 w') => ((show PatR w3 A6 xs6 c6 b6 C from HP6.out).keep hal6).keep hb)
          have HA6 : Hid (∀ y ∈ adr A6 xs6, ∀ a, y = some a → wr.heap.size < a.block ∧ a.block < V6.heap.size) := Lib.hid fun y hy a ha => by
            have h1 := HF6.out a (by rw [← ha]; exact (adr_mem hy).symm)
            have h2 := hal6.size
            have h3 := h1.1
            simp only [World.alloc, Array.size_push] at h3
            omega
          have hZ6 : V6.heap.size = w3.heap.size + 1 := by rw [hV6]; simp
          have HZ6 := Lib.hid hZ6
          obtain ⟨n6, hn6⟩ : ∃ n, n = xs6.length := ⟨_, rfl⟩
          have HN6 := Lib.hid hn6
          rw [← hn6] at hpb6
          have hke := fun (w' : World) (hb : Below V6.heap.size V6 w') => show w'.cell? ⟨w3.heap.size, 0, none⟩ = some (.slice A6 n6 c6) ∧ w'.cell? ⟨w3.heap.size, 1, none⟩ = some (.bool b6) ∧ w'.cell? ⟨w.heap.size, 2, none⟩ = some (.slice H nb e) ∧ w'.cell? ⟨w.heap.size + 1, 2, none⟩ = some (.slice (some ⟨q9, o9, none⟩) n2 f2) from
            ⟨(hpb6.keep hb).c0, (hpb6.keep hb).c1, (HE0.out w' (HV6.out.trans (hb.mono HV6.out.size))).c2, (HE1.out w' (HV6.out.trans (hb.mono HV6.out.size))).c2⟩
          have HKF := Lib.hid hke
          obtain ⟨R1, hR1⟩ : ∃ R1 : Pt.Rg.Reg, R1 = (⟨C, g.holes ++ (ol2.map BindV.pat).take k⟩ : Pt.Rg.Reg).simp := ⟨_, rfl⟩
          have HR1 := Lib.hid hR1
          have hlk : (ol2.take k).length = k := by rw [List.length_take]; exact Nat.min_eq_left (Nat.le_of_lt HKB.out)
          have HLK := Lib.hid hlk
          have HGS14 := Lib.hid (fun (A10 : Option Addr) (e10 : Nat) (w' : World) (hb : Below V6.heap.size V6 w') (hr : RdB w' A10 (bl ++ ol2.take k) e10) => show Calls Tryz.prog 44 #[patV A6 n6 c6 b6, .slice A10 (nb + k) e10] w' (GivesGR w' A6 xs6 c6 b6 R1) from by
            have hq : (bl ++ ol2.take k).map BindV.pat = g.holes ++ (ol2.map BindV.pat).take k := by rw [List.map_append, HG0.out.eq, List.map_take]
            have hmem : ∀ x ∈ (ol2.map BindV.pat).take k, Pt.szs 100000 x := fun x hx => (HSF.out x (by rw [← (HHR.out V8 (Below.refl _ _)).eq]; exact List.mem_of_mem_take hx)).1
            have hsz : SzG 100000 ⟨C, g.holes ++ (ol2.map BindV.pat).take k⟩ := ⟨Pt.meet_sizes HSG.out.1 HSK.out HOK.out, fun x hx => by
              rcases List.mem_append.1 hx with hx | hx
              · exact HSG.out.2 x hx
              · exact hmem x hx⟩
            have h9 := gsimp_any A6 xs6 c6 b6 A10 (bl ++ ol2.take k) e10 C w' (HP6V.out w' hb) hr (by rw [List.length_append, hlk]; have := HN.out; have := HLB.out; have := HKB.out; omega) (fun x hx => (hsz.short (by decide)) x.pat (by show x.pat ∈ g.holes ++ (ol2.map BindV.pat).take k; rw [← hq]; exact List.mem_map_of_mem hx))
            rw [hq, List.length_append, hlk, ← HNB.out, ← hn6] at h9
            rw [hR1]
            exact h9)
          have HOL := Lib.hid (show OwnG V6 V8.heap.size (.slice A8 n8 e8) l from by have h9 := HI.out.own.below hx6; rw [← HL8.out] at h9; exact h9)
          have HVL : Hid (∀ r, (Value.slice A8 n8 e8).ownBlock = some r → V8.heap.size ≤ r ∧ r < wr.heap.size) := Lib.hid fun r hr => by have h9 := HI.out.own.lt r; rw [← HL8.out] at h9; exact h9 hr
          have HLL : Hid (l.length ≤ 65) := Lib.hid (by have h9 := HI.out.len; have := HLB.out; have := HKB.out; omega)
          have HRB := Lib.hid (fun (w' : World) (hb : Below V6.heap.size V6 w') => (HGR.out w' (HV6.out.trans (hb.mono HV6.out.size))).holes)
          have HRC := Lib.hid (fun (w' : World) (hb : Below V6.heap.size V6 w') => ((HHR.out w' (HV6.out.trans (hb.mono HV6.out.size))).holes.take k))
          have HVZ : Hid (V8.heap.size ≤ wr.heap.size ∧ wr.heap.size ≤ w3.heap.size) := Lib.hid ⟨HBW.out.size, hs3⟩
          rw [← hn6]
          clear hal6 hx6 hv6 hpb6 hR1 hlk hke hn6
          go_upto_region 14 with fail
          generalize hwg : w3.alloc (.cells #[.slice A6 n6 c6, .bool b6] 24) = V9
          have hWW : V9 = V6 := hwg.symm.trans (by rw [hV6, HN6.out])
          subst hWW
          clear hwg hV6
          obtain ⟨k0, k1, k2, k3⟩ := HKF.out V9 (Below.refl _ _)
          have i3 : (0 : Int) ≤ (k : Int) := Int.natCast_nonneg _
          have i4 : (k : Int) ≤ (f2 : Int) := by
            have h1 := (HHR.out V8 (Below.refl _ _)).holes.le
            have h2 := HKB.out
            omega
          have i5 : (f2 : Int) ≤ 9223372036854775807 := by
            have h2 := (HHR.out V8 (Below.refl _ _)).holes.cm
            unfold maxLen at h2
            omega
          set_option maxRecDepth 100000 in
          go_region_held3 (fun w' => w'.cell? ⟨w3.heap.size, 0, none⟩ = some (.slice A6 n6 c6) ∧ w'.cell? ⟨w3.heap.size, 1, none⟩ = some (.bool b6) ∧ w'.cell? ⟨w.heap.size, 2, none⟩ = some (.slice H nb e) ∧ w'.cell? ⟨w.heap.size + 1, 2, none⟩ = some (.slice (some ⟨q9, o9, none⟩) n2 f2))
            (first | exact p12_ | exact HKF.out _ b11_ | exact HKF.out _ b10_ | exact HKF.out _ b9_ | exact HKF.out _ (b11_.trans (((Below.refl _ _).alloc (Nat.le_refl _) _).mono b11_.size)) | exact HKF.out _ (b10_.trans (((Below.refl _ _).alloc (Nat.le_refl _) _).mono b10_.size)) | exact HKF.out _ (b9_.trans (((Below.refl _ _).alloc (Nat.le_refl _) _).mono b9_.size)) | exact HKF.out _ (below_drew (Below.refl _ _)) | exact HKF.out _ (Below.refl _ _) | exact HKF.out _ ((Below.refl _ _).alloc (Nat.le_refl _) _) | exact HKF.out _ (below_drew ((Below.refl _ _).alloc (Nat.le_refl _) _)) | go_keep)
            (first
              | (refine step_append_rg3 rfl _ _ rfl V8.heap.size (.slice A8 n8 e8) l (by rfl) (HOL.out.below (b11_.trans (((Below.refl w11.heap.size w11).alloc (Nat.le_refl _) _).mono b11_.size))) (some ⟨w11.heap.size, 0, none⟩) [⟨A6, xs6, c6, b6, K11, ol11, f11⟩] 1 1 rfl (by rfl) HNG9.out (fun x hx y hy a ha => ⟨(HYA9.out x hx y hy a ha).1, Nat.lt_of_lt_of_le (HYA9.out x hx y hy a ha).2 (by simp)⟩) (by (have := HLL.out; simp; omega)) (by (have h3 := HVZ.out; have h4 := HZ6.out; have h5 := b11_.size; simp; omega)) ?_
                 intro v12 w12 hown12 hb12 hg12 hv12
                 obtain ⟨A12, e12, hfv12, _⟩ := hown12.form
                 rw [show (l ++ [(⟨A6, xs6, c6, b6, K11, ol11, f11⟩ : RegV)]).length = n8 + 1 by rw [List.length_append, ← HL8.out]; rfl] at hfv12
                 subst hfv12
                 have HO12 := Lib.hid hown12
                 have HB12 : Hid (Below V8.heap.size w11 w12) := Lib.hid ((((Below.refl w11.heap.size w11).alloc (Nat.le_refl _) _).mono (by have h3 := HVZ.out; have h4 := HZ6.out; have h5 := b11_.size; omega)).trans hb12)
                 have p12_ : w12.cell? ⟨w3.heap.size, 0, none⟩ = some (.slice A6 n6 c6) ∧ w12.cell? ⟨w3.heap.size, 1, none⟩ = some (.bool b6) ∧ w12.cell? ⟨w.heap.size, 2, none⟩ = some (.slice H nb e) ∧ w12.cell? ⟨w.heap.size + 1, 2, none⟩ = some (.slice (some ⟨q9, o9, none⟩) n2 f2) := by
                   have hc := HKF.out (w11.alloc (.cells #[.slice A6 n6 c6, .bool b6, .slice K11 ol11.length f11] 27)) (b11_.trans (((Below.refl w11.heap.size w11).alloc (Nat.le_refl _) _).mono b11_.size))
                   have n1 : some w3.heap.size ≠ (Value.slice A8 n8 e8).ownBlock := fun h9 => by have h1 := (HVL.out _ h9.symm).2; have h2 := HVZ.out; omega
                   have hV := HVV.out
                   have n2 : some w.heap.size ≠ (Value.slice A8 n8 e8).ownBlock := fun h9 => by have h1 := (HVL.out _ h9.symm).1; omega
                   have n3 : some (w.heap.size + 1) ≠ (Value.slice A8 n8 e8).ownBlock := fun h9 => by have h1 := (HVL.out _ h9.symm).1; omega
                   exact ⟨hg12.cell hc.1 n1, hg12.cell hc.2.1 n1, hg12.cell hc.2.2.1 n2, hg12.cell hc.2.2.2 n3⟩
                 clear hown12 hb12 hg12 hv12)
              | (go_at_call 44; with_reducible refine (HGS14.out A10 e10 _ b10_ HR10.out).mono ?_; intro en w11 hh; unfold GivesGR at hh; obtain ⟨K11, ol11, f11, rfl, hr11, hb11, hf11, hf12⟩ := hh
                 have b11_ : Below V9.heap.size V9 w11 := b10_.trans (hb11.mono b10_.size)
                 have HR11 := Lib.hid hr11
                 have HF11 : Hid (∀ a, K11 = some a → V9.heap.size ≤ a.block ∧ a.block < w11.heap.size) := Lib.hid fun a ha => ⟨Nat.le_trans b10_.size (hf11 a ha).1, (hf11 a ha).2⟩
                 have HF12 : Hid (∀ x ∈ ol11, ∀ a, x.A = some a → V9.heap.size ≤ a.block ∧ a.block < w11.heap.size) := Lib.hid fun x hx a ha => ⟨Nat.le_trans b10_.size (hf12 x hx a ha).1, (hf12 x hx a ha).2⟩
                 rw [← HN6.out]
                 have HNG9 : Hid (RdG (w11.alloc (.cells #[.slice A6 n6 c6, .bool b6, .slice K11 ol11.length f11] 27)) (some ⟨w11.heap.size, 0, none⟩) [⟨A6, xs6, c6, b6, K11, ol11, f11⟩] 1) := Lib.hid (by
                   have h9 := newG w11 ⟨A6, xs6, c6, b6, K11, ol11, f11⟩ (by unfold RegV.R; rw [hr11.reg]; exact hr11)
                   dsimp only at h9
                   rw [← HN6.out] at h9
                   exact h9)
                 have HYA9 : Hid (∀ x ∈ [(⟨A6, xs6, c6, b6, K11, ol11, f11⟩ : RegV)], ∀ y ∈ x.addrs, ∀ a, y = some a → (Value.slice A8 n8 e8).ownBlock ≠ some a.block ∧ a.block < w11.heap.size) := Lib.hid fun x hx y hy a ha => by
                   rw [List.mem_singleton.1 hx] at hy
                   have h3 := HVZ.out
                   have h4 := HZ6.out
                   have h5 := b11_.size
                   have h8 : wr.heap.size ≤ a.block ∧ a.block < w11.heap.size := by
                     rcases List.mem_append.1 hy with hy | hy
                     · have h1 := HA6.out y hy a ha
                       omega
                     · rcases List.mem_append.1 hy with hy | hy
                       · have h1 := HF11.out a (by rw [← ha]; exact (adr_mem hy).symm)
                         omega
                       · obtain ⟨z, hz, hy⟩ := List.mem_flatMap.1 hy
                         have h1 := HF12.out z hz a (by rw [← ha]; exact (adr_mem hy).symm)
                         omega
                   exact ⟨fun h9 => by have h1 := (HVL.out _ h9).2; omega, h8.2⟩
                 clear hr11 hb11 hf11 hf12)
              | (refine step_append_pt rfl _ _ rfl V9.heap.size (.slice A9 nb e9) bl (by rfl) HO9.out (some ⟨q9, o9, none⟩) (ol2.take k) k f2 HLK.out.symm (by rfl) (HRC.out _ b9_) (fun x hx y hy a ha => ⟨fun h9 => by have h1 := HAXC.out x (List.mem_of_mem_take hx) y hy a ha; have h2 := (HO9.out.lt _ h9).1; have h3 := HV6.out.size; omega, by have h1 := HAXC.out x (List.mem_of_mem_take hx) y hy a ha; have h2 := b9_.size; have h3 := HV6.out.size; simp; omega⟩) (by have := HN.out; have := HLB.out; have := HKB.out; rw [HLK.out]; omega) (by have h2 := b9_.size; simp; omega) ?_
                 intro v10 w10 hown10 hb10 hg10
                 have b10_ : Below V9.heap.size V9 w10 := b9_.trans hb10
                 obtain ⟨A10, e10, hfv10, _⟩ := hown10.form
                 have HR10 := Lib.hid (show RdB w10 A10 (bl ++ ol2.take k) e10 from by rw [hfv10] at hown10; exact hown10.rdB)
                 rw [List.length_append, HLK.out, ← HNB.out] at hfv10
                 subst hfv10
                 clear hown10 hb10 hg10)
              | (refine step_append_pt rfl _ _ rfl V9.heap.size (.slice none 0 0) [] (by rfl) (OwnP.empty _ _) H bl nb e HNB.out (by rfl) (HRB.out _ (below_drew (Below.refl _ _))) (fun x hx y hy a ha => ⟨by simp [Value.ownBlock], by have h1 := HAXB.out x hx y hy a ha; have h3 := HV6.out.size; simp; omega⟩) (by have := HN.out; simp; omega) (by simp) ?_
                 intro v9 w9 hown9 hb9 hg9
                 rw [List.nil_append] at hown9
                 obtain ⟨A9, e9, hfv9, _⟩ := hown9.form
                 rw [← HNB.out] at hfv9
                 subst hfv9
                 have b9_ : Below V9.heap.size V9 w9 := (below_drew (Below.refl _ _)).trans hb9
                 have HO9 := Lib.hid hown9
                 clear hown9 hb9 hg9))
          go_wp2
          go_roundg (n2 - (k + 1))
          case measure => go_light; omega
          case rel =>
            go_light
            have hln : (l ++ [(⟨A6, xs6, c6, b6, K11, ol11, f11⟩ : RegV)]).length = n8 + 1 := by rw [List.length_append, ← HL8.out]; rfl
            refine ⟨k + 1, n8 + 1, A12, e12, by omega, by go_num, rfl, HV6.out.trans (b11_.mono HV6.out.size) |>.trans (HB12.out), l ++ [⟨A6, xs6, c6, b6, K11, ol11, f11⟩], hln.symm, ?_⟩
            exact PInv.add HI.out HKH.out HOR.out (by rw [← HR1.out]; exact HR11.out.reg) (by rw [hln]; exact HO12.out)
      · have j1 : ¬ (k : Int) < (n2 : Int) := by omega
        have hkn2 : k = n2 := by omega
        obtain ⟨A9, c9, hv9, hrd9, _⟩ := hI.own.rd
        injection hv9 with hA9 _ hc9
        subst hA9 hc9
        have HRD := Lib.hid hrd9
        obtain ⟨L, hL⟩ : ∃ L, L = (Pt.Rg.minusL g h).map Pt.Rg.Reg.simp := ⟨_, rfl⟩
        have HL := Lib.hid hL
        have hML : l.map RegV.reg = L := by
          rw [hI.acc, (HHR.out V8 (Below.refl _ _)).eq, List.take_of_length_le (by have h1 := reg_len (HHR.out V8 (Below.refl _ _)); have h2 := HN2.out; omega), hL]
          rfl
        have HML := Lib.hid hML
        have HCKL : Hid (∀ x ∈ L, Pt.check x.base = 0 ∧ ∀ y ∈ x.holes, Pt.check y = 0) := Lib.hid fun x hx => by
          rw [hL] at hx
          obtain ⟨z, hz, rfl⟩ := List.mem_map.1 hx
          exact ⟨(minusL_sz HSG.out HSH.out HGA.out z hz).2, fun y hy => (Pt.Rg.simp_holes (Pt.Rg.simpL_is z.base z.holes) y hy).1⟩
        have HLEN : Hid (l.length ≤ 65) := Lib.hid (by have h9 := hI.len; have := HLB.out; have := HN2.out; omega)
        have HN8 := Lib.hid hl8
        have HAXL : Hid (∀ x ∈ l, ∀ y ∈ x.addrs, ∀ a, y = some a → a.block < wr.heap.size) := Lib.hid fun x hx y hy a ha => regV_lt (hrd9.parts x hx) y hy a ha
        have i6 : (n8 : Int) ≤ (e8 : Int) := by have h1 := hrd9.le; omega
        have HWR : Hid (Below w.heap.size w wr) := Lib.hid (HWV.out.trans (hbw.mono HWV.out.size))
        have hn8b : (n8 : Int) ≤ 65 := by have := HLEN.out; omega
        clear hI hbw hrd9 hL hML hk hkn hkn2 u0 u1 u2 ul hl8 HA
        generalize hwv : wr = V5 at *
        clear hwv
        go_wp2
        go_loopg [74, 13] n8 (fun gg s74 s13 wx => ∃ (k n9 : Nat) (A9 : Option Addr) (e9 : Nat), k + gg = n8 ∧ s74 = .int .i64 (k : Int) ∧ s13 = .slice A9 n9 e9 ∧ Below V5.heap.size V5 wx ∧ Aside (∃ out : List RegV, n9 = out.length ∧ QInv V5 L wx A9 e9 out k))
        case atStart => exact ⟨0, 0, none, 0, by omega, rfl, rfl, Below.refl _ _, [], rfl, OwnG.empty _ _, rfl, fun x h => (by cases h), Nat.le_refl _⟩
        case round =>
          obtain ⟨k, n9, A9, e9, hk, rfl, rfl, hby, HQ⟩ := hrel
          obtain ⟨out, hn9, hQ⟩ := HQ.out
          have HQI := Lib.hid hQ
          have HN9 := Lib.hid hn9
          have HBY := Lib.hid hby
          by_cases hkn : k < n8
          · have j2 : (k : Int) < (n8 : Int) := by omega
            have hkl : k < l.length := by rw [← HN8.out]; exact hkn
            have HKL : Hid (k < L.length) := Lib.hid (by rw [← HML.out, List.length_map]; exact hkl)
            have HKG : Hid (L[k]'HKL.out = l[k].reg) := Lib.hid (by simp only [← HML.out, List.getElem_map])
            obtain ⟨q9, o9, hA9, hq9, hcell⟩ := (HRD.out.keep hby).at (by omega)
            obtain ⟨e0, e1, e2⟩ := hcell k hkl
            obtain ⟨W2, hW2⟩ : ∃ W2, W2 = wr.alloc (regObj l[k].A l[k].xs.length l[k].c l[k].b l[k].H l[k].bl.length l[k].e) := ⟨_, rfl⟩
            have hal2 : Below wr.heap.size wr W2 := by rw [hW2]; exact (Below.refl _ _).alloc (Nat.le_refl _) _
            have HAL2 := Lib.hid hal2
            have hgb2 : GBox W2 wr.heap.size l[k].A l[k].xs.length l[k].c l[k].b l[k].H l[k].bl.length l[k].e := by rw [hW2]; exact GBox.new ..
            have HGB := Lib.hid (fun (w' : World) (hb : Below W2.heap.size W2 w') => hgb2.keep hb)
            have hRk := (HRD.out.keep (hby.trans (hal2.mono hby.size))).parts _ (List.getElem_mem hkl)
            have HRK := Lib.hid (fun (w' : World) (hb : Below W2.heap.size W2 w') => hRk.keep hb)
            have hlen := reg_len hRk
            have hck := HCKL.out l[k].reg (by rw [← HML.out]; exact List.mem_map_of_mem (List.getElem_mem hkl))
            have HLE := Lib.hid (fun (w' : World) (hb : Below W2.heap.size W2 w') => length_any l[k].A l[k].xs l[k].c l[k].b l[k].H l[k].bl l[k].e l[k].reg w' (hRk.keep hb) hck.1 hck.2)
            have HLO : Hid (∀ j, Pt.Rg.lenN l[k].reg.base l[k].reg.holes = some j → 0 < j) := Lib.hid fun j hj => by
              have := Pt.Rg.fits_two hck.1 (lenN_at3 hj)
              omega
            have HLEN2 := Lib.hid hlen
            have HAXK : Hid (∀ y ∈ l[k].addrs, ∀ a, y = some a → a.block < V5.heap.size) := Lib.hid (HAXL.out _ (List.getElem_mem hkl))
            obtain ⟨v0, v1, v2, vl⟩ := hgb2
            clear hal2 hcell hQ hn9 hRk hlen hck hby
            subst hA9
            generalize l[k] = yk at *
            clear hkl
            generalize hnk : yk.bl.length = nbk at *
            have HNK := Lib.hid hnk
            clear hnk
            by_cases h64 : nbk ≤ 64
            rotate_left
            · have i7 : (64 : Int) < (nbk : Int) := by omega
              have hno : mr = (none, 52) := by
                rw [HMR.out, HMV.out]
                have hkm : k < (Pt.Rg.minusL g h).length := by have h9 := HKL.out; rw [HL.out, List.length_map] at h9; exact h9
                have h8 : Pt.Rg.withP (Pt.Rg.minusL g h) = none := withP_no hkm (by
                  have h9 : (Pt.Rg.minusL g h)[k].simp = yk.reg := by rw [← HKG.out]; simp only [HL.out, List.getElem_map]
                  rw [h9, HLEN2.out]
                  exact h64)
                rw [h8]
              subst hno
              clear h64
              go_wp2
              refine bodyPost_ret (v := .tuple #[.slice none 0 0, .int .i64 52]) (by simp [results, Tryz.results19, go_sem]) rfl ⟨rfl, ?_⟩
              exact HWR.out.trans ((HBY.out.trans (((Below.refl _ _).alloc (Nat.le_refl _) _).mono HBY.out.size)).mono HWR.out.size)
            have i7 : ¬ (64 : Int) < (nbk : Int) := by omega
            have H64 : Hid ((L[k]'HKL.out).holes.length ≤ 64) := Lib.hid (by rw [HKG.out, HLEN2.out]; exact h64)
            clear h64
            generalize hln : Pt.Rg.lenN yk.reg.base yk.reg.holes = lo at HLE
            have HLN := Lib.hid (show Pt.Rg.Reg.empty (L[k]'HKL.out) = lo.isNone from by rw [HKG.out]; unfold Pt.Rg.Reg.empty; rw [hln])
            have HLO2 : Hid (∀ j, lo = some j → 0 < j) := Lib.hid fun j hj => HLO.out j (hln.trans hj)
            clear hln
            go_wp2_with fail
            subst hW2
            with_reducible refine (HLE.out _ (Below.refl _ _)).mono ?_
            rintro en w4 ⟨rfl, hb4⟩
            have hx4 := HAL2.out.trans (hb4.mono HAL2.out.size)
            have HX4 := Lib.hid hx4
            have HB4 := Lib.hid hb4
            clear v0 v1 v2 vl
            obtain ⟨v0, v1, v2, vl⟩ := HGB.out _ hb4
            clear hb4 hx4 e0 e1 e2
            cases lo with
            | none =>
              go_wp2
              go_roundg (n8 - (k + 1))
              case measure => go_light; omega
              case rel =>
                go_light
                exact ⟨k + 1, n9, A9, e9, by omega, by go_num, rfl, HBY.out.trans (HX4.out.mono HBY.out.size), out, HN9.out, HQI.out.skip HX4.out HKL.out H64.out (by rw [HLN.out]; rfl)⟩
            | some j =>
              have hj0 := HLO2.out j rfl
              have i8 : (0 : Int) < (j : Int) := by omega
              have HNEW : Hid (RdG (w4.alloc (.cells #[.slice yk.A yk.xs.length yk.c, .bool yk.b, .slice yk.H nbk yk.e] 27)) (some ⟨w4.heap.size, 0, none⟩) [yk] 1) := Lib.hid (by
                have h9 := newG w4 yk (HRK.out _ HB4.out)
                rw [HNK.out] at h9
                exact h9)
              have HOW : Hid (OwnG w4 V5.heap.size (.slice A9 out.length e9) out) := Lib.hid (HQI.out.own.below HX4.out)
              have HAP : Hid (∀ x ∈ [yk], ∀ z ∈ x.addrs, ∀ a, z = some a → (Value.slice A9 out.length e9).ownBlock ≠ some a.block ∧ a.block < w4.heap.size + 1) := Lib.hid fun x hx z hz a ha => by
                rw [List.mem_singleton.1 hx] at hz
                have h1 := HAXK.out z hz a ha
                have h2 := HBY.out.size
                have h3 := HX4.out.size
                exact ⟨fun e9 => by have h2 := (HQI.out.own.lt _ e9).1; omega, by omega⟩
              have hsz := HBY.out.size
              have hsz4 := HX4.out.size
              have hol := HQI.out.len
              simp only [Option.getD_some]
              clear hj0
              rw [HN9.out] at *
              go_wp2_with (refine wpList_append_rg rfl _ _ rfl V5.heap.size (.slice A9 out.length e9) out rfl (HOW.out.below ((Below.refl _ _).alloc (Nat.le_refl _) _)) (some ⟨w4.heap.size, 0, none⟩) [yk] 1 1 rfl rfl HNEW.out (by simpa using HAP.out) (by simp; omega) (by simp; omega) ?_; intro v9 w9 hown9 hb9 hg9)
              obtain ⟨A10, e10, hv10, _⟩ := hown9.form
              subst hv10
              go_roundg (n8 - (k + 1))
              case measure => go_light; omega
              case rel =>
                go_light
                have q1 : Below V5.heap.size V5 w4 := HBY.out.trans (HX4.out.mono HBY.out.size)
                have q2 : Below V5.heap.size V5 w9 := (q1.trans (((Below.refl w4.heap.size w4).alloc (Nat.le_refl _) _).mono q1.size)).trans hb9
                exact ⟨k + 1, _, A10, e10, by omega, by go_num, rfl, q2, out ++ [yk], rfl, HQI.out.add HKL.out H64.out (by rw [HLN.out]; rfl) HKG.out.symm hown9⟩
          · have j2 : ¬ (k : Int) < (n8 : Int) := by omega
            have hacc := hQ.acc
            have hall := hQ.all
            have hLl : L.length = l.length := by rw [← HML.out, List.length_map]
            rw [List.take_of_length_le (by have := HN8.out; omega)] at hacc hall
            have hmv : mr = (some (out.map RegV.reg), 0) := by
              rw [HMR.out, HMV.out, withP_filter (by rw [← HL.out]; exact hall), ← HL.out, hacc]
            subst hmv
            have HOW := Lib.hid hQ.own
            clear hacc hall hLl hQ hby
            go_wp2
            obtain ⟨A11, c11, hv11, hrd11, _⟩ := HOW.out.rd
            injection hv11 with hA11 _ hc11
            subst hA11 hc11
            refine bodyPost_ret (v := .tuple #[.slice A9 out.length e9, .int .i64 0]) (by simp [results, Tryz.results19, go_sem]) rfl ⟨A9, out, e9, rfl, rfl, hrd11, ?_⟩
            exact HWR.out.trans (HBY.out.mono HWR.out.size)
/-- A list of regions, or none, and the error. -/
def GivesMnU (w : World) (r : List Pt.Rg.Reg) (n : Nat) (e : Ending) (w' : World) : Prop := ∃ A ol c, e = .returned (.tuple #[.slice A (List.length ol) c, .int .i64 (n : Int)]) ∧ ol.map RegV.reg = r ∧ RdG w' A ol c ∧ Below w.heap.size w w'
theorem rdG_nil (w : World) : RdG w none [] 0 := ⟨.inl rfl, fun x h => (by cases h), Nat.le_refl _, by decide, fun _ => rfl⟩
theorem GivesMn.all {w w' : World} {o : Option (List Pt.Rg.Reg) × Nat} {e : Ending} (h : GivesMn w o e w') : GivesMnU w (o.1.getD []) o.2 e w' := by
  unfold GivesMn at h
  cases ho : o.1 with
  | none =>
    rw [ho] at h
    obtain ⟨rfl, hb⟩ := h
    exact ⟨none, [], 0, rfl, rfl, rdG_nil _, hb⟩
  | some r =>
    rw [ho] at h
    obtain ⟨A, ol, c, rfl, hol, hown, hb, _⟩ := h
    obtain ⟨A7, c7, hv, hrd, _⟩ := hown.rd
    injection hv with hA _ hc
    subst hA hc
    exact ⟨A, ol, c, rfl, hol, hrd, hb⟩
theorem GivesMnR.all {w w' : World} {o : Option (List Pt.Rg.Reg) × Nat} {e : Ending} (h : GivesMnR w o e w') : GivesMnU w (o.1.getD []) o.2 e w' := by
  unfold GivesMnR at h
  cases ho : o.1 with
  | none =>
    rw [ho] at h
    obtain ⟨rfl, hb⟩ := h
    exact ⟨none, [], 0, rfl, rfl, rdG_nil _, hb⟩
  | some r =>
    rw [ho] at h
    obtain ⟨A, ol, c, rfl, hol, hrd, hb⟩ := h
    exact ⟨A, ol, c, rfl, hol, hrd, hb⟩
theorem minus_same {ol ol2 : List RegV} {r : List Pt.Rg.Reg} (h1 : ol.map RegV.reg = r) (h2 : ol2.map RegV.reg = r) {A B : Option Addr} {c d : Nat} {U w' : World} (r1 : RdG U A ol c) (r2 : RdG U B ol2 d) (hb : Below U.heap.size U w') {k : Nat} (hk : k < ol.length) (hk2 : k < ol2.length) :
    Calls Tryz.prog 17 #[regV ol[k].A ol[k].xs.length ol[k].c ol[k].b ol[k].H ol[k].bl.length ol[k].e, regV ol2[k].A ol2[k].xs.length ol2[k].c ol2[k].b ol2[k].H ol2[k].bl.length ol2[k].e] w' (GivesBB w' true) := by
  have e1 : ol[k].reg = ol2[k].reg := by
    have h3 : (ol.map RegV.reg)[k]'(by rw [List.length_map]; exact hk) = (ol2.map RegV.reg)[k]'(by rw [List.length_map]; exact hk2) := by simp only [h1, h2]
    rw [List.getElem_map, List.getElem_map] at h3
    exact h3
  have p1 : RegV.R w' ol[k] := (r1.parts _ (List.getElem_mem hk)).keep hb
  have p2 : RegV.R w' ol2[k] := (r2.parts _ (List.getElem_mem hk2)).keep hb
  unfold RegV.R at p1 p2
  rw [← e1] at p2
  exact same_regs ol[k].A ol[k].xs ol[k].c ol[k].b ol[k].H ol[k].bl ol[k].e ol2[k].A ol2[k].xs ol2[k].c ol2[k].b ol2[k].H ol2[k].bl ol2[k].e ol[k].reg w' p1 p2
end Go.Proofs.YtembmegllpkmfaaGreatDoor
