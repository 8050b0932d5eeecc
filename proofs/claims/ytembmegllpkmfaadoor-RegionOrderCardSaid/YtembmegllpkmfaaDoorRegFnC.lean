/- The reference's covers and full. The reference's Length. The reference's Same of regions, where they are the same. cmp.Or of two errors, checkBoth. region.text. -/
import Derived.Test.YtembmegllpkmfaaDoorRegFnB
namespace Go.Proofs.YtembmegllpkmfaaDoor
open Go.RowKit

theorem covers_no {B h : Pt.Pat} {i n : Nat} (hf : Pt.fits h n = false) : Pt.Rg.covers B h i n = false := by unfold Pt.Rg.covers; rw [hf, Bool.false_and]
theorem covers_yes {B h : Pt.Pat} {i n : Nat} (hf : Pt.fits h n = true) (ha : ∀ j, i ≤ j → j < h.parts.length → Pt.inside (Pt.Rg.partAt B j) (Pt.Rg.partAt h j) = true) : Pt.Rg.covers B h i n = true := by
  unfold Pt.Rg.covers
  rw [hf, Bool.true_and, List.all_eq_true]
  intro j hj
  rw [List.mem_range] at hj
  by_cases h1 : j < i
  · rw [decide_eq_true h1]; rfl
  · rw [ha j (by omega) hj, Bool.or_true]
theorem covers_at {B h : Pt.Pat} {i n j : Nat} (h1 : i ≤ j) (h2 : j < h.parts.length) (h3 : Pt.inside (Pt.Rg.partAt B j) (Pt.Rg.partAt h j) = false) : Pt.Rg.covers B h i n = false := by
  unfold Pt.Rg.covers
  rw [Bool.and_eq_false_iff]
  right
  rw [List.all_eq_false]
  exact ⟨j, List.mem_range.2 h2, by rw [h3, decide_eq_false (by omega)]; decide⟩
theorem fits_le' {p : Pt.Pat} {n : Nat} (h : Pt.fits p n = true) : p.parts.length ≤ n := by
  unfold Pt.fits at h
  split at h
  · have := of_decide_eq_true h; omega
  · have := of_decide_eq_true h; omega
end Go.Proofs.YtembmegllpkmfaaDoor

namespace Go.Proofs.YtembmegllpkmfaaDoor
open Go.RowKit

theorem findN_one {B : Pt.Pat} {H : List Pt.Pat} {l1 l2 : Nat} (hB : Pt.check B = 0) (h1 : B.rest = false → l1 = B.parts.length) (h1' : B.rest = true → B.parts.length < l1 ∧ ∀ h ∈ H, h.parts.length < l1)
    (h2 : B.rest = false → l2 = B.parts.length) (h2' : B.rest = true → B.parts.length < l2 ∧ ∀ h ∈ H, h.parts.length < l2) : Pt.Rg.findN B H l1 = Pt.Rg.findN B H l2 := by
  obtain ⟨a1, a2⟩ := Pt.Rg.findN_ok (H := H) hB h1 h1'
  obtain ⟨b1, b2⟩ := Pt.Rg.findN_ok (H := H) hB h2 h2'
  cases ha : Pt.Rg.findN B H l1 with
  | none =>
    cases hb : Pt.Rg.findN B H l2 with
    | none => rfl
    | some n =>
      obtain ⟨f1, f2, _⟩ := b1 n hb
      rw [a2 ha n f1] at f2
      cases f2
  | some n =>
    obtain ⟨f1, f2, f3⟩ := a1 n ha
    cases hb : Pt.Rg.findN B H l2 with
    | none =>
      rw [b2 hb n f1] at f2
      cases f2
    | some k =>
      obtain ⟨g1, g2, g3⟩ := b1 k hb
      have hkn : n = k := by
        rcases Nat.lt_trichotomy n k with h | h | h
        · rw [g3 n h f1] at f2; cases f2
        · exact h
        · rw [f3 k h g1] at g2; cases g2
      rw [hkn]
end Go.Proofs.YtembmegllpkmfaaDoor

namespace Go.Proofs.YtembmegllpkmfaaDoor
open Go.RowKit

set_option maxHeartbeats 4000000 in
theorem same_regs (A : Option Addr) (xs : List ByteArray) (c : Nat) (b : Bool) (H : Option Addr) (bl : List BindV) (e : Nat) (B : Option Addr) (ys : List ByteArray) (d : Nat) (f : Bool) (K : Option Addr) (cl : List BindV) (e2 : Nat) (g : Pt.Rg.Reg) (w : World) (hg : RegR w A xs c b H bl e g) (hk : RegR w B ys d f K cl e2 g) :
    Calls Tryd.prog 7 #[regV A xs.length c b H bl.length e, regV B ys.length d f K cl.length e2] w (GivesBB w true) := by
  obtain ⟨W0, hW0⟩ : ∃ W0, W0 = (w.alloc (regObj A xs.length c b H bl.length e)).alloc (regObj B ys.length d f K cl.length e2) := ⟨_, rfl⟩
  have hal : Below w.heap.size w W0 := by rw [hW0]; exact ((Below.refl _ _).alloc (Nat.le_refl _) _).alloc (by simp) _
  have HAL := Lib.hid hal
  have hbx : GBox W0 w.heap.size A xs.length c b H bl.length e := by rw [hW0]; exact (GBox.new ..).keep ((Below.refl _ _).alloc (Nat.le_refl _) _)
  have hby : GBox W0 (w.heap.size + 1) B ys.length d f K cl.length e2 := by
    rw [hW0]
    have h := GBox.new (w.alloc (regObj A xs.length c b H bl.length e)) B ys.length d f K cl.length e2
    rw [show (w.alloc (regObj A xs.length c b H bl.length e)).heap.size = w.heap.size + 1 by simp] at h
    exact h
  have hlen : cl.length = bl.length := by rw [← reg_len hg, reg_len hk]
  have HLE := Lib.hid hlen
  have HCB := Lib.hid (same_pats A B xs ys c d b f g.base W0 (hg.keep hal).base (hk.keep hal).base)
  have HCH := Lib.hid (fun (k : Nat) (h1 : k < bl.length) (h2 : k < cl.length) (w' : World) (hb : Below W0.heap.size W0 w') => show Calls Tryd.prog 11 #[patV bl[k].A bl[k].xs.length bl[k].c bl[k].b, patV cl[k].A cl[k].xs.length cl[k].c cl[k].b] w' (GivesBB w' true) from by
    have e1 := reg_at hg h1
    have e2 := reg_at hk h2
    have h3 := ((hk.keep hal).keep hb).holes.parts _ (List.getElem_mem h2)
    rw [← e2, e1] at h3
    exact same_pats bl[k].A cl[k].A bl[k].xs cl[k].xs bl[k].c cl[k].c bl[k].b cl[k].b bl[k].pat w' (((hg.keep hal).keep hb).holes.parts _ (List.getElem_mem h1)) h3)
  have G0 := Lib.hid (hg.keep hal).holes
  have K0 := Lib.hid (hk.keep hal).holes
  have hle := hg.holes.le
  have hcm := hg.holes.cm
  have hmi : (bl.length : Int) ≤ 9223372036854775807 := by unfold maxLen at hcm; omega
  rw [hlen] at hby hW0 ⊢
  have HBX := Lib.hid hbx
  have HBY := Lib.hid hby
  clear hg hk hal hle hcm hlen
  generalize xs.length = nx at *
  generalize ys.length = ny at *
  obtain ⟨t0, t1, t2, tl⟩ := hbx
  obtain ⟨r0, r1, r2, rl⟩ := hby
  go_enter Tryd.func7, Tryd.ntmps7
  go_wp2_with fail
  generalize hwg : (w.alloc (regObj A nx c b H bl.length e)).alloc (regObj B ny d f K bl.length e2) = W
  have hWW : W = W0 := by rw [← hwg, hW0]
  subst hWW
  clear hwg hW0
  with_reducible refine HCB.out.mono ?_
  rintro en u1 ⟨rfl, hb1⟩
  have hX := HBX.out.keep hb1
  have hY := HBY.out.keep hb1
  have HB1 := Lib.hid hb1
  clear hb1 t0 t1 t2 tl r0 r1 r2 rl
  obtain ⟨t0, t1, t2, tl⟩ := hX
  obtain ⟨r0, r1, r2, rl⟩ := hY
  go_wp2
  go_loopg [25] bl.length (fun gg s25 wx => ∃ (k : Nat), k + gg = bl.length ∧ s25 = .int .i64 (k : Int) ∧ Below W.heap.size W wx)
  case atStart => exact ⟨0, by omega, rfl, HB1.out⟩
  case round =>
    obtain ⟨k, hk, rfl, hbw⟩ := hrel
    have HBW := Lib.hid hbw
    have hY := HBY.out.keep hbw
    clear t0 t1 t2 tl r0 r1 r2 rl
    by_cases hkn : k < bl.length
    · have i1 : (k : Int) < (bl.length : Int) := by omega
      have i2 : (0 : Int) ≤ (k : Int) := Int.natCast_nonneg _
      have hk2 : k < cl.length := by rw [HLE.out]; exact hkn
      obtain ⟨q, o, hA, hq, hcell⟩ := (G0.out.keep hbw).at (by omega)
      subst hA
      obtain ⟨e0, e1⟩ := hcell k hkn
      obtain ⟨q2, o2, hA2, hq2, hcell2⟩ := (K0.out.keep hbw).at (by omega)
      subst hA2
      obtain ⟨x0, x1⟩ := hcell2 k hk2
      clear hcell hcell2
      have hsw := hbw.size
      go_wp2_with fail
      generalize hwg : wr.alloc (.cells #[.slice bl[k].A bl[k].xs.length bl[k].c, .bool bl[k].b] 24) = W9
      have ha : Below wr.heap.size wr W9 := by rw [← hwg]; exact (Below.refl _ _).alloc (Nat.le_refl _) _
      have y0 : W9.cell? ⟨wr.heap.size, 0, none⟩ = some (.slice bl[k].A bl[k].xs.length bl[k].c) := by rw [← hwg]; exact cells_new _ _ _ 0 _ rfl
      have y1 : W9.cell? ⟨wr.heap.size, 1, none⟩ = some (.bool bl[k].b) := by rw [← hwg]; exact cells_new _ _ _ 1 _ rfl
      have yl : wr.heap.size < W9.heap.size := by rw [← hwg]; simp
      clear hwg
      obtain ⟨r0, r1, r2, rl⟩ := hY.keep ha
      have z0 := (ha.cell (p := ⟨q2, o2 + k * 2, none⟩) hq2).trans x0
      have z1 := (ha.cell (p := ⟨q2, o2 + k * 2 + 1, none⟩) hq2).trans x1
      have zl := Nat.lt_of_lt_of_le hq2 ha.size
      have HW9 := Lib.hid (hbw.trans (ha.mono hsw))
      have HC2 := Lib.hid (HCH.out k hkn hk2 W9.drew (below_drew HW9.out))
      clear ha x0 x1 e0 e1 hq hq2 hY hbw
      set_option maxRecDepth 100000 in
      go_region_held3 (fun w' => w'.cell? ⟨wr.heap.size, 0, none⟩ = some (.slice bl[k].A bl[k].xs.length bl[k].c) ∧ w'.cell? ⟨wr.heap.size, 1, none⟩ = some (.bool bl[k].b) ∧ w'.cell? ⟨w.heap.size + 1, 2, none⟩ = some (.slice (some ⟨q2, o2, none⟩) bl.length e2) ∧ w'.cell? ⟨q2, o2 + k * 2, none⟩ = some (.slice cl[k].A cl[k].xs.length cl[k].c) ∧ w'.cell? ⟨q2, o2 + k * 2 + 1, none⟩ = some (.bool cl[k].b))
        (first | exact ⟨(hb.cell (p := ⟨wr.heap.size, 0, none⟩) (by exact yl)).trans y0, (hb.cell (p := ⟨wr.heap.size, 1, none⟩) (by exact yl)).trans y1, (hb.cell (p := ⟨w.heap.size + 1, 2, none⟩) (by exact rl)).trans r2, (hb.cell (p := ⟨q2, o2 + k * 2, none⟩) (by exact zl)).trans z0, (hb.cell (p := ⟨q2, o2 + k * 2 + 1, none⟩) (by exact zl)).trans z1⟩ | go_keep)
        ((go_at_call 11; have hcc := HC2.out; with_reducible refine hcc.mono ?_; intro en w' hh; unfold GivesBB at hh; obtain ⟨rfl, hb⟩ := hh))
      have HB2 := Lib.hid (HW9.out.trans ((below_drew (Below.refl _ _)).trans (hb.mono (by exact Nat.le_refl _)) |>.mono HW9.out.size))
      clear hb
      go_wp2
      go_roundg (bl.length - (k + 1))
      case measure => go_light; omega
      case rel =>
        go_light
        exact ⟨k + 1, by omega, by go_num, HB2.out⟩
    · have i1 : ¬ (k : Int) < (bl.length : Int) := by omega
      clear hbw
      go_wp2
      go_ret
      exact ⟨rfl, HAL.out.trans (HBW.out.mono HAL.out.size)⟩
end Go.Proofs.YtembmegllpkmfaaDoor

namespace Go.Proofs.YtembmegllpkmfaaDoor
open Go.RowKit

def orN (x y : Nat) : Nat := if x = 0 then y else x
end Go.Proofs.YtembmegllpkmfaaDoor

namespace Go.Proofs.YtembmegllpkmfaaDoor
open Go.RowKit

set_option maxHeartbeats 2000000 in
theorem gtext_any (A : Option Addr) (xs : List ByteArray) (c : Nat) (b : Bool) (p : Pt.Pat) (w : World) (hp : PatR w A xs c b p) (hk : Pt.check p = 0) (hlen : (Lib.join p.parts [47]).length ≤ 140737488350000) (hN : xs.length ≤ 140737488355328) :
    Calls Tryd.prog 25 #[patV A xs.length c b] w (GivesS w (Pt.text p)) := by
  obtain ⟨W0, hW0⟩ : ∃ W0, W0 = w.alloc (.cells #[.slice A xs.length c, .bool b] 24) := ⟨_, rfl⟩
  have hal : Below w.heap.size w W0 := by rw [hW0]; exact (Below.refl _ _).alloc (Nat.le_refl _) _
  have HAL := Lib.hid hal
  have hby : PBox W0 w.heap.size A xs.length c b := by rw [hW0]; exact PBox.new ..
  have hc := format_any A xs c b p W0 (hp.keep hal) hlen hN
  rw [show formatted p = Pt.text p by unfold formatted; rw [if_pos hk], hk] at hc
  have HC := Lib.hid hc
  obtain ⟨t0, t1, tl⟩ := hby
  generalize Pt.text p = v at *
  generalize xs.length = n at *
  clear hp hal hlen hN hc hk
  subst hW0
  go_enter Tryd.func25, Tryd.ntmps25
  go_wp2_with fail
  with_reducible refine HC.out.mono ?_
  intro e w1 hh
  unfold GivesS2 at hh
  obtain ⟨rfl, hb⟩ := hh
  have HB := Lib.hid hb
  clear hb
  go_wp2
  go_ret
  exact ⟨rfl, HAL.out.trans (HB.out.mono HAL.out.size)⟩
end Go.Proofs.YtembmegllpkmfaaDoor
