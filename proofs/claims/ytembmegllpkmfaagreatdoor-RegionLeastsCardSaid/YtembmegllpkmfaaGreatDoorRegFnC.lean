/- The reference's covers and full. The reference's Length. The reference's Same of regions, where they are the same. cmp.Or of two errors, checkBoth. region.text. -/
import Derived.Test.YtembmegllpkmfaaGreatDoorRegFnB
namespace Go.Proofs.YtembmegllpkmfaaGreatDoor
open Go.RowKit

theorem covers_no {B h : Pt.Pat} {i n : Nat} (hf : Pt.fits h n = false) : Pt.Rg.covers B h i n = false := by unfold Pt.Rg.covers; rw [hf, Bool.false_and]
theorem covers_yes {B h : Pt.Pat} {i n : Nat} (hf : Pt.fits h n = true) (ha : ∀ j, i ≤ j → j < h.parts.length → Pt.inside (Pt.Rg.partAt B j) (Pt.Rg.partAt h j) = true) : Pt.Rg.covers B h i n = true := by
  unfold Pt.Rg.covers
  rw [hf, Bool.true_and, List.all_eq_true]
  intro j hj
  rw [List.mem_range] at hj
  by_cases h1 : j < i
  · rw [decide_eq_true h1]; rfl
  · rw [ha j (by omega) hj, Bool.or_true]
theorem covers_at {B h : Pt.Pat} {i n j : Nat} (h1 : i ≤ j) (h2 : j < h.parts.length) (h3 : Pt.inside (Pt.Rg.partAt B j) (Pt.Rg.partAt h j) = false) : Pt.Rg.covers B h i n = false := by
  unfold Pt.Rg.covers
  rw [Bool.and_eq_false_iff]
  right
  rw [List.all_eq_false]
  exact ⟨j, List.mem_range.2 h2, by rw [h3, decide_eq_false (by omega)]; decide⟩
theorem fits_le' {p : Pt.Pat} {n : Nat} (h : Pt.fits p n = true) : p.parts.length ≤ n := by
  unfold Pt.fits at h
  split at h
  · have := of_decide_eq_true h; omega
  · have := of_decide_eq_true h; omega
set_option maxHeartbeats 4000000 in
theorem gcovers_any (A B : Option Addr) (xs ys : List ByteArray) (c d : Nat) (b f : Bool) (p q : Pt.Pat) (i n : Nat) (w : World) (hp : PatR w A xs c b p) (hq : PatR w B ys d f q) (hin : i ≤ n) :
    Calls Tryz.prog 89 #[patV A xs.length c b, patV B ys.length d f, .int .i64 (i : Int), .int .i64 (n : Int)] w (GivesBB w (Pt.Rg.covers p q i n)) := by
  obtain ⟨W0, hW0⟩ : ∃ W0, W0 = (w.alloc (.cells #[.slice A xs.length c, .bool b] 24)).alloc (.cells #[.slice B ys.length d, .bool f] 24) := ⟨_, rfl⟩
  have hal : Below w.heap.size w W0 := by rw [hW0]; exact ((Below.refl _ _).alloc (Nat.le_refl _) _).alloc (by simp) _
  have HAL := Lib.hid hal
  have hcl := box2_cells (w := w) (w' := W0) (v0 := .slice A xs.length c) (v1 := .bool b) (u0 := .slice B ys.length d) (u1 := .bool f) (t := 24) (by rw [← hW0]; exact Below.refl _ _)
  have hz1 : w.heap.size + 1 < W0.heap.size := by rw [hW0]; simp
  have hz0 : w.heap.size < W0.heap.size := by omega
  have HQ := Lib.hid (hq.keep hal)
  have HCC := Lib.hid (gcounts_any B ys d f q n W0 (hq.keep hal))
  have HPA := Lib.hid (fun (k : Nat) (w' : World) (hb : Below W0.heap.size W0 w') => gpart_any A xs c b p k w'.drew (((hp.keep hal).keep hb).keep (below_drew (Below.refl _ _))))
  have HPI := Lib.hid (fun (k : Nat) (h : k < ys.length) => partAt_in hq h)
  have HSZ := Lib.hid hq.sz
  have HLQ := Lib.hid hq.len
  have HFL := Lib.hid (fun (h : Pt.fits q n = true) => fits_le' h)
  have HNO := Lib.hid (fun (h : Pt.fits q n = false) => covers_no (B := p) (i := i) h)
  have HYES := Lib.hid (fun (h : Pt.fits q n = true) => covers_yes (B := p) (i := i) h)
  have HAT := Lib.hid (fun (j : Nat) => covers_at (B := p) (h := q) (i := i) (n := n) (j := j))
  have HCL := Lib.hid hcl
  generalize Pt.Rg.covers p q i n = v at *
  generalize xs.length = nx at *
  obtain ⟨m, hm⟩ : ∃ m, m = ys.length := ⟨_, rfl⟩
  rw [← hm] at hcl HCL HCC hW0 ⊢
  have HM := Lib.hid hm
  have hcm := hq.cm
  have hle := hq.le
  have hmi : (m : Int) ≤ 9223372036854775807 := by rw [hm]; unfold maxLen at hcm; omega
  clear hp hq hal hm hcm hle
  obtain ⟨c0, c1, c2, c3⟩ := hcl
  cases hf : Pt.fits q n with
  | false =>
    have hv := HNO.out hf
    subst hv
    rw [hf] at HCC
    clear hf
    subst hW0
    go_enter Tryz.func89, Tryz.ntmps89
    go_wp2_with fail
    with_reducible refine HCC.out.mono ?_
    rintro e w1 ⟨rfl, hb⟩
    have HB := Lib.hid hb
    clear hb
    go_wp2
    go_ret
    exact ⟨rfl, HAL.out.trans (HB.out.mono HAL.out.size)⟩
  | true =>
    have HF := Lib.hid hf
    rw [hf] at HCC
    clear hf
    go_enter Tryz.func89, Tryz.ntmps89
    go_wp2_with fail
    generalize hwg : (w.alloc (.cells #[.slice A nx c, .bool b] 24)).alloc (.cells #[.slice B m d, .bool f] 24) = W
    have hWW : W = W0 := by rw [← hwg, hW0]
    subst hWW
    clear hwg hW0
    with_reducible refine HCC.out.mono ?_
    rintro e w1 ⟨rfl, hb⟩
    have HB := Lib.hid hb
    clear hb
    go_wp2
    go_loopg [2] (n - i) (fun gg s2 wx => ∃ (k : Nat), k + gg = n ∧ i ≤ k ∧ s2 = .int .i64 (k : Int) ∧ Below W.heap.size W wx ∧ Aside (∀ j, i ≤ j → j < k → j < q.parts.length → Pt.inside (Pt.Rg.partAt p j) (Pt.Rg.partAt q j) = true))
    case atStart => exact ⟨i, by omega, Nat.le_refl _, rfl, HB.out, fun j h1 h2 => absurd h2 (Nat.not_lt.2 h1)⟩
    case round =>
      obtain ⟨k, hk, hik, rfl, hbw, HA⟩ := hrel
      have HBW := Lib.hid hbw
      have d0 := (hbw.cell (p := ⟨w.heap.size, 0, none⟩) hz0).trans c0
      have d1 := (hbw.cell (p := ⟨w.heap.size, 1, none⟩) hz0).trans c1
      have d2 := (hbw.cell (p := ⟨w.heap.size + 1, 0, none⟩) hz1).trans c2
      have d3 := (hbw.cell (p := ⟨w.heap.size + 1, 1, none⟩) hz1).trans c3
      have hy0 := Nat.lt_of_lt_of_le hz0 hbw.size
      have hy1 := Nat.lt_of_lt_of_le hz1 hbw.size
      clear c0 c1 c2 c3 hz0 hz1
      by_cases hkn : k < n
      · have i1 : (k : Int) < (n : Int) := by omega
        by_cases hkm : k < m
        · have i2 : (k : Int) < (m : Int) := by omega
          have i3 : (0 : Int) ≤ (k : Int) := Int.natCast_nonneg _
          have hky : k < ys.length := by rw [← HM.out]; exact hkm
          obtain ⟨g, o, hA, hg, hc⟩ := (HQ.out.keep hbw).rd.cells (by omega)
          subst hA
          have ck := hc k hky
          have HY := Lib.hid (HPI.out k hky)
          have hyz := HSZ.out _ (List.getElem_mem hky)
          have HC := Lib.hid (HPA.out k wr hbw)
          generalize ys[k] = y at *
          have HIN := Lib.hid (fun (x : ByteArray) (hx : x.data.toList = Pt.Rg.partAt p k) (hxz : x.size ≤ maxLen) (w' : World) => show Calls Tryz.prog 93 #[.string x, .string y] w' (fun e w'' => e = .returned (.bool (Pt.inside (Pt.Rg.partAt p k) (Pt.Rg.partAt q k))) ∧ w' = w'') from by
            have h1 := rinside_any x y w' hxz hyz
            rw [hx, HY.out] at h1
            exact h1)
          clear hc hbw hky hyz
          have hqk : k < q.parts.length := by rw [HLQ.out, ← HM.out]; exact hkm
          have HQK := Lib.hid hqk
          clear hqk
          cases hins : Pt.inside (Pt.Rg.partAt p k) (Pt.Rg.partAt q k) with
          | true =>
            rw [hins] at HIN
            have HI := Lib.hid hins
            clear hins
            go_wp2_with fail
            set_option maxRecDepth 100000 in
            go_region_held3 (fun w' => w'.cell? ⟨w.heap.size, 0, none⟩ = some (.slice A nx c) ∧ w'.cell? ⟨w.heap.size, 1, none⟩ = some (.bool b) ∧ w'.cell? ⟨w.heap.size + 1, 0, none⟩ = some (.slice (some ⟨g, o, none⟩) m d) ∧ w'.cell? ⟨w.heap.size + 1, 1, none⟩ = some (.bool f) ∧ w'.cell? ⟨g, o + k, none⟩ = some (.string y))
              (first | exact ⟨(hb.cell (p := ⟨w.heap.size, 0, none⟩) (by exact hy0)).trans d0, (hb.cell (p := ⟨w.heap.size, 1, none⟩) (by exact hy0)).trans d1, (hb.cell (p := ⟨w.heap.size + 1, 0, none⟩) (by exact hy1)).trans d2, (hb.cell (p := ⟨w.heap.size + 1, 1, none⟩) (by exact hy1)).trans d3, (hb.cell (p := ⟨g, o + k, none⟩) (by exact hg)).trans ck⟩ | assumption | go_keep)
              (first
                | (go_at_call 35; have hcc := HC.out; with_reducible refine hcc.mono ?_; intro e w' hh; unfold GivesStr at hh; obtain ⟨x, rfl, hx, hxz, hb⟩ := hh; have hcin := HIN.out x hx hxz w')
                | (go_at_call 93; with_reducible refine hcin.mono ?_; rintro e w' ⟨rfl, rfl⟩))
            have HBN := Lib.hid (HBW.out.trans ((below_drew (Below.refl _ _)).trans (hb.mono (by exact Nat.le_refl _)) |>.mono HBW.out.size))
            clear hb
            go_wp2
            go_roundg (n - (k + 1))
            case measure => go_light; omega
            case rel =>
              go_light
              refine ⟨k + 1, by omega, by omega, by go_num, HBN.out, (show Aside _ from fun j h1 h2 h3 => ?_)⟩
              by_cases ej : j = k
              · rw [ej]; exact HI.out
              · exact HA.out j h1 (by omega) h3
          | false =>
            have hv := HAT.out k hik HQK.out hins
            subst hv
            rw [hins] at HIN
            clear hins
            go_wp2_with fail
            set_option maxRecDepth 100000 in
            go_region_held3 (fun w' => w'.cell? ⟨w.heap.size, 0, none⟩ = some (.slice A nx c) ∧ w'.cell? ⟨w.heap.size, 1, none⟩ = some (.bool b) ∧ w'.cell? ⟨w.heap.size + 1, 0, none⟩ = some (.slice (some ⟨g, o, none⟩) m d) ∧ w'.cell? ⟨w.heap.size + 1, 1, none⟩ = some (.bool f) ∧ w'.cell? ⟨g, o + k, none⟩ = some (.string y))
              (first | exact ⟨(hb.cell (p := ⟨w.heap.size, 0, none⟩) (by exact hy0)).trans d0, (hb.cell (p := ⟨w.heap.size, 1, none⟩) (by exact hy0)).trans d1, (hb.cell (p := ⟨w.heap.size + 1, 0, none⟩) (by exact hy1)).trans d2, (hb.cell (p := ⟨w.heap.size + 1, 1, none⟩) (by exact hy1)).trans d3, (hb.cell (p := ⟨g, o + k, none⟩) (by exact hg)).trans ck⟩ | assumption | go_keep)
              (first
                | (go_at_call 35; have hcc := HC.out; with_reducible refine hcc.mono ?_; intro e w' hh; unfold GivesStr at hh; obtain ⟨x, rfl, hx, hxz, hb⟩ := hh; have hcin := HIN.out x hx hxz w')
                | (go_at_call 93; with_reducible refine hcin.mono ?_; rintro e w' ⟨rfl, rfl⟩))
            have HBN := Lib.hid (HBW.out.trans ((below_drew (Below.refl _ _)).trans (hb.mono (by exact Nat.le_refl _)) |>.mono HBW.out.size))
            clear hb
            go_wp2
            go_ret
            exact ⟨rfl, HAL.out.trans (HBN.out.mono HAL.out.size)⟩
        · have i2 : ¬ (k : Int) < (m : Int) := by omega
          have hv : v = true := HYES.out HF.out fun j h1 h2 => HA.out j h1 (by have h3 := HLQ.out; have h4 := HM.out; omega) h2
          subst hv
          clear hbw
          go_wp2
          go_ret
          exact ⟨rfl, HAL.out.trans (HBW.out.mono HAL.out.size)⟩
      · have i1 : ¬ (k : Int) < (n : Int) := by omega
        have hv : v = true := HYES.out HF.out fun j h1 h2 => HA.out j h1 (by have h3 := HFL.out HF.out; omega) h2
        subst hv
        clear hbw
        go_wp2
        go_ret
        exact ⟨rfl, HAL.out.trans (HBW.out.mono HAL.out.size)⟩
set_option maxHeartbeats 4000000 in
theorem gfull_any (A : Option Addr) (xs : List ByteArray) (c : Nat) (b : Bool) (H : Option Addr) (bl : List BindV) (e : Nat) (g : Pt.Rg.Reg) (n : Nat) (w : World) (hg : RegR w A xs c b H bl e g) :
    Calls Tryz.prog 85 #[regV A xs.length c b H bl.length e, .int .i64 (n : Int)] w (GivesBB w (g.holes.any fun h => Pt.Rg.covers g.base h 0 n)) := by
  obtain ⟨W0, hW0⟩ : ∃ W0, W0 = w.alloc (regObj A xs.length c b H bl.length e) := ⟨_, rfl⟩
  have hal : Below w.heap.size w W0 := by rw [hW0]; exact (Below.refl _ _).alloc (Nat.le_refl _) _
  have HAL := Lib.hid hal
  have hbx : GBox W0 w.heap.size A xs.length c b H bl.length e := by rw [hW0]; exact GBox.new ..
  have HBX := Lib.hid hbx
  have G0 := Lib.hid (hg.keep hal)
  have HCH := Lib.hid (fun (k : Nat) (hk : k < bl.length) (w' : World) (hb : Below W0.heap.size W0 w') => gcovers_any A bl[k].A xs bl[k].xs c bl[k].c b bl[k].b g.base bl[k].pat 0 n w' ((hg.keep hal).keep hb).base (((hg.keep hal).keep hb).holes.parts _ (List.getElem_mem hk)) (Nat.zero_le _))
  have HIN := Lib.hid (fun (k : Nat) (hk : k < bl.length) (h : Pt.Rg.covers g.base bl[k].pat 0 n = true) => show (g.holes.any fun h => Pt.Rg.covers g.base h 0 n) = true from List.any_eq_true.2 ⟨_, reg_hole hg hk, h⟩)
  have HALL := Lib.hid (fun (h : ∀ k (hk : k < bl.length), Pt.Rg.covers g.base bl[k].pat 0 n = false) => show (g.holes.any fun h => Pt.Rg.covers g.base h 0 n) = false from by
    rw [List.any_eq_false]
    intro x hx
    rw [← hg.eq] at hx
    obtain ⟨y, hy, rfl⟩ := List.mem_map.1 hx
    obtain ⟨k, hk, rfl⟩ := List.mem_iff_getElem.1 hy
    rw [h k hk]
    decide)
  have hle := hg.holes.le
  have hcm := hg.holes.cm
  have hmi : (bl.length : Int) ≤ 9223372036854775807 := by unfold maxLen at hcm; omega
  generalize (g.holes.any fun h => Pt.Rg.covers g.base h 0 n) = v at *
  clear hg hal hle hcm
  generalize xs.length = nx at *
  obtain ⟨t0, t1, t2, tl⟩ := hbx
  go_enter Tryz.func85, Tryz.ntmps85
  go_wp2
  generalize hwg : w.alloc (regObj A nx c b H bl.length e) = W5
  have hWW : W5 = W0 := by rw [← hwg, hW0]
  subst hWW
  clear hwg hW0
  go_loopg [10] bl.length (fun gg s10 wx => ∃ (k : Nat), k + gg = bl.length ∧ s10 = .int .i64 (k : Int) ∧ Below W5.heap.size W5 wx ∧ Aside (∀ j (hj : j < bl.length), j < k → Pt.Rg.covers g.base bl[j].pat 0 n = false))
  case atStart => exact ⟨0, by omega, rfl, Below.refl _ _, fun j _ h => absurd h (Nat.not_lt_zero _)⟩
  case round =>
    obtain ⟨k, hk, rfl, hbw, HA⟩ := hrel
    have HBW := Lib.hid hbw
    have HG := Lib.hid (G0.out.keep hbw)
    clear t0 t1 t2 tl
    by_cases hkn : k < bl.length
    · have i1 : (k : Int) < (bl.length : Int) := by omega
      obtain ⟨q, o, hA, hq, hcell⟩ := HG.out.holes.at (by omega)
      subst hA
      obtain ⟨e0, e1⟩ := hcell k hkn
      obtain ⟨s0, s1, s2, sl⟩ := HBX.out.keep hbw
      have ha : Below wr.heap.size wr (wr.alloc (.cells #[.slice bl[k].A bl[k].xs.length bl[k].c, .bool bl[k].b] 24)) := (Below.refl _ _).alloc (Nat.le_refl _) _
      have HW2 := Lib.hid (hbw.trans (ha.mono hbw.size))
      have HC2 := Lib.hid (HCH.out k hkn _ (hbw.trans (ha.mono hbw.size)))
      rw [show (((0 : Nat) : Int)) = 0 from rfl] at HC2
      clear hcell hbw ha
      have HOF := Lib.hid (HIN.out k hkn)
      cases hck : Pt.Rg.covers g.base bl[k].pat 0 n with
      | false =>
        have HZ := Lib.hid hck
        rw [hck] at HC2
        clear hck HOF
        go_wp2_with fail
        with_reducible refine HC2.out.mono ?_
        rintro e u2 ⟨rfl, hb2⟩
        have HB2 := Lib.hid (HW2.out.trans (hb2.mono HW2.out.size))
        clear hb2
        go_wp2
        go_roundg (bl.length - (k + 1))
        case measure => go_light; omega
        case rel =>
          go_light
          refine ⟨k + 1, by omega, by go_num, HB2.out, (show Aside _ from fun j hj hjk => ?_)⟩
          by_cases ej : j = k
          · subst ej; exact HZ.out
          · exact HA.out j hj (by omega)
      | true =>
        have hv : v = true := HOF.out hck
        subst hv
        rw [hck] at HC2
        clear hck HOF
        go_wp2_with fail
        with_reducible refine HC2.out.mono ?_
        rintro e u2 ⟨rfl, hb2⟩
        have HB2 := Lib.hid (HW2.out.trans (hb2.mono HW2.out.size))
        clear hb2
        go_wp2
        go_ret
        exact ⟨rfl, HAL.out.trans (HB2.out.mono HAL.out.size)⟩
    · have i1 : ¬ (k : Int) < (bl.length : Int) := by omega
      have hv : v = false := HALL.out fun j hj => HA.out j hj (by omega)
      subst hv
      clear hbw
      go_wp2
      go_ret
      exact ⟨rfl, HAL.out.trans (HBW.out.mono HAL.out.size)⟩
end Go.Proofs.YtembmegllpkmfaaGreatDoor

namespace Go.Proofs.YtembmegllpkmfaaGreatDoor
open Go.RowKit

theorem findN_one {B : Pt.Pat} {H : List Pt.Pat} {l1 l2 : Nat} (hB : Pt.check B = 0) (h1 : B.rest = false → l1 = B.parts.length) (h1' : B.rest = true → B.parts.length < l1 ∧ ∀ h ∈ H, h.parts.length < l1)
    (h2 : B.rest = false → l2 = B.parts.length) (h2' : B.rest = true → B.parts.length < l2 ∧ ∀ h ∈ H, h.parts.length < l2) : Pt.Rg.findN B H l1 = Pt.Rg.findN B H l2 := by
  obtain ⟨a1, a2⟩ := Pt.Rg.findN_ok (H := H) hB h1 h1'
  obtain ⟨b1, b2⟩ := Pt.Rg.findN_ok (H := H) hB h2 h2'
  cases ha : Pt.Rg.findN B H l1 with
  | none =>
    cases hb : Pt.Rg.findN B H l2 with
    | none => rfl
    | some n =>
      obtain ⟨f1, f2, _⟩ := b1 n hb
      rw [a2 ha n f1] at f2
      cases f2
  | some n =>
    obtain ⟨f1, f2, f3⟩ := a1 n ha
    cases hb : Pt.Rg.findN B H l2 with
    | none =>
      rw [b2 hb n f1] at f2
      cases f2
    | some k =>
      obtain ⟨g1, g2, g3⟩ := b1 k hb
      have hkn : n = k := by
        rcases Nat.lt_trichotomy n k with h | h | h
        · rw [g3 n h f1] at f2; cases f2
        · exact h
        · rw [f3 k h g1] at g2; cases g2
      rw [hkn]
set_option maxHeartbeats 4000000 in
theorem length_any (A : Option Addr) (xs : List ByteArray) (c : Nat) (b : Bool) (H : Option Addr) (bl : List BindV) (e : Nat) (g : Pt.Rg.Reg) (w : World) (hg : RegR w A xs c b H bl e g) (hB : Pt.check g.base = 0) (hH : ∀ h ∈ g.holes, Pt.check h = 0) :
    Calls Tryz.prog 33 #[regV A xs.length c b H bl.length e] w (GivesN w ((Pt.Rg.lenN g.base g.holes).getD 0)) := by
  obtain ⟨W0, hW0⟩ : ∃ W0, W0 = w.alloc (regObj A xs.length c b H bl.length e) := ⟨_, rfl⟩
  have hal : Below w.heap.size w W0 := by rw [hW0]; exact (Below.refl _ _).alloc (Nat.le_refl _) _
  have HAL := Lib.hid hal
  have hbx : GBox W0 w.heap.size A xs.length c b H bl.length e := by rw [hW0]; exact GBox.new ..
  have HBX := Lib.hid hbx
  have G0 := Lib.hid (hg.keep hal)
  have hn12 : xs.length ≤ 12 := by rw [← hg.base.len]; exact (Pt.check_ok.1 hB).2
  have hrest : g.base.rest = b := hg.base.rest.symm
  have hlen : g.base.parts.length = xs.length := hg.base.len
  have HF1 : Pt.Rg.firstN g.base = if b then xs.length + 1 else xs.length := by unfold Pt.Rg.firstN; rw [hrest, hlen]
  have HCF := Lib.hid (fun (n : Nat) (w' : World) (hb : Below W0.heap.size W0 w') (hf : Pt.fits g.base n = true) => show Calls Tryz.prog 85 #[regV A xs.length c b H bl.length e, .int .i64 (n : Int)] w' (GivesBB w' (Pt.Rg.fullAt g.base g.holes n)) from by
    have h1 := gfull_any A xs c b H bl e g n w' ((hg.keep hal).keep hb)
    rw [← Pt.Rg.fullAt_covers hB hf] at h1
    exact h1)
  have HHL := Lib.hid (fun (k : Nat) (hk : k < bl.length) => show bl[k].xs.length = bl[k].pat.parts.length ∧ bl[k].xs.length ≤ 12 from by
    have h1 := (hg.holes.parts _ (List.getElem_mem hk)).len
    exact ⟨h1.symm, by rw [← h1]; exact (Pt.check_ok.1 (hH _ (reg_hole hg hk))).2⟩)
  have HMEM := Lib.hid (fun (L : Nat) (h : ∀ k (hk : k < bl.length), bl[k].pat.parts.length ≤ L) => show ∀ h ∈ g.holes, h.parts.length ≤ L from fun x hx => by
    rw [← hg.eq] at hx
    obtain ⟨y, hy, rfl⟩ := List.mem_map.1 hx
    obtain ⟨k, hk, rfl⟩ := List.mem_iff_getElem.1 hy
    exact h k hk)
  have HLN := Lib.hid (show ∀ L, (g.base.rest = false → L = g.base.parts.length) → (g.base.rest = true → g.base.parts.length < L ∧ ∀ h ∈ g.holes, h.parts.length < L) → Pt.Rg.lenN g.base g.holes = Pt.Rg.findN g.base g.holes L from fun L h1 h2 => by
    refine findN_one hB (fun hr => by rw [hr]; rfl) (fun hr => ?_) h1 h2
    rw [hr]
    exact ⟨by have := (Pt.check_ok.1 hB).2; simp only [if_true]; omega, fun h hh => by have := (Pt.check_ok.1 (hH h hh)).2; simp only [if_true]; omega⟩)
  have HSO := Lib.hid (fun (L k : Nat) => len_some (B := g.base) (H := g.holes) (last := L) (k := k))
  have HNO := Lib.hid (fun (L : Nat) => len_none (B := g.base) (H := g.holes) (last := L))
  have HFF := Lib.hid (fun (k : Nat) (h : if b then xs.length < k else k = xs.length) => show Pt.fits g.base k = true from by
    cases hb : b with
    | true => rw [hb, if_pos rfl] at h; exact (Pt.Rg.fits_far (hrest.trans hb)).2 (by omega)
    | false => rw [hb, if_neg (by decide)] at h; exact (Pt.Rg.fits_one (hrest.trans hb)).2 (by omega))
  rw [HF1] at HSO HNO
  rw [hrest, hlen] at HLN
  have hle := hg.holes.le
  have hcm := hg.holes.cm
  have hmi : (bl.length : Int) ≤ 9223372036854775807 := by unfold maxLen at hcm; omega
  generalize Pt.Rg.lenN g.base g.holes = v at *
  clear hg hal hB hH HF1 hlen hrest hle hcm
  generalize xs.length = n at *
  obtain ⟨t0, t1, t2, tl⟩ := hbx
  cases b
  case false =>
    simp only [if_false, Bool.false_eq_true] at HFF HSO HNO
    have hv := HLN.out n (fun _ => rfl) (fun h => by cases h)
    cases hfa : Pt.Rg.fullAt g.base g.holes n with
    | true =>
      have hv2 := hv.trans (HNO.out n fun i h1 h2 => by rw [show i = n by omega]; exact hfa)
      have HC := Lib.hid (HCF.out n W0 (Below.refl _ _) (HFF.out n rfl))
      rw [hfa] at HC
      subst hv2
      clear hv hfa
      subst hW0
      go_enter Tryz.func33, Tryz.ntmps33
      go_wp2_with fail
      with_reducible refine HC.out.mono ?_
      rintro e w1 ⟨rfl, hb⟩
      have HB := Lib.hid hb
      clear hb
      go_wp2
      go_ret
      exact ⟨rfl, HAL.out.trans (HB.out.mono HAL.out.size)⟩
    | false =>
      have hv2 := hv.trans (HSO.out n n (Nat.le_refl _) (Nat.le_refl _) (fun i h1 h2 => absurd h2 (Nat.not_lt.2 h1)) hfa)
      have HC := Lib.hid (HCF.out n W0 (Below.refl _ _) (HFF.out n rfl))
      rw [hfa] at HC
      subst hv2
      clear hv hfa
      subst hW0
      go_enter Tryz.func33, Tryz.ntmps33
      go_wp2_with fail
      with_reducible refine HC.out.mono ?_
      rintro e w1 ⟨rfl, hb⟩
      have hBX := HBX.out.keep hb
      clear t0 t1 t2 tl
      obtain ⟨t0, t1, t2, tl⟩ := hBX
      have HB := Lib.hid hb
      clear hb
      go_wp2
      go_ret
      exact ⟨rfl, HAL.out.trans (HB.out.mono HAL.out.size)⟩
  case true =>
    simp only [if_true] at HFF HSO HNO
    go_enter Tryz.func33, Tryz.ntmps33
    go_wp2
    generalize hwg : w.alloc (regObj A n c true H bl.length e) = W
    have hWW : W = W0 := by rw [← hwg, hW0]
    subst hWW
    clear hwg hW0
    go_loopg [3, 28] bl.length (fun gg s3 s28 wx => ∃ (k L : Nat), k + gg = bl.length ∧ s28 = .int .i64 (k : Int) ∧ s3 = .int .i64 (L : Int) ∧ n ≤ L ∧ L ≤ 12 ∧ Below W.heap.size W wx ∧ Aside (∀ j (hj : j < bl.length), j < k → bl[j].pat.parts.length ≤ L))
    case atStart => exact ⟨0, n, by omega, rfl, rfl, Nat.le_refl _, hn12, Below.refl _ _, fun j _ h => absurd h (Nat.not_lt_zero _)⟩
    case round =>
      obtain ⟨k, L, hk, rfl, rfl, hnL, hL, hbw, HA⟩ := hrel
      have HBW := Lib.hid hbw
      have HG := Lib.hid (G0.out.keep hbw)
      clear t0 t1 t2 tl
      by_cases hkn : k < bl.length
      · have i1 : (k : Int) < (bl.length : Int) := by omega
        obtain ⟨q, o, hA, hq, hcell⟩ := HG.out.holes.at (by omega)
        subst hA
        obtain ⟨e0, e1⟩ := hcell k hkn
        obtain ⟨x1, x2⟩ := HHL.out k hkn
        have HX1 := Lib.hid x1
        clear hcell hbw x1
        have HB2 := Lib.hid (HBW.out.trans ((show Below wr.heap.size wr (wr.alloc (.cells #[.slice bl[k].A bl[k].xs.length bl[k].c, .bool bl[k].b] 24)) from (Below.refl _ _).alloc (Nat.le_refl _) _).mono HBW.out.size))
        go_wp2
        go_roundg (bl.length - (k + 1))
        case measure => go_light; omega
        case rel =>
          go_light
          refine ⟨k + 1, max L bl[k].xs.length, by omega, by go_num, congrArg (Value.int .i64) (by omega), by omega, by omega, HB2.out, (show Aside _ from fun j hj hjk => ?_)⟩
          by_cases ej : j = k
          · subst ej
            rw [← HX1.out]
            exact Nat.le_max_right _ _
          · exact Nat.le_trans (HA.out j hj (by omega)) (Nat.le_max_left _ _)
      · have i1 : ¬ (k : Int) < (bl.length : Int) := by omega
        have HLL := Lib.hid (HMEM.out L fun j hj => HA.out j hj (by omega))
        have HVL := Lib.hid (HLN.out (L + 1) (fun h => by cases h) (fun _ => ⟨by omega, fun h hh => Nat.lt_succ_of_le (HLL.out h hh)⟩))
        have hBX := HBX.out.keep hbw
        obtain ⟨s0, s1, s2, sl⟩ := hBX
        clear hbw
        go_wp2
        go_loopg [6] (L + 1 - n) (fun gg s6 wx => ∃ (k : Nat), k + gg = L + 2 ∧ n + 1 ≤ k ∧ s6 = .int .i64 (k : Int) ∧ Below W.heap.size W wx ∧ Aside (∀ i, n + 1 ≤ i → i < k → Pt.Rg.fullAt g.base g.holes i = true))
        case atStart => exact ⟨n + 1, by omega, Nat.le_refl _, rfl, HBW.out, fun i h1 h2 => absurd h2 (Nat.not_lt.2 h1)⟩
        case round =>
          obtain ⟨k2, hk2, hF, rfl, hbw2, HA2⟩ := hrel
          have HBW2 := Lib.hid hbw2
          have hBX2 := HBX.out.keep hbw2
          clear s0 s1 s2 sl
          obtain ⟨s0, s1, s2, sl⟩ := hBX2
          by_cases hkl : k2 ≤ L + 1
          · have i2 : (k2 : Int) ≤ (L : Int) + 1 := by omega
            have HC := Lib.hid (HCF.out k2 _ hbw2 (HFF.out k2 (by omega)))
            clear hbw2
            cases hfa : Pt.Rg.fullAt g.base g.holes k2 with
            | false =>
              have hv := HVL.out.trans (HSO.out (L + 1) k2 hF hkl HA2.out hfa)
              subst hv
              rw [hfa] at HC
              clear hfa
              go_wp2_with fail
              with_reducible refine HC.out.mono ?_
              rintro e w1 ⟨rfl, hb⟩
              have HB := Lib.hid (HBW2.out.trans (hb.mono HBW2.out.size))
              clear hb
              go_wp2
              go_ret
              exact ⟨rfl, HAL.out.trans (HB.out.mono HAL.out.size)⟩
            | true =>
              have HFA := Lib.hid hfa
              rw [hfa] at HC
              clear hfa
              go_wp2_with fail
              with_reducible refine HC.out.mono ?_
              rintro e w1 ⟨rfl, hb⟩
              have HB := Lib.hid (HBW2.out.trans (hb.mono HBW2.out.size))
              clear hb
              go_wp2
              go_roundg (L + 1 - k2)
              case measure => go_light; omega
              case rel =>
                go_light
                refine ⟨k2 + 1, by omega, by omega, by go_num, HB.out, (show Aside _ from fun i h1 h2 => ?_)⟩
                by_cases ei : i = k2
                · rw [ei]; exact HFA.out
                · exact HA2.out i h1 (by omega)
          · have i2 : ¬ (k2 : Int) ≤ (L : Int) + 1 := by omega
            have hv := HVL.out.trans (HNO.out (L + 1) fun i h1 h2 => HA2.out i h1 (by omega))
            subst hv
            clear hbw2
            go_wp2
            go_ret
            exact ⟨rfl, HAL.out.trans (HBW2.out.mono HAL.out.size)⟩
end Go.Proofs.YtembmegllpkmfaaGreatDoor

namespace Go.Proofs.YtembmegllpkmfaaGreatDoor
open Go.RowKit

set_option maxHeartbeats 4000000 in
theorem same_regs (A : Option Addr) (xs : List ByteArray) (c : Nat) (b : Bool) (H : Option Addr) (bl : List BindV) (e : Nat) (B : Option Addr) (ys : List ByteArray) (d : Nat) (f : Bool) (K : Option Addr) (cl : List BindV) (e2 : Nat) (g : Pt.Rg.Reg) (w : World) (hg : RegR w A xs c b H bl e g) (hk : RegR w B ys d f K cl e2 g) :
    Calls Tryz.prog 17 #[regV A xs.length c b H bl.length e, regV B ys.length d f K cl.length e2] w (GivesBB w true) := by
  obtain ⟨W0, hW0⟩ : ∃ W0, W0 = (w.alloc (regObj A xs.length c b H bl.length e)).alloc (regObj B ys.length d f K cl.length e2) := ⟨_, rfl⟩
  have hal : Below w.heap.size w W0 := by rw [hW0]; exact ((Below.refl _ _).alloc (Nat.le_refl _) _).alloc (by simp) _
  have HAL := Lib.hid hal
  have hbx : GBox W0 w.heap.size A xs.length c b H bl.length e := by rw [hW0]; exact (GBox.new ..).keep ((Below.refl _ _).alloc (Nat.le_refl _) _)
  have hby : GBox W0 (w.heap.size + 1) B ys.length d f K cl.length e2 := by
    rw [hW0]
    have h := GBox.new (w.alloc (regObj A xs.length c b H bl.length e)) B ys.length d f K cl.length e2
    rw [show (w.alloc (regObj A xs.length c b H bl.length e)).heap.size = w.heap.size + 1 by simp] at h
    exact h
  have hlen : cl.length = bl.length := by rw [← reg_len hg, reg_len hk]
  have HLE := Lib.hid hlen
  have HCB := Lib.hid (same_pats A B xs ys c d b f g.base W0 (hg.keep hal).base (hk.keep hal).base)
  have HCH := Lib.hid (fun (k : Nat) (h1 : k < bl.length) (h2 : k < cl.length) (w' : World) (hb : Below W0.heap.size W0 w') => show Calls Tryz.prog 45 #[patV bl[k].A bl[k].xs.length bl[k].c bl[k].b, patV cl[k].A cl[k].xs.length cl[k].c cl[k].b] w' (GivesBB w' true) from by
    have e1 := reg_at hg h1
    have e2 := reg_at hk h2
    have h3 := ((hk.keep hal).keep hb).holes.parts _ (List.getElem_mem h2)
    rw [← e2, e1] at h3
    exact same_pats bl[k].A cl[k].A bl[k].xs cl[k].xs bl[k].c cl[k].c bl[k].b cl[k].b bl[k].pat w' (((hg.keep hal).keep hb).holes.parts _ (List.getElem_mem h1)) h3)
  have G0 := Lib.hid (hg.keep hal).holes
  have K0 := Lib.hid (hk.keep hal).holes
  have hle := hg.holes.le
  have hcm := hg.holes.cm
  have hmi : (bl.length : Int) ≤ 9223372036854775807 := by unfold maxLen at hcm; omega
  rw [hlen] at hby hW0 ⊢
  have HBX := Lib.hid hbx
  have HBY := Lib.hid hby
  clear hg hk hal hle hcm hlen
  generalize xs.length = nx at *
  generalize ys.length = ny at *
  obtain ⟨t0, t1, t2, tl⟩ := hbx
  obtain ⟨r0, r1, r2, rl⟩ := hby
  go_enter Tryz.func17, Tryz.ntmps17
  go_wp2_with fail
  generalize hwg : (w.alloc (regObj A nx c b H bl.length e)).alloc (regObj B ny d f K bl.length e2) = W
  have hWW : W = W0 := by rw [← hwg, hW0]
  subst hWW
  clear hwg hW0
  with_reducible refine HCB.out.mono ?_
  rintro en u1 ⟨rfl, hb1⟩
  have hX := HBX.out.keep hb1
  have hY := HBY.out.keep hb1
  have HB1 := Lib.hid hb1
  clear hb1 t0 t1 t2 tl r0 r1 r2 rl
  obtain ⟨t0, t1, t2, tl⟩ := hX
  obtain ⟨r0, r1, r2, rl⟩ := hY
  go_wp2
  go_loopg [25] bl.length (fun gg s25 wx => ∃ (k : Nat), k + gg = bl.length ∧ s25 = .int .i64 (k : Int) ∧ Below W.heap.size W wx)
  case atStart => exact ⟨0, by omega, rfl, HB1.out⟩
  case round =>
    obtain ⟨k, hk, rfl, hbw⟩ := hrel
    have HBW := Lib.hid hbw
    have hY := HBY.out.keep hbw
    clear t0 t1 t2 tl r0 r1 r2 rl
    by_cases hkn : k < bl.length
    · have i1 : (k : Int) < (bl.length : Int) := by omega
      have i2 : (0 : Int) ≤ (k : Int) := Int.natCast_nonneg _
      have hk2 : k < cl.length := by rw [HLE.out]; exact hkn
      obtain ⟨q, o, hA, hq, hcell⟩ := (G0.out.keep hbw).at (by omega)
      subst hA
      obtain ⟨e0, e1⟩ := hcell k hkn
      obtain ⟨q2, o2, hA2, hq2, hcell2⟩ := (K0.out.keep hbw).at (by omega)
      subst hA2
      obtain ⟨x0, x1⟩ := hcell2 k hk2
      clear hcell hcell2
      have hsw := hbw.size
      go_wp2_with fail
      generalize hwg : wr.alloc (.cells #[.slice bl[k].A bl[k].xs.length bl[k].c, .bool bl[k].b] 24) = W9
      have ha : Below wr.heap.size wr W9 := by rw [← hwg]; exact (Below.refl _ _).alloc (Nat.le_refl _) _
      have y0 : W9.cell? ⟨wr.heap.size, 0, none⟩ = some (.slice bl[k].A bl[k].xs.length bl[k].c) := by rw [← hwg]; exact cells_new _ _ _ 0 _ rfl
      have y1 : W9.cell? ⟨wr.heap.size, 1, none⟩ = some (.bool bl[k].b) := by rw [← hwg]; exact cells_new _ _ _ 1 _ rfl
      have yl : wr.heap.size < W9.heap.size := by rw [← hwg]; simp
      clear hwg
      obtain ⟨r0, r1, r2, rl⟩ := hY.keep ha
      have z0 := (ha.cell (p := ⟨q2, o2 + k * 2, none⟩) hq2).trans x0
      have z1 := (ha.cell (p := ⟨q2, o2 + k * 2 + 1, none⟩) hq2).trans x1
      have zl := Nat.lt_of_lt_of_le hq2 ha.size
      have HW9 := Lib.hid (hbw.trans (ha.mono hsw))
      have HC2 := Lib.hid (HCH.out k hkn hk2 W9.drew (below_drew HW9.out))
      clear ha x0 x1 e0 e1 hq hq2 hY hbw
      set_option maxRecDepth 100000 in
      go_region_held3 (fun w' => w'.cell? ⟨wr.heap.size, 0, none⟩ = some (.slice bl[k].A bl[k].xs.length bl[k].c) ∧ w'.cell? ⟨wr.heap.size, 1, none⟩ = some (.bool bl[k].b) ∧ w'.cell? ⟨w.heap.size + 1, 2, none⟩ = some (.slice (some ⟨q2, o2, none⟩) bl.length e2) ∧ w'.cell? ⟨q2, o2 + k * 2, none⟩ = some (.slice cl[k].A cl[k].xs.length cl[k].c) ∧ w'.cell? ⟨q2, o2 + k * 2 + 1, none⟩ = some (.bool cl[k].b))
        (first | exact ⟨(hb.cell (p := ⟨wr.heap.size, 0, none⟩) (by exact yl)).trans y0, (hb.cell (p := ⟨wr.heap.size, 1, none⟩) (by exact yl)).trans y1, (hb.cell (p := ⟨w.heap.size + 1, 2, none⟩) (by exact rl)).trans r2, (hb.cell (p := ⟨q2, o2 + k * 2, none⟩) (by exact zl)).trans z0, (hb.cell (p := ⟨q2, o2 + k * 2 + 1, none⟩) (by exact zl)).trans z1⟩ | go_keep)
        ((go_at_call 45; have hcc := HC2.out; with_reducible refine hcc.mono ?_; intro en w' hh; unfold GivesBB at hh; obtain ⟨rfl, hb⟩ := hh))
      have HB2 := Lib.hid (HW9.out.trans ((below_drew (Below.refl _ _)).trans (hb.mono (by exact Nat.le_refl _)) |>.mono HW9.out.size))
      clear hb
      go_wp2
      go_roundg (bl.length - (k + 1))
      case measure => go_light; omega
      case rel =>
        go_light
        exact ⟨k + 1, by omega, by go_num, HB2.out⟩
    · have i1 : ¬ (k : Int) < (bl.length : Int) := by omega
      clear hbw
      go_wp2
      go_ret
      exact ⟨rfl, HAL.out.trans (HBW.out.mono HAL.out.size)⟩
end Go.Proofs.YtembmegllpkmfaaGreatDoor

namespace Go.Proofs.YtembmegllpkmfaaGreatDoor
open Go.RowKit

def orN (x y : Nat) : Nat := if x = 0 then y else x
theorem or2_any (g x y : Nat) (w : World) (c0 : w.cell? ⟨g, 0, none⟩ = some (.int .i64 (x : Int))) (c1 : w.cell? ⟨g, 1, none⟩ = some (.int .i64 (y : Int))) :
    Calls Tryz.prog 90 #[.slice (some ⟨g, 0, none⟩) 2 2] w fun e w' => e = .returned (.int .i64 (orN x y : Nat)) ∧ w = w' := by
  go_enter Tryz.func90, Tryz.ntmps90
  go_wp2
  go_loopg [8] 2 (fun gg s8 wx => w = wx ∧ (gg = 2 ∧ s8 = .int .i64 0 ∨ gg = 1 ∧ s8 = .int .i64 1 ∧ Aside (x = 0) ∨ gg = 0 ∧ s8 = .int .i64 2 ∧ Aside (x = 0 ∧ y = 0)))
  case atStart => exact ⟨rfl, .inl ⟨rfl, rfl⟩⟩
  case round =>
    obtain ⟨rfl, h⟩ := hrel
    rcases h with ⟨hgg, rfl⟩ | ⟨hgg, rfl, hx⟩ | ⟨hgg, rfl, hx⟩
    · by_cases hx : x = 0
      · have i1 : ((x : Int) == 0) = true := by rw [beq_iff_eq]; omega
        have i2 : ((x : Int) != 0) = false := by rw [bne, i1]; rfl
        have HX := Lib.hid hx
        clear hx
        go_wp2
        go_roundg 1
        case measure => go_light; omega
        case rel => exact ⟨rfl, .inr (.inl ⟨rfl, rfl, HX.out⟩)⟩
      · have i1 : ((x : Int) == 0) = false := by rw [beq_eq_false_iff_ne]; omega
        have i2 : ((x : Int) != 0) = true := by rw [bne, i1]; rfl
        have HO := Lib.hid (show orN x y = x by unfold orN; rw [if_neg hx])
        clear hx
        go_wp2
        go_ret
        exact ⟨by rw [HO.out]; rfl, rfl⟩
    · have HX := Lib.hid hx.out
      clear hx
      have HO := Lib.hid (show orN x y = y by unfold orN; rw [if_pos HX.out])
      by_cases hy : y = 0
      · have i1 : ((y : Int) == 0) = true := by rw [beq_iff_eq]; omega
        have i2 : ((y : Int) != 0) = false := by rw [bne, i1]; rfl
        have HY := Lib.hid hy
        clear hy
        go_wp2
        go_roundg 0
        case measure => go_light; omega
        case rel => exact ⟨rfl, .inr (.inr ⟨rfl, rfl, HX.out, HY.out⟩)⟩
      · have i1 : ((y : Int) == 0) = false := by rw [beq_eq_false_iff_ne]; omega
        have i2 : ((y : Int) != 0) = true := by rw [bne, i1]; rfl
        clear hy
        go_wp2
        go_ret
        exact ⟨by rw [HO.out]; rfl, rfl⟩
    · have HO := Lib.hid (show orN x y = 0 by unfold orN; rw [if_pos hx.out.1]; exact hx.out.2)
      clear hx
      go_wp2
      go_ret
      exact ⟨by rw [HO.out]; rfl, rfl⟩
set_option maxHeartbeats 2000000 in
theorem both_any (A : Option Addr) (xs : List ByteArray) (c : Nat) (b : Bool) (H : Option Addr) (bl : List BindV) (e : Nat) (B : Option Addr) (ys : List ByteArray) (d : Nat) (f : Bool) (K : Option Addr) (cl : List BindV) (e2 : Nat) (g h : Pt.Rg.Reg) (w : World) (hg : RegR w A xs c b H bl e g) (hk : RegR w B ys d f K cl e2 h) :
    Calls Tryz.prog 39 #[regV A xs.length c b H bl.length e, regV B ys.length d f K cl.length e2] w (GivesN w (orN (Pt.Rg.gcheck g) (Pt.Rg.gcheck h))) := by
  obtain ⟨W0, hW0⟩ : ∃ W0, W0 = (w.alloc (regObj A xs.length c b H bl.length e)).alloc (regObj B ys.length d f K cl.length e2) := ⟨_, rfl⟩
  have hal : Below w.heap.size w W0 := by rw [hW0]; exact ((Below.refl _ _).alloc (Nat.le_refl _) _).alloc (by simp) _
  have HAL := Lib.hid hal
  have hbx : GBox W0 w.heap.size A xs.length c b H bl.length e := by rw [hW0]; exact (GBox.new ..).keep ((Below.refl _ _).alloc (Nat.le_refl _) _)
  have hby : GBox W0 (w.heap.size + 1) B ys.length d f K cl.length e2 := by
    rw [hW0]
    have h := GBox.new (w.alloc (regObj A xs.length c b H bl.length e)) B ys.length d f K cl.length e2
    rw [show (w.alloc (regObj A xs.length c b H bl.length e)).heap.size = w.heap.size + 1 by simp] at h
    exact h
  have HA1 := Lib.hid (fun (w' : World) (hi : InB W0 w') => gcheck_any A xs c b H bl e g w' ((hg.keep hal).keep hi.below))
  have HB1 := Lib.hid (fun (w' : World) (hi : InB W0 w') => gcheck_any B ys d f K cl e2 h w' ((hk.keep hal).keep hi.below))
  generalize Pt.Rg.gcheck g = x at *
  generalize Pt.Rg.gcheck h = y at *
  clear hg hk hal
  generalize xs.length = nx at *
  generalize ys.length = ny at *
  generalize bl.length = mx at *
  generalize cl.length = my at *
  obtain ⟨t0, t1, t2, tl⟩ := hbx
  obtain ⟨r0, r1, r2, rl⟩ := hby
  have hi0 : InB W0 W0 := ⟨Below.refl _ _⟩
  have hi1 : InB W0 W0.drew := ⟨below_drew (Below.refl _ _)⟩
  go_enter Tryz.func39, Tryz.ntmps39
  go_wp2_with fail
  generalize hwg : (w.alloc (regObj A nx c b H mx e)).alloc (regObj B ny d f K my e2) = W
  have hWW : W = W0 := by rw [← hwg, hW0]
  subst hWW
  clear hwg hW0
  set_option maxRecDepth 100000 in
  go_region_held3 (fun w' => w'.cell? ⟨w.heap.size, 0, none⟩ = some (.slice A nx c) ∧ w'.cell? ⟨w.heap.size, 1, none⟩ = some (.bool b) ∧ w'.cell? ⟨w.heap.size, 2, none⟩ = some (.slice H mx e) ∧ w'.cell? ⟨w.heap.size + 1, 0, none⟩ = some (.slice B ny d) ∧ w'.cell? ⟨w.heap.size + 1, 1, none⟩ = some (.bool f) ∧ w'.cell? ⟨w.heap.size + 1, 2, none⟩ = some (.slice K my e2))
    (first | exact ⟨(hi.below.cell (p := ⟨w.heap.size, 0, none⟩) (by exact tl)).trans t0, (hi.below.cell (p := ⟨w.heap.size, 1, none⟩) (by exact tl)).trans t1, (hi.below.cell (p := ⟨w.heap.size, 2, none⟩) (by exact tl)).trans t2, (hi.below.cell (p := ⟨w.heap.size + 1, 0, none⟩) (by exact rl)).trans r0, (hi.below.cell (p := ⟨w.heap.size + 1, 1, none⟩) (by exact rl)).trans r1, (hi.below.cell (p := ⟨w.heap.size + 1, 2, none⟩) (by exact rl)).trans r2⟩ | go_keep)
    (first
      | (go_at_call 27; have hcc := HA1.out _ (by assumption); with_reducible refine hcc.mono ?_; intro en w' hh; unfold GivesN at hh; obtain ⟨rfl, hb⟩ := hh; have hi : InB W w' := ⟨Below.trans (InB.below (by assumption)) (hb.mono (InB.below (by assumption)).size)⟩)
      | (go_at_call 27; have hcc := HB1.out _ (by assumption); with_reducible refine hcc.mono ?_; intro en w' hh; unfold GivesN at hh; obtain ⟨rfl, hb⟩ := hh; have hi : InB W w' := ⟨Below.trans (InB.below (by assumption)) (hb.mono (InB.below (by assumption)).size)⟩)
      | (go_at_call 90; refine (or2_any _ x y _ (cells_new _ _ _ 0 _ rfl) (cells_new _ _ _ 1 _ rfl)).mono ?_; rintro en w' ⟨rfl, rfl⟩))
  go_wp2
  go_ret
  exact ⟨rfl, HAL.out.trans ((hi.below.alloc hi.below.size _).mono HAL.out.size)⟩
end Go.Proofs.YtembmegllpkmfaaGreatDoor

namespace Go.Proofs.YtembmegllpkmfaaGreatDoor
open Go.RowKit

set_option maxHeartbeats 2000000 in
theorem gtext_any (A : Option Addr) (xs : List ByteArray) (c : Nat) (b : Bool) (p : Pt.Pat) (w : World) (hp : PatR w A xs c b p) (hk : Pt.check p = 0) (hlen : (Lib.join p.parts [47]).length ≤ 140737488350000) (hN : xs.length ≤ 140737488355328) :
    Calls Tryz.prog 71 #[patV A xs.length c b] w (GivesS w (Pt.text p)) := by
  obtain ⟨W0, hW0⟩ : ∃ W0, W0 = w.alloc (.cells #[.slice A xs.length c, .bool b] 24) := ⟨_, rfl⟩
  have hal : Below w.heap.size w W0 := by rw [hW0]; exact (Below.refl _ _).alloc (Nat.le_refl _) _
  have HAL := Lib.hid hal
  have hby : PBox W0 w.heap.size A xs.length c b := by rw [hW0]; exact PBox.new ..
  have hc := format_any A xs c b p W0 (hp.keep hal) hlen hN
  rw [show formatted p = Pt.text p by unfold formatted; rw [if_pos hk], hk] at hc
  have HC := Lib.hid hc
  obtain ⟨t0, t1, tl⟩ := hby
  generalize Pt.text p = v at *
  generalize xs.length = n at *
  clear hp hal hlen hN hc hk
  subst hW0
  go_enter Tryz.func71, Tryz.ntmps71
  go_wp2_with fail
  with_reducible refine HC.out.mono ?_
  intro e w1 hh
  unfold GivesS2 at hh
  obtain ⟨rfl, hb⟩ := hh
  have HB := Lib.hid hb
  clear hb
  go_wp2
  go_ret
  exact ⟨rfl, HAL.out.trans (HB.out.mono HAL.out.size)⟩
end Go.Proofs.YtembmegllpkmfaaGreatDoor
