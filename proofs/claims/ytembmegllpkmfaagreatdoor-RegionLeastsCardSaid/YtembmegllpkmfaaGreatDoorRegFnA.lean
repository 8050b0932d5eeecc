/- Regions in memory. The contracts of Check of a region: the program's and the reference's. Contracts of package region: matches, reaches, partAt, the closures that are handed to slices.ContainsFunc, slices.IndexFunc and ContainsFunc with these. Contracts of package region: alikeFrom, Has; of the reference: part, counts, Has. Contracts: the reference's part, counts; the closures of simplified and shortest; Has of both. Contracts: Has of both. The contract of shortest. -/
import Derived.Test.YtembmegllpkmfaaGreatDoorRulAll
import Derived.Test.YtembmegllpkmfaaGreatDoorPatSubA
import Derived.Test.YtembmegllpkmfaaGreatDoorRegMathAll
import Derived.Deep.LoopGhost
import Derived.Test.YtembmegllpkmfaaGreatDoorPatGoC
import Derived.IntWalk
namespace Go.Proofs.YtembmegllpkmfaaGreatDoor
open Go.RowKit

/-- The value of a region. -/
abbrev regV (A : Option Addr) (n c : Nat) (b : Bool) (H : Option Addr) (m e : Nat) : Value := .agg #[.slice A n c, .bool b, .slice H m e]
abbrev regObj (A : Option Addr) (n c : Nat) (b : Bool) (H : Option Addr) (m e : Nat) : Obj := .cells #[.slice A n c, .bool b, .slice H m e] 27
/-- What reads as a region. -/
structure RegR (w : World) (A : Option Addr) (xs : List ByteArray) (c : Nat) (b : Bool) (H : Option Addr) (bl : List BindV) (e : Nat) (g : Pt.Rg.Reg) : Prop where
  base : PatR w A xs c b g.base
  holes : RdB w H bl e
  eq : bl.map BindV.pat = g.holes
theorem RegR.keep {w w' : World} {A : Option Addr} {xs : List ByteArray} {c : Nat} {b : Bool} {H : Option Addr} {bl : List BindV} {e : Nat} {g : Pt.Rg.Reg} (h : RegR w A xs c b H bl e g) (hb : Below w.heap.size w w') : RegR w' A xs c b H bl e g := ⟨h.base.keep hb, h.holes.keep hb, h.eq⟩
/-- A box that holds a region. -/
structure GBox (w : World) (q : Nat) (A : Option Addr) (n c : Nat) (b : Bool) (H : Option Addr) (m e : Nat) : Prop where
  c0 : w.cell? ⟨q, 0, none⟩ = some (.slice A n c)
  c1 : w.cell? ⟨q, 1, none⟩ = some (.bool b)
  c2 : w.cell? ⟨q, 2, none⟩ = some (.slice H m e)
  lt : q < w.heap.size
theorem GBox.keep {w w' : World} {q : Nat} {A : Option Addr} {n c : Nat} {b : Bool} {H : Option Addr} {m e : Nat} (h : GBox w q A n c b H m e) (hb : Below w.heap.size w w') : GBox w' q A n c b H m e :=
  ⟨(hb.cell (p := ⟨q, 0, none⟩) h.lt).trans h.c0, (hb.cell (p := ⟨q, 1, none⟩) h.lt).trans h.c1, (hb.cell (p := ⟨q, 2, none⟩) h.lt).trans h.c2, Nat.lt_of_lt_of_le h.lt hb.size⟩
theorem GBox.new (w : World) (A : Option Addr) (n c : Nat) (b : Bool) (H : Option Addr) (m e : Nat) : GBox (w.alloc (regObj A n c b H m e)) w.heap.size A n c b H m e := ⟨cells_new _ _ _ 0 _ rfl, cells_new _ _ _ 1 _ rfl, cells_new _ _ _ 2 _ rfl, by simp⟩
theorem reg_len {w : World} {A : Option Addr} {xs : List ByteArray} {c : Nat} {b : Bool} {H : Option Addr} {bl : List BindV} {e : Nat} {g : Pt.Rg.Reg} (h : RegR w A xs c b H bl e g) : g.holes.length = bl.length := by rw [← h.eq, List.length_map]
theorem reg_hole {w : World} {A : Option Addr} {xs : List ByteArray} {c : Nat} {b : Bool} {H : Option Addr} {bl : List BindV} {e : Nat} {g : Pt.Rg.Reg} (h : RegR w A xs c b H bl e g) {k : Nat} (hk : k < bl.length) : bl[k].pat ∈ g.holes := by rw [← h.eq]; exact List.mem_map_of_mem (List.getElem_mem hk)
set_option maxHeartbeats 4000000 in
theorem gcheck_any (A : Option Addr) (xs : List ByteArray) (c : Nat) (b : Bool) (H : Option Addr) (bl : List BindV) (e : Nat) (g : Pt.Rg.Reg) (w : World) (hg : RegR w A xs c b H bl e g) :
    Calls Tryz.prog 27 #[regV A xs.length c b H bl.length e] w (GivesN w (Pt.Rg.gcheck g)) := by
  obtain ⟨W0, hW0⟩ : ∃ W0, W0 = w.alloc (regObj A xs.length c b H bl.length e) := ⟨_, rfl⟩
  have hal : Below w.heap.size w W0 := by rw [hW0]; exact (Below.refl _ _).alloc (Nat.le_refl _) _
  have HAL := Lib.hid hal
  have hbx : GBox W0 w.heap.size A xs.length c b H bl.length e := by rw [hW0]; exact GBox.new ..
  have HBX := Lib.hid hbx
  have G0 := Lib.hid (hg.keep hal)
  have HV := Lib.hid (show Pt.Rg.gcheck g = if Pt.check g.base = 0 then (if g.holes.all (fun h => decide (Pt.check h = 0)) then (if g.holes.length ≤ 64 then 0 else 52) else 51) else 50 from rfl)
  have HCB := Lib.hid (check_any A xs c b g.base W0 (hg.keep hal).base)
  have HCH := Lib.hid (fun (k : Nat) (hk : k < bl.length) (w' : World) (hb : Below W0.heap.size W0 w') => check_any bl[k].A bl[k].xs bl[k].c bl[k].b bl[k].pat w' (((hg.keep hal).keep hb).holes.parts _ (List.getElem_mem hk)))
  have HIN := Lib.hid (fun (k : Nat) (hk : k < bl.length) => reg_hole hg hk)
  have HALL := Lib.hid (fun (h : ∀ k (hk : k < bl.length), Pt.check bl[k].pat = 0) => show g.holes.all (fun h => decide (Pt.check h = 0)) = true from by
    rw [List.all_eq_true]
    intro x hx
    rw [← hg.eq] at hx
    obtain ⟨y, hy, rfl⟩ := List.mem_map.1 hx
    obtain ⟨k, hk, rfl⟩ := List.mem_iff_getElem.1 hy
    exact decide_eq_true (h k hk))
  have hlen := reg_len hg
  have hle := hg.holes.le
  have hcm := hg.holes.cm
  have hmi : (bl.length : Int) ≤ 9223372036854775807 := by unfold maxLen at hcm; omega
  have HLEN := Lib.hid hlen
  generalize Pt.Rg.gcheck g = v at HV ⊢
  obtain ⟨t0, t1, t2, tl⟩ := hbx
  clear hg hal hlen hle hcm
  subst hW0
  by_cases hb0 : Pt.check g.base = 0
  rotate_left
  · have hv := HV.out
    rw [if_neg hb0] at hv
    subst hv
    have p1 : ((Pt.check g.base : Int) == 0) = false := by rw [beq_eq_false_iff_ne]; omega
    have p2 : ((Pt.check g.base : Int) != 0) = true := by rw [bne, p1]; rfl
    generalize Pt.check g.base = k at *
    clear hb0 HV
    go_enter Tryz.func27, Tryz.ntmps27
    go_wp2_with fail
    with_reducible refine HCB.out.mono ?_
    rintro e u1 ⟨rfl, hb1⟩
    have HB1 := Lib.hid hb1
    clear hb1
    go_wp2
    go_ret
    exact ⟨rfl, HAL.out.trans (HB1.out.mono HAL.out.size)⟩
  · have hv := HV.out
    rw [if_pos hb0] at hv
    rw [hb0] at HCB
    have HV2 := Lib.hid hv
    clear hv HV hb0
    go_enter Tryz.func27, Tryz.ntmps27
    go_wp2_with fail
    generalize w.alloc (regObj A xs.length c b H bl.length e) = W5 at *
    with_reducible refine HCB.out.mono ?_
    rintro e u1 ⟨rfl, hb1⟩
    obtain ⟨s0, s1, s2, sl⟩ := HBX.out.keep hb1
    have HB1 := Lib.hid hb1
    clear hb1 t0 t1 t2 tl
    go_wp2
    go_loopg [12] bl.length (fun gg s12 wx => ∃ (k : Nat), k + gg = bl.length ∧ s12 = .int .i64 (k : Int) ∧ Below W5.heap.size W5 wx ∧ Aside (∀ j (hj : j < bl.length), j < k → Pt.check bl[j].pat = 0))
    case atStart => exact ⟨0, by omega, rfl, HB1.out, fun j _ h => absurd h (Nat.not_lt_zero _)⟩
    case round =>
      obtain ⟨k, hk, rfl, hbw, HA⟩ := hrel
      have hBX := HBX.out.keep hbw
      have HBW := Lib.hid hbw
      have HG := Lib.hid (G0.out.keep hbw)
      clear s0 s1 s2 sl
      obtain ⟨s0, s1, s2, sl⟩ := hBX
      by_cases hkn : k < bl.length
      · have i1 : (k : Int) < (bl.length : Int) := by omega
        obtain ⟨q, o, hA, hq, hcell⟩ := HG.out.holes.at (by omega)
        subst hA
        obtain ⟨e0, e1⟩ := hcell k hkn
        have ha : Below wr.heap.size wr (wr.alloc (.cells #[.slice bl[k].A bl[k].xs.length bl[k].c, .bool bl[k].b] 24)) := (Below.refl _ _).alloc (Nat.le_refl _) _
        have HW2 := Lib.hid (hbw.trans (ha.mono hbw.size))
        have HC2 := Lib.hid (HCH.out k hkn _ (hbw.trans (ha.mono hbw.size)))
        clear hcell hbw ha
        cases hck : decide (Pt.check bl[k].pat = 0) with
        | true =>
          have hz := of_decide_eq_true hck
          have HZ := Lib.hid hz
          rw [hz] at HC2
          clear hck hz
          go_wp2_with fail
          with_reducible refine HC2.out.mono ?_
          rintro e u2 ⟨rfl, hb2⟩
          have HB2 := Lib.hid (HW2.out.trans (hb2.mono HW2.out.size))
          clear hb2
          go_wp2
          go_roundg (bl.length - (k + 1))
          case measure => go_light; omega
          case rel =>
            go_light
            refine ⟨k + 1, by omega, by go_num, HB2.out, (show Aside _ from fun j hj hjk => ?_)⟩
            by_cases ej : j = k
            · subst ej; exact HZ.out
            · exact HA.out j hj (by omega)
        | false =>
          have hz := of_decide_eq_false hck
          have hv : v = 51 := by
            rw [HV2.out, if_neg]
            intro h
            exact hz (of_decide_eq_true (List.all_eq_true.1 h _ (HIN.out k hkn)))
          subst hv
          have p1 : ((Pt.check bl[k].pat : Int) == 0) = false := by rw [beq_eq_false_iff_ne]; omega
          have p2 : ((Pt.check bl[k].pat : Int) != 0) = true := by rw [bne, p1]; rfl
          generalize Pt.check bl[k].pat = ck at *
          clear hck hz
          go_wp2_with fail
          with_reducible refine HC2.out.mono ?_
          rintro e u2 ⟨rfl, hb2⟩
          have HB2 := Lib.hid (HW2.out.trans (hb2.mono HW2.out.size))
          clear hb2
          go_wp2
          go_ret
          exact ⟨rfl, HAL.out.trans (HB2.out.mono HAL.out.size)⟩
      · have i1 : ¬ (k : Int) < (bl.length : Int) := by omega
        have hall := HALL.out (fun j hj => HA.out j hj (by omega))
        have hv := HV2.out
        rw [if_pos hall, HLEN.out] at hv
        clear hbw hall
        by_cases h64 : bl.length ≤ 64
        · rw [if_pos h64] at hv
          subst hv
          have i2 : ¬ (64 : Int) < (bl.length : Int) := by omega
          go_wp2
          go_ret
          exact ⟨rfl, HAL.out.trans (HBW.out.mono HAL.out.size)⟩
        · rw [if_neg h64] at hv
          subst hv
          have i2 : (64 : Int) < (bl.length : Int) := by omega
          go_wp2
          go_ret
          exact ⟨rfl, HAL.out.trans (HBW.out.mono HAL.out.size)⟩
set_option maxHeartbeats 4000000 in
theorem ggcheck_any (A : Option Addr) (xs : List ByteArray) (c : Nat) (b : Bool) (H : Option Addr) (bl : List BindV) (e : Nat) (g : Pt.Rg.Reg) (w : World) (hg : RegR w A xs c b H bl e g) :
    Calls Tryz.prog 13 #[regV A xs.length c b H bl.length e] w (GivesN w (Pt.Rg.gcheck g)) := by
  obtain ⟨W0, hW0⟩ : ∃ W0, W0 = w.alloc (regObj A xs.length c b H bl.length e) := ⟨_, rfl⟩
  have hal : Below w.heap.size w W0 := by rw [hW0]; exact (Below.refl _ _).alloc (Nat.le_refl _) _
  have HAL := Lib.hid hal
  have hbx : GBox W0 w.heap.size A xs.length c b H bl.length e := by rw [hW0]; exact GBox.new ..
  have HBX := Lib.hid hbx
  have G0 := Lib.hid (hg.keep hal)
  have HV := Lib.hid (show Pt.Rg.gcheck g = if Pt.check g.base = 0 then (if g.holes.all (fun h => decide (Pt.check h = 0)) then (if g.holes.length ≤ 64 then 0 else 52) else 51) else 50 from rfl)
  have HCB := Lib.hid (rcheck_any A xs c b g.base W0 (hg.keep hal).base)
  have HCH := Lib.hid (fun (k : Nat) (hk : k < bl.length) (w' : World) (hb : Below W0.heap.size W0 w') => rcheck_any bl[k].A bl[k].xs bl[k].c bl[k].b bl[k].pat w' (((hg.keep hal).keep hb).holes.parts _ (List.getElem_mem hk)))
  have HIN := Lib.hid (fun (k : Nat) (hk : k < bl.length) => reg_hole hg hk)
  have HALL := Lib.hid (fun (h : ∀ k (hk : k < bl.length), Pt.check bl[k].pat = 0) => show g.holes.all (fun h => decide (Pt.check h = 0)) = true from by
    rw [List.all_eq_true]
    intro x hx
    rw [← hg.eq] at hx
    obtain ⟨y, hy, rfl⟩ := List.mem_map.1 hx
    obtain ⟨k, hk, rfl⟩ := List.mem_iff_getElem.1 hy
    exact decide_eq_true (h k hk))
  have hlen := reg_len hg
  have hle := hg.holes.le
  have hcm := hg.holes.cm
  have hmi : (bl.length : Int) ≤ 9223372036854775807 := by unfold maxLen at hcm; omega
  have HLEN := Lib.hid hlen
  generalize Pt.Rg.gcheck g = v at HV ⊢
  obtain ⟨t0, t1, t2, tl⟩ := hbx
  clear hg hal hlen hle hcm
  subst hW0
  by_cases hb0 : Pt.check g.base = 0
  rotate_left
  · have hv := HV.out
    rw [if_neg hb0] at hv
    subst hv
    have p1 : ((Pt.check g.base : Int) == 0) = false := by rw [beq_eq_false_iff_ne]; omega
    have p2 : ((Pt.check g.base : Int) != 0) = true := by rw [bne, p1]; rfl
    generalize Pt.check g.base = k at *
    clear hb0 HV
    go_enter Tryz.func13, Tryz.ntmps13
    go_wp2_with fail
    with_reducible refine HCB.out.mono ?_
    rintro e u1 ⟨rfl, hb1⟩
    have HB1 := Lib.hid hb1
    clear hb1
    go_wp2
    go_ret
    exact ⟨rfl, HAL.out.trans (HB1.out.mono HAL.out.size)⟩
  · have hv := HV.out
    rw [if_pos hb0] at hv
    rw [hb0] at HCB
    have HV2 := Lib.hid hv
    clear hv HV hb0
    go_enter Tryz.func13, Tryz.ntmps13
    go_wp2_with fail
    generalize w.alloc (regObj A xs.length c b H bl.length e) = W5 at *
    with_reducible refine HCB.out.mono ?_
    rintro e u1 ⟨rfl, hb1⟩
    obtain ⟨s0, s1, s2, sl⟩ := HBX.out.keep hb1
    have HB1 := Lib.hid hb1
    clear hb1 t0 t1 t2 tl
    go_wp2
    go_loopg [12] bl.length (fun gg s12 wx => ∃ (k : Nat), k + gg = bl.length ∧ s12 = .int .i64 (k : Int) ∧ Below W5.heap.size W5 wx ∧ Aside (∀ j (hj : j < bl.length), j < k → Pt.check bl[j].pat = 0))
    case atStart => exact ⟨0, by omega, rfl, HB1.out, fun j _ h => absurd h (Nat.not_lt_zero _)⟩
    case round =>
      obtain ⟨k, hk, rfl, hbw, HA⟩ := hrel
      have hBX := HBX.out.keep hbw
      have HBW := Lib.hid hbw
      have HG := Lib.hid (G0.out.keep hbw)
      clear s0 s1 s2 sl
      obtain ⟨s0, s1, s2, sl⟩ := hBX
      by_cases hkn : k < bl.length
      · have i1 : (k : Int) < (bl.length : Int) := by omega
        obtain ⟨q, o, hA, hq, hcell⟩ := HG.out.holes.at (by omega)
        subst hA
        obtain ⟨e0, e1⟩ := hcell k hkn
        have ha : Below wr.heap.size wr (wr.alloc (.cells #[.slice bl[k].A bl[k].xs.length bl[k].c, .bool bl[k].b] 24)) := (Below.refl _ _).alloc (Nat.le_refl _) _
        have HW2 := Lib.hid (hbw.trans (ha.mono hbw.size))
        have HC2 := Lib.hid (HCH.out k hkn _ (hbw.trans (ha.mono hbw.size)))
        clear hcell hbw ha
        cases hck : decide (Pt.check bl[k].pat = 0) with
        | true =>
          have hz := of_decide_eq_true hck
          have HZ := Lib.hid hz
          rw [hz] at HC2
          clear hck hz
          go_wp2_with fail
          with_reducible refine HC2.out.mono ?_
          rintro e u2 ⟨rfl, hb2⟩
          have HB2 := Lib.hid (HW2.out.trans (hb2.mono HW2.out.size))
          clear hb2
          go_wp2
          go_roundg (bl.length - (k + 1))
          case measure => go_light; omega
          case rel =>
            go_light
            refine ⟨k + 1, by omega, by go_num, HB2.out, (show Aside _ from fun j hj hjk => ?_)⟩
            by_cases ej : j = k
            · subst ej; exact HZ.out
            · exact HA.out j hj (by omega)
        | false =>
          have hz := of_decide_eq_false hck
          have hv : v = 51 := by
            rw [HV2.out, if_neg]
            intro h
            exact hz (of_decide_eq_true (List.all_eq_true.1 h _ (HIN.out k hkn)))
          subst hv
          have p1 : ((Pt.check bl[k].pat : Int) == 0) = false := by rw [beq_eq_false_iff_ne]; omega
          have p2 : ((Pt.check bl[k].pat : Int) != 0) = true := by rw [bne, p1]; rfl
          generalize Pt.check bl[k].pat = ck at *
          clear hck hz
          go_wp2_with fail
          with_reducible refine HC2.out.mono ?_
          rintro e u2 ⟨rfl, hb2⟩
          have HB2 := Lib.hid (HW2.out.trans (hb2.mono HW2.out.size))
          clear hb2
          go_wp2
          go_ret
          exact ⟨rfl, HAL.out.trans (HB2.out.mono HAL.out.size)⟩
      · have i1 : ¬ (k : Int) < (bl.length : Int) := by omega
        have hall := HALL.out (fun j hj => HA.out j hj (by omega))
        have hv := HV2.out
        rw [if_pos hall, HLEN.out] at hv
        clear hbw hall
        by_cases h64 : bl.length ≤ 64
        · rw [if_pos h64] at hv
          subst hv
          have i2 : ¬ (64 : Int) < (bl.length : Int) := by omega
          go_wp2
          go_ret
          exact ⟨rfl, HAL.out.trans (HBW.out.mono HAL.out.size)⟩
        · rw [if_neg h64] at hv
          subst hv
          have i2 : (64 : Int) < (bl.length : Int) := by omega
          go_wp2
          go_ret
          exact ⟨rfl, HAL.out.trans (HBW.out.mono HAL.out.size)⟩
end Go.Proofs.YtembmegllpkmfaaGreatDoor

namespace Go.Proofs.YtembmegllpkmfaaGreatDoor
open Go.RowKit

theorem givesPN_ok {w : World} {o : Option (List (List UInt8))} {e : Ending} {w' : World} (h : GivesPN w o e w') : ∃ v, e = .returned (.tuple #[v, .bool o.isSome]) ∧ Below w.heap.size w w' := by
  unfold GivesPN at h
  cases o with
  | none => obtain ⟨rfl, hb⟩ := h; exact ⟨_, rfl, hb⟩
  | some l => obtain ⟨A, xs, c, rfl, _, _, _, _, _, hb⟩ := h; exact ⟨_, rfl, hb⟩
set_option maxHeartbeats 2000000 in
theorem greaches_any (A : Option Addr) (xs : List ByteArray) (c : Nat) (b : Bool) (p : Pt.Pat) (k : Nat) (w : World) (hp : PatR w A xs c b p) :
    Calls Tryz.prog 61 #[patV A xs.length c b, .int .i64 (k : Int)] w (GivesBB w (Pt.fits p k)) := by
  have hal : Below w.heap.size w (w.alloc (.cells #[.slice A xs.length c, .bool b] 24)) := (Below.refl _ _).alloc (Nat.le_refl _) _
  have HAL := Lib.hid hal
  have hf : Pt.fits p k = if b then decide (xs.length < k) else decide (k = xs.length) := by unfold Pt.fits; rw [hp.len, ← hp.rest]
  generalize Pt.fits p k = v at *
  have HF := Lib.hid hf
  generalize xs.length = n at *
  clear hp hal hf
  cases b with
  | true =>
    have hv : v = decide (n < k) := HF.out
    by_cases h : n < k
    · have i1 : (n : Int) < (k : Int) := by omega
      rw [decide_eq_true h] at hv
      subst hv
      clear h HF
      go_enter Tryz.func61, Tryz.ntmps61
      go_wp2
      go_ret
      exact ⟨rfl, HAL.out⟩
    · have i1 : ¬ (n : Int) < (k : Int) := by omega
      rw [decide_eq_false (by omega)] at hv
      subst hv
      clear h HF
      go_enter Tryz.func61, Tryz.ntmps61
      go_wp2
      go_ret
      exact ⟨rfl, HAL.out⟩
  | false =>
    have hv : v = decide (k = n) := HF.out
    by_cases h : k = n
    · have i1 : ((n : Int) == (k : Int)) = true := by rw [beq_iff_eq]; omega
      rw [decide_eq_true h] at hv
      subst hv
      clear h HF
      go_enter Tryz.func61, Tryz.ntmps61
      go_wp2
      go_ret
      exact ⟨rfl, HAL.out⟩
    · have i1 : ((n : Int) == (k : Int)) = false := by rw [beq_eq_false_iff_ne]; omega
      rw [decide_eq_false (by omega)] at hv
      subst hv
      clear h HF
      go_enter Tryz.func61, Tryz.ntmps61
      go_wp2
      go_ret
      exact ⟨rfl, HAL.out⟩
/-- A string whose bytes are these. -/
def GivesStr (w : World) (l : List UInt8) (e : Ending) (w' : World) : Prop := ∃ s : ByteArray, e = .returned (.string s) ∧ s.data.toList = l ∧ s.size ≤ maxLen ∧ Below w.heap.size w w'
set_option maxHeartbeats 2000000 in
theorem gpartAt_any (A : Option Addr) (xs : List ByteArray) (c : Nat) (b : Bool) (p : Pt.Pat) (i : Nat) (w : World) (hp : PatR w A xs c b p) :
    Calls Tryz.prog 77 #[patV A xs.length c b, .int .i64 (i : Int)] w (GivesStr w (Pt.Rg.partAt p i)) := by
  have hal : Below w.heap.size w (w.alloc (.cells #[.slice A xs.length c, .bool b] 24)) := (Below.refl _ _).alloc (Nat.le_refl _) _
  have HAL := Lib.hid hal
  by_cases h : i < xs.length
  · obtain ⟨g, o, hA, hg, hc⟩ := (hp.keep hal).rd.cells (by omega)
    subst hA
    have ci := hc i h
    have i1 : (i : Int) < (xs.length : Int) := by omega
    have hv : xs[i].data.toList = Pt.Rg.partAt p i := by
      unfold Pt.Rg.partAt
      rw [← hp.parts, List.getD_eq_getElem?_getD, List.getElem?_eq_getElem (by rw [bs_length]; exact h), bs_get xs i h]
      rfl
    have HV := Lib.hid hv
    have HZ := Lib.hid (hp.sz _ (List.getElem_mem h))
    clear hv hp hal hc
    generalize xs[i] = x at *
    clear h
    generalize xs.length = n at *
    go_enter Tryz.func77, Tryz.ntmps77
    go_wp2
    go_ret
    exact ⟨x, rfl, HV.out, HZ.out, HAL.out⟩
  · have i1 : ¬ (i : Int) < (xs.length : Int) := by omega
    have hv : [42] = Pt.Rg.partAt p i := (Pt.Rg.partAt_far (by rw [hp.len]; omega)).symm
    have HV := Lib.hid hv
    clear hv hp hal h
    generalize xs.length = n at *
    go_enter Tryz.func77, Tryz.ntmps77
    go_wp2
    go_ret
    exact ⟨⟨#[42]⟩, rfl, HV.out, by decide, HAL.out⟩
set_option maxHeartbeats 2000000 in
/-- slices.IndexFunc with this closure. -/
theorem idxF_s1 (lb0 : Value) (P : Nat → Bool) (H : Option Addr) (bl : List BindV) (e : Nat) (w : World) (hr : RdB w H bl e)
    (hf : ∀ (k : Nat) (hk : k < bl.length) (w' : World), Below w.heap.size w w' → Calls Tryz.prog 64 #[patV bl[k].A bl[k].xs.length bl[k].c bl[k].b, lb0] w' (GivesBB w' (P k))) :
    Calls Tryz.prog 108 #[.slice H bl.length e, .func (.func 64) #[] #[lb0]] w fun en w' => ∃ r : Int, en = .returned (.int .i64 r) ∧ (0 ≤ r ↔ ∃ k, k < bl.length ∧ P k = true) ∧ Below w.heap.size w w' := by
  have HR := Lib.hid hr
  have HF := Lib.hid hf
  have hcm := hr.cm
  have hle := hr.le
  have hmi : (bl.length : Int) ≤ 9223372036854775807 := by unfold maxLen at hcm; omega
  clear hr hf hcm hle
  go_enter Tryz.func108, Tryz.ntmps108
  go_wp2
  go_loopg [8] bl.length (fun gg s8 wx => ∃ (k : Nat), k + gg = bl.length ∧ s8 = .int .i64 (k : Int) ∧ Below w.heap.size w wx ∧ Aside (∀ j, j < k → P j = false))
  case atStart => exact ⟨0, by omega, rfl, Below.refl _ _, fun j h => absurd h (Nat.not_lt_zero _)⟩
  case round =>
    obtain ⟨k, hk, rfl, hbw, HA⟩ := hrel
    have HBW := Lib.hid hbw
    by_cases hkn : k < bl.length
    · have i1 : (k : Int) < (bl.length : Int) := by omega
      obtain ⟨q, o, hA, hq, hcell⟩ := (HR.out.keep hbw).at (by omega)
      subst hA
      obtain ⟨e0, e1⟩ := hcell k hkn
      have HC := Lib.hid (HF.out k hkn wr hbw)
      clear hcell hbw
      cases hp : P k with
      | true =>
        rw [hp] at HC
        have HP := Lib.hid hp
        clear hp
        go_wp2_with fail
        with_reducible refine HC.out.mono ?_
        rintro e w1 ⟨rfl, hb1⟩
        have HB1 := Lib.hid hb1
        clear hb1
        go_wp2
        go_ret
        exact ⟨(k : Int), rfl, ⟨fun _ => ⟨k, hkn, HP.out⟩, fun _ => Int.natCast_nonneg _⟩, HBW.out.trans (HB1.out.mono HBW.out.size)⟩
      | false =>
        rw [hp] at HC
        have HP := Lib.hid hp
        clear hp
        go_wp2_with fail
        with_reducible refine HC.out.mono ?_
        rintro e w1 ⟨rfl, hb1⟩
        have HB1 := Lib.hid hb1
        clear hb1
        go_wp2
        go_roundg (bl.length - (k + 1))
        case measure => go_light; omega
        case rel =>
          go_light
          refine ⟨k + 1, by omega, by go_num, HBW.out.trans (HB1.out.mono HBW.out.size), (show Aside _ from fun j hj => ?_)⟩
          by_cases ej : j = k
          · rw [ej]; exact HP.out
          · exact HA.out j (by omega)
    · have i1 : ¬ (k : Int) < (bl.length : Int) := by omega
      clear hbw
      go_wp2
      go_ret
      refine ⟨-1, rfl, ⟨fun h => absurd h (by decide), fun ⟨j, hj, hp⟩ => ?_⟩, HBW.out⟩
      rw [HA.out j (by omega)] at hp
      cases hp
set_option maxHeartbeats 2000000 in
/-- slices.ContainsFunc with this closure. -/
theorem contF_s1 (lb0 : Value) (P : Nat → Bool) (H : Option Addr) (bl : List BindV) (e : Nat) (w : World) (hr : RdB w H bl e)
    (hf : ∀ (k : Nat) (hk : k < bl.length) (w' : World), Below w.heap.size w w' → Calls Tryz.prog 64 #[patV bl[k].A bl[k].xs.length bl[k].c bl[k].b, lb0] w' (GivesBB w' (P k))) (v : Bool) (hv : v = true ↔ ∃ k, k < bl.length ∧ P k = true) :
    Calls Tryz.prog 63 #[.slice H bl.length e, .func (.func 64) #[] #[lb0]] w (GivesBB w v) := by
  have HI := Lib.hid (idxF_s1 lb0 P H bl e w hr hf)
  have HV := Lib.hid hv
  clear hr hf hv
  generalize bl.length = n at *
  go_enter Tryz.func63, Tryz.ntmps63
  go_wp2_with fail
  with_reducible refine HI.out.mono ?_
  rintro e w1 ⟨r, rfl, hr, hb⟩
  have hv := HV.out
  rw [← hr] at hv
  have HB := Lib.hid hb
  by_cases h : 0 ≤ r
  · have hv' : v = true := hv.2 h
    subst hv'
    clear hv hr HV
    go_wp2
    go_ret
    exact ⟨rfl, HB.out⟩
  · have hv' : v = false := by cases v with | false => rfl | true => exact absurd (hv.1 rfl) h
    subst hv'
    clear hv hr HV
    go_wp2
    go_ret
    refine ⟨?_, HB.out⟩
    show Ending.returned (.bool (decide (0 ≤ r))) = _
    rw [decide_eq_false (by omega)]
set_option maxHeartbeats 2000000 in
/-- slices.IndexFunc with this closure. -/
theorem idxF_short (lb0 lb1 : Value) (P : Nat → Bool) (H : Option Addr) (bl : List BindV) (e : Nat) (w : World) (hr : RdB w H bl e)
    (hf : ∀ (k : Nat) (hk : k < bl.length) (w' : World), Below w.heap.size w w' → Calls Tryz.prog 60 #[patV bl[k].A bl[k].xs.length bl[k].c bl[k].b, lb0, lb1] w' (GivesBB w' (P k))) :
    Calls Tryz.prog 108 #[.slice H bl.length e, .func (.func 60) #[] #[lb0, lb1]] w fun en w' => ∃ r : Int, en = .returned (.int .i64 r) ∧ (0 ≤ r ↔ ∃ k, k < bl.length ∧ P k = true) ∧ Below w.heap.size w w' := by
  have HR := Lib.hid hr
  have HF := Lib.hid hf
  have hcm := hr.cm
  have hle := hr.le
  have hmi : (bl.length : Int) ≤ 9223372036854775807 := by unfold maxLen at hcm; omega
  clear hr hf hcm hle
  go_enter Tryz.func108, Tryz.ntmps108
  go_wp2
  go_loopg [8] bl.length (fun gg s8 wx => ∃ (k : Nat), k + gg = bl.length ∧ s8 = .int .i64 (k : Int) ∧ Below w.heap.size w wx ∧ Aside (∀ j, j < k → P j = false))
  case atStart => exact ⟨0, by omega, rfl, Below.refl _ _, fun j h => absurd h (Nat.not_lt_zero _)⟩
  case round =>
    obtain ⟨k, hk, rfl, hbw, HA⟩ := hrel
    have HBW := Lib.hid hbw
    by_cases hkn : k < bl.length
    · have i1 : (k : Int) < (bl.length : Int) := by omega
      obtain ⟨q, o, hA, hq, hcell⟩ := (HR.out.keep hbw).at (by omega)
      subst hA
      obtain ⟨e0, e1⟩ := hcell k hkn
      have HC := Lib.hid (HF.out k hkn wr hbw)
      clear hcell hbw
      cases hp : P k with
      | true =>
        rw [hp] at HC
        have HP := Lib.hid hp
        clear hp
        go_wp2_with fail
        with_reducible refine HC.out.mono ?_
        rintro e w1 ⟨rfl, hb1⟩
        have HB1 := Lib.hid hb1
        clear hb1
        go_wp2
        go_ret
        exact ⟨(k : Int), rfl, ⟨fun _ => ⟨k, hkn, HP.out⟩, fun _ => Int.natCast_nonneg _⟩, HBW.out.trans (HB1.out.mono HBW.out.size)⟩
      | false =>
        rw [hp] at HC
        have HP := Lib.hid hp
        clear hp
        go_wp2_with fail
        with_reducible refine HC.out.mono ?_
        rintro e w1 ⟨rfl, hb1⟩
        have HB1 := Lib.hid hb1
        clear hb1
        go_wp2
        go_roundg (bl.length - (k + 1))
        case measure => go_light; omega
        case rel =>
          go_light
          refine ⟨k + 1, by omega, by go_num, HBW.out.trans (HB1.out.mono HBW.out.size), (show Aside _ from fun j hj => ?_)⟩
          by_cases ej : j = k
          · rw [ej]; exact HP.out
          · exact HA.out j (by omega)
    · have i1 : ¬ (k : Int) < (bl.length : Int) := by omega
      clear hbw
      go_wp2
      go_ret
      refine ⟨-1, rfl, ⟨fun h => absurd h (by decide), fun ⟨j, hj, hp⟩ => ?_⟩, HBW.out⟩
      rw [HA.out j (by omega)] at hp
      cases hp
set_option maxHeartbeats 2000000 in
/-- slices.ContainsFunc with this closure. -/
theorem contF_short (lb0 lb1 : Value) (P : Nat → Bool) (H : Option Addr) (bl : List BindV) (e : Nat) (w : World) (hr : RdB w H bl e)
    (hf : ∀ (k : Nat) (hk : k < bl.length) (w' : World), Below w.heap.size w w' → Calls Tryz.prog 60 #[patV bl[k].A bl[k].xs.length bl[k].c bl[k].b, lb0, lb1] w' (GivesBB w' (P k))) (v : Bool) (hv : v = true ↔ ∃ k, k < bl.length ∧ P k = true) :
    Calls Tryz.prog 63 #[.slice H bl.length e, .func (.func 60) #[] #[lb0, lb1]] w (GivesBB w v) := by
  have HI := Lib.hid (idxF_short lb0 lb1 P H bl e w hr hf)
  have HV := Lib.hid hv
  clear hr hf hv
  generalize bl.length = n at *
  go_enter Tryz.func63, Tryz.ntmps63
  go_wp2_with fail
  with_reducible refine HI.out.mono ?_
  rintro e w1 ⟨r, rfl, hr, hb⟩
  have hv := HV.out
  rw [← hr] at hv
  have HB := Lib.hid hb
  by_cases h : 0 ≤ r
  · have hv' : v = true := hv.2 h
    subst hv'
    clear hv hr HV
    go_wp2
    go_ret
    exact ⟨rfl, HB.out⟩
  · have hv' : v = false := by cases v with | false => rfl | true => exact absurd (hv.1 rfl) h
    subst hv'
    clear hv hr HV
    go_wp2
    go_ret
    refine ⟨?_, HB.out⟩
    show Ending.returned (.bool (decide (0 ≤ r))) = _
    rw [decide_eq_false (by omega)]
end Go.Proofs.YtembmegllpkmfaaGreatDoor

namespace Go.Proofs.YtembmegllpkmfaaGreatDoor
open Go.RowKit

theorem ba_eq {x y : ByteArray} (h : x.data.toList = y.data.toList) : x = y := by
  cases x with | mk dx => cases y with | mk dy => rw [show dx = dy from Array.toList_inj.1 h]
theorem alikeGo_zero (h B : Pt.Pat) : Pt.Rg.alikeGo h B 0 = 0 := rfl
theorem alikeGo_eq {h B : Pt.Pat} {k : Nat} (e : Pt.Rg.partAt h k = Pt.Rg.partAt B k) : Pt.Rg.alikeGo h B (k + 1) = Pt.Rg.alikeGo h B k := by rw [Pt.Rg.alikeGo, if_pos e]
theorem alikeGo_ne {h B : Pt.Pat} {k : Nat} (e : Pt.Rg.partAt h k ≠ Pt.Rg.partAt B k) : Pt.Rg.alikeGo h B (k + 1) = k + 1 := by rw [Pt.Rg.alikeGo, if_neg e]
theorem partAt_in {w : World} {A : Option Addr} {xs : List ByteArray} {c : Nat} {b : Bool} {p : Pt.Pat} (hp : PatR w A xs c b p) {i : Nat} (h : i < xs.length) : xs[i].data.toList = Pt.Rg.partAt p i := by
  unfold Pt.Rg.partAt
  rw [← hp.parts, List.getD_eq_getElem?_getD, List.getElem?_eq_getElem (by rw [bs_length]; exact h), bs_get xs i h]
  rfl
set_option maxHeartbeats 2000000 in
theorem galike_any (A B : Option Addr) (xs ys : List ByteArray) (c d : Nat) (b f : Bool) (p q : Pt.Pat) (w : World) (hp : PatR w A xs c b p) (hq : PatR w B ys d f q) :
    Calls Tryz.prog 62 #[patV A xs.length c b, patV B ys.length d f] w (GivesN w (Pt.Rg.alikeFrom p q)) := by
  obtain ⟨W0, hW0⟩ : ∃ W0, W0 = (w.alloc (.cells #[.slice A xs.length c, .bool b] 24)).alloc (.cells #[.slice B ys.length d, .bool f] 24) := ⟨_, rfl⟩
  have hal : Below w.heap.size w W0 := by rw [hW0]; exact ((Below.refl _ _).alloc (Nat.le_refl _) _).alloc (by simp) _
  have HAL := Lib.hid hal
  have hcl := box2_cells (w := w) (w' := W0) (v0 := .slice A xs.length c) (v1 := .bool b) (u0 := .slice B ys.length d) (u1 := .bool f) (t := 24) (by rw [← hW0]; exact Below.refl _ _)
  have hz1 : w.heap.size + 1 < W0.heap.size := by rw [hW0]; simp
  have hz0 : w.heap.size < W0.heap.size := by omega
  have HP := Lib.hid (hp.keep hal)
  have HPA := Lib.hid (fun (k : Nat) (w' : World) (hb : Below W0.heap.size W0 w') => gpartAt_any B ys d f q k w'.drew (((hq.keep hal).keep hb).keep (below_drew (Below.refl _ _))))
  have HPI := Lib.hid (fun (i : Nat) (h : i < xs.length) => partAt_in hp h)
  have hv : Pt.Rg.alikeGo p q xs.length = Pt.Rg.alikeFrom p q := by unfold Pt.Rg.alikeFrom; rw [hp.len]
  have HV := Lib.hid hv
  have hcm := hp.cm
  have hle := hp.le
  have hmi : (xs.length : Int) ≤ 9223372036854775807 := by unfold maxLen at hcm; omega
  have HCL := Lib.hid hcl
  generalize Pt.Rg.alikeFrom p q = v at *
  obtain ⟨n, hn⟩ : ∃ n, n = xs.length := ⟨_, rfl⟩
  generalize ys.length = m at *
  clear hp hq hal hv hcm hle
  obtain ⟨c0, c1, c2, c3⟩ := hcl
  rw [← hn] at hmi c0 HCL hW0 HV ⊢
  have HN := Lib.hid hn
  clear hn
  go_enter Tryz.func62, Tryz.ntmps62
  go_wp2
  generalize hwg : (w.alloc (.cells #[.slice A n c, .bool b] 24)).alloc (.cells #[.slice B m d, .bool f] 24) = W
  have hWW : W = W0 := by rw [← hwg, hW0]
  subst hWW
  clear hwg hW0
  go_loopg [5] n (fun gg s5 wx => s5 = .int .i64 (gg : Int) ∧ gg ≤ n ∧ Below W.heap.size W wx ∧ Aside (Pt.Rg.alikeGo p q gg = v))
  case atStart => exact ⟨rfl, Nat.le_refl _, Below.refl _ _, HV.out⟩
  case round =>
    obtain ⟨rfl, hgn, hbw, HA⟩ := hrel
    have HBW := Lib.hid hbw
    have d0 := (hbw.cell (p := ⟨w.heap.size, 0, none⟩) hz0).trans c0
    have d1 := (hbw.cell (p := ⟨w.heap.size, 1, none⟩) hz0).trans c1
    have d2 := (hbw.cell (p := ⟨w.heap.size + 1, 0, none⟩) hz1).trans c2
    have d3 := (hbw.cell (p := ⟨w.heap.size + 1, 1, none⟩) hz1).trans c3
    have hy0 := Nat.lt_of_lt_of_le hz0 hbw.size
    have hy1 := Nat.lt_of_lt_of_le hz1 hbw.size
    clear c0 c1 c2 c3 hz0 hz1
    cases gk with
    | zero =>
      have hv := HA.out
      rw [alikeGo_zero] at hv
      subst hv
      clear hbw
      go_wp2
      go_region
      go_wp2
      go_ret
      exact ⟨rfl, below_drew (HAL.out.trans (HBW.out.mono HAL.out.size))⟩
    | succ k =>
      have hkn : k < xs.length := by rw [← HN.out]; exact hgn
      obtain ⟨g, o, hA, hg, hc⟩ := (HP.out.keep hbw).rd.cells (by omega)
      subst hA
      have ck := hc k hkn
      have HX := Lib.hid (HPI.out k hkn)
      have HC := Lib.hid (HPA.out k wr hbw)
      generalize xs[k] = x at *
      rw [Int.natCast_succ]
      have i1 : (0 : Int) < (k : Int) + 1 := by omega
      have i2 : (0 : Int) ≤ (k : Int) := Int.natCast_nonneg _
      have i3 : (k : Int) < (n : Int) := by omega
      have i4 : IntKind.i64.wrap (k : Int) = (k : Int) := IntWalk.i64_in _ (by omega)
      have i5 : IntKind.i64.wrap ((k : Int) + 1 - 1) = (k : Int) := by rw [show (k : Int) + 1 - 1 = (k : Int) by omega]; exact i4
      clear hc hbw hkn
      by_cases he : Pt.Rg.partAt p k = Pt.Rg.partAt q k
      · have HA2 := Lib.hid ((alikeGo_eq he).symm.trans HA.out)
        have HE := Lib.hid he
        clear he
        go_wp2_with fail
        go_region_held3 (fun w' => w'.cell? ⟨w.heap.size, 0, none⟩ = some (.slice (some ⟨g, o, none⟩) n c) ∧ w'.cell? ⟨w.heap.size, 1, none⟩ = some (.bool b) ∧ w'.cell? ⟨w.heap.size + 1, 0, none⟩ = some (.slice B m d) ∧ w'.cell? ⟨w.heap.size + 1, 1, none⟩ = some (.bool f) ∧ w'.cell? ⟨g, o + k, none⟩ = some (.string x))
          (first | exact ⟨(hb.cell (p := ⟨w.heap.size, 0, none⟩) (by exact hy0)).trans d0, (hb.cell (p := ⟨w.heap.size, 1, none⟩) (by exact hy0)).trans d1, (hb.cell (p := ⟨w.heap.size + 1, 0, none⟩) (by exact hy1)).trans d2, (hb.cell (p := ⟨w.heap.size + 1, 1, none⟩) (by exact hy1)).trans d3, (hb.cell (p := ⟨g, o + k, none⟩) (by exact hg)).trans ck⟩ | go_keep)
          ((go_at_call 77; have hcc := HC.out; with_reducible refine hcc.mono ?_; intro e w' hh; unfold GivesStr at hh; obtain ⟨s, rfl, hs, hsz, hb⟩ := hh
            have hxs : x = s := ba_eq (HX.out.trans (HE.out.trans hs.symm))
            subst hxs))
        go_wp2
        have HB := Lib.hid (HBW.out.trans ((below_drew (Below.refl _ _)).trans (hb.mono (by exact Nat.le_refl _)) |>.mono HBW.out.size))
        go_roundg k
        case measure => go_light; omega
        case rel => exact ⟨rfl, by omega, HB.out, HA2.out⟩
      · have hv := (alikeGo_ne he).symm.trans HA.out
        subst hv
        have HE := Lib.hid he
        clear he
        go_wp2_with fail
        go_region_held3 (fun w' => w'.cell? ⟨w.heap.size, 0, none⟩ = some (.slice (some ⟨g, o, none⟩) n c) ∧ w'.cell? ⟨w.heap.size, 1, none⟩ = some (.bool b) ∧ w'.cell? ⟨w.heap.size + 1, 0, none⟩ = some (.slice B m d) ∧ w'.cell? ⟨w.heap.size + 1, 1, none⟩ = some (.bool f) ∧ w'.cell? ⟨g, o + k, none⟩ = some (.string x))
          (first | exact ⟨(hb.cell (p := ⟨w.heap.size, 0, none⟩) (by exact hy0)).trans d0, (hb.cell (p := ⟨w.heap.size, 1, none⟩) (by exact hy0)).trans d1, (hb.cell (p := ⟨w.heap.size + 1, 0, none⟩) (by exact hy1)).trans d2, (hb.cell (p := ⟨w.heap.size + 1, 1, none⟩) (by exact hy1)).trans d3, (hb.cell (p := ⟨g, o + k, none⟩) (by exact hg)).trans ck⟩ | go_keep)
          ((go_at_call 77; have hcc := HC.out; with_reducible refine hcc.mono ?_; intro e w' hh; unfold GivesStr at hh; obtain ⟨s, rfl, hs, hsz, hb⟩ := hh
            have hxs2 : (x.toList == s.toList) = false := by rw [beq_eq_false_iff_ne, Lib.toList_data, Lib.toList_data]; exact fun e9 => HE.out (HX.out.symm.trans (e9.trans hs))))
        go_wp2
        go_ret
        exact ⟨rfl, HAL.out.trans ((HBW.out.trans ((below_drew (Below.refl _ _)).trans (hb.mono (by exact Nat.le_refl _)) |>.mono HBW.out.size)).mono HAL.out.size)⟩
end Go.Proofs.YtembmegllpkmfaaGreatDoor

namespace Go.Proofs.YtembmegllpkmfaaGreatDoor
open Go.RowKit

set_option maxHeartbeats 2000000 in
theorem gpart_any (A : Option Addr) (xs : List ByteArray) (c : Nat) (b : Bool) (p : Pt.Pat) (i : Nat) (w : World) (hp : PatR w A xs c b p) :
    Calls Tryz.prog 35 #[patV A xs.length c b, .int .i64 (i : Int)] w (GivesStr w (Pt.Rg.partAt p i)) := by
  have hal : Below w.heap.size w (w.alloc (.cells #[.slice A xs.length c, .bool b] 24)) := (Below.refl _ _).alloc (Nat.le_refl _) _
  have HAL := Lib.hid hal
  by_cases h : i < xs.length
  · obtain ⟨g, o, hA, hg, hc⟩ := (hp.keep hal).rd.cells (by omega)
    subst hA
    have ci := hc i h
    have i1 : (i : Int) < (xs.length : Int) := by omega
    have hv : xs[i].data.toList = Pt.Rg.partAt p i := by
      unfold Pt.Rg.partAt
      rw [← hp.parts, List.getD_eq_getElem?_getD, List.getElem?_eq_getElem (by rw [bs_length]; exact h), bs_get xs i h]
      rfl
    have HV := Lib.hid hv
    have HZ := Lib.hid (hp.sz _ (List.getElem_mem h))
    clear hv hp hal hc
    generalize xs[i] = x at *
    clear h
    generalize xs.length = n at *
    go_enter Tryz.func35, Tryz.ntmps35
    go_wp2
    go_ret
    exact ⟨x, rfl, HV.out, HZ.out, HAL.out⟩
  · have i1 : ¬ (i : Int) < (xs.length : Int) := by omega
    have hv : [42] = Pt.Rg.partAt p i := (Pt.Rg.partAt_far (by rw [hp.len]; omega)).symm
    have HV := Lib.hid hv
    clear hv hp hal h
    generalize xs.length = n at *
    go_enter Tryz.func35, Tryz.ntmps35
    go_wp2
    go_ret
    exact ⟨⟨#[42]⟩, rfl, HV.out, by decide, HAL.out⟩
set_option maxHeartbeats 2000000 in
theorem gcounts_any (A : Option Addr) (xs : List ByteArray) (c : Nat) (b : Bool) (p : Pt.Pat) (k : Nat) (w : World) (hp : PatR w A xs c b p) :
    Calls Tryz.prog 87 #[patV A xs.length c b, .int .i64 (k : Int)] w (GivesBB w (Pt.fits p k)) := by
  have hal : Below w.heap.size w (w.alloc (.cells #[.slice A xs.length c, .bool b] 24)) := (Below.refl _ _).alloc (Nat.le_refl _) _
  have HAL := Lib.hid hal
  have hf : Pt.fits p k = if b then decide (xs.length < k) else decide (k = xs.length) := by unfold Pt.fits; rw [hp.len, ← hp.rest]
  generalize Pt.fits p k = v at *
  have HF := Lib.hid hf
  generalize xs.length = n at *
  clear hp hal hf
  cases b with
  | true =>
    have hv : v = decide (n < k) := HF.out
    by_cases h : n < k
    · have i1 : (n : Int) < (k : Int) := by omega
      rw [decide_eq_true h] at hv
      subst hv
      clear h HF
      go_enter Tryz.func87, Tryz.ntmps87
      go_wp2
      go_ret
      exact ⟨rfl, HAL.out⟩
    · have i1 : ¬ (n : Int) < (k : Int) := by omega
      rw [decide_eq_false (by omega)] at hv
      subst hv
      clear h HF
      go_enter Tryz.func87, Tryz.ntmps87
      go_wp2
      go_ret
      exact ⟨rfl, HAL.out⟩
  | false =>
    have hv : v = decide (k = n) := HF.out
    by_cases h : k = n
    · have i1 : ((k : Int) == (n : Int)) = true := by rw [beq_iff_eq]; omega
      rw [decide_eq_true h] at hv
      subst hv
      clear h HF
      go_enter Tryz.func87, Tryz.ntmps87
      go_wp2
      go_ret
      exact ⟨rfl, HAL.out⟩
    · have i1 : ((k : Int) == (n : Int)) = false := by rw [beq_eq_false_iff_ne]; omega
      rw [decide_eq_false (by omega)] at hv
      subst hv
      clear h HF
      go_enter Tryz.func87, Tryz.ntmps87
      go_wp2
      go_ret
      exact ⟨rfl, HAL.out⟩
set_option maxHeartbeats 2000000 in
theorem s1_any (A B : Option Addr) (xs ys : List ByteArray) (c d : Nat) (b f : Bool) (p q : Pt.Pat) (g : Nat) (w : World) (hx : PBox w g A xs.length c b) (hp : PatR w A xs c b p) (hq : PatR w B ys d f q) :
    Calls Tryz.prog 64 #[patV B ys.length d f, .pointer (some ⟨g, 0, none⟩)] w (GivesBB w (Pt.within p q)) := by
  obtain ⟨W0, hW0⟩ : ∃ W0, W0 = w.alloc (.cells #[.slice B ys.length d, .bool f] 24) := ⟨_, rfl⟩
  have hal : Below w.heap.size w W0 := by rw [hW0]; exact (Below.refl _ _).alloc (Nat.le_refl _) _
  have HAL := Lib.hid hal
  have hby : PBox W0 w.heap.size B ys.length d f := by rw [hW0]; exact PBox.new ..
  have HC := Lib.hid (within_any A B xs ys c d b f p q W0 (hp.keep hal) (hq.keep hal))
  obtain ⟨t0, t1, tl⟩ := hby
  obtain ⟨s0, s1, sl⟩ := hx.keep hal
  generalize Pt.within p q = v at *
  generalize xs.length = n at *
  generalize ys.length = m at *
  clear hp hq hal hx
  subst hW0
  go_enter Tryz.func64, Tryz.ntmps64
  go_wp2_with fail
  with_reducible refine HC.out.mono ?_
  rintro e w1 ⟨rfl, hb⟩
  have HB := Lib.hid hb
  clear hb
  go_wp2
  go_ret
  exact ⟨rfl, HAL.out.trans (HB.out.mono HAL.out.size)⟩
set_option maxHeartbeats 2000000 in
theorem s2_any (A B : Option Addr) (xs ys : List ByteArray) (c d : Nat) (b f : Bool) (p q : Pt.Pat) (g : Nat) (w : World) (hx : PBox w g A xs.length c b) (hp : PatR w A xs c b p) (hq : PatR w B ys d f q) :
    Calls Tryz.prog 67 #[patV B ys.length d f, .pointer (some ⟨g, 0, none⟩)] w (GivesBB w (Pt.within q p)) := by
  obtain ⟨W0, hW0⟩ : ∃ W0, W0 = w.alloc (.cells #[.slice B ys.length d, .bool f] 24) := ⟨_, rfl⟩
  have hal : Below w.heap.size w W0 := by rw [hW0]; exact (Below.refl _ _).alloc (Nat.le_refl _) _
  have HAL := Lib.hid hal
  have hby : PBox W0 w.heap.size B ys.length d f := by rw [hW0]; exact PBox.new ..
  have HC := Lib.hid (within_any B A ys xs d c f b q p W0 (hq.keep hal) (hp.keep hal))
  obtain ⟨t0, t1, tl⟩ := hby
  obtain ⟨s0, s1, sl⟩ := hx.keep hal
  generalize Pt.within q p = v at *
  generalize xs.length = n at *
  generalize ys.length = m at *
  clear hp hq hal hx
  subst hW0
  go_enter Tryz.func67, Tryz.ntmps67
  go_wp2_with fail
  with_reducible refine HC.out.mono ?_
  rintro e w1 ⟨rfl, hb⟩
  have HB := Lib.hid hb
  clear hb
  go_wp2
  go_ret
  exact ⟨rfl, HAL.out.trans (HB.out.mono HAL.out.size)⟩
set_option maxHeartbeats 2000000 in
theorem short1_any (A : Option Addr) (xs : List ByteArray) (c : Nat) (b : Bool) (h : Pt.Pat) (B : Option Addr) (ys : List ByteArray) (d : Nat) (f : Bool) (q : Pt.Pat) (H : Option Addr) (m e : Nat) (i j k : Nat) (w : World)
    (hp : PatR w A xs c b h) (hq : PatR w B ys d f q) (hb : GBox w j B ys.length d f H m e) (hc : w.cell? ⟨i, 0, none⟩ = some (.int .i64 (k : Int))) (hi : i < w.heap.size) :
    Calls Tryz.prog 60 #[patV A xs.length c b, .pointer (some ⟨i, 0, none⟩), .pointer (some ⟨j, 0, none⟩)] w (GivesBB w (Pt.fits h k && decide (Pt.Rg.alikeFrom h q = 0))) := by
  obtain ⟨W0, hW0⟩ : ∃ W0, W0 = w.alloc (.cells #[.slice A xs.length c, .bool b] 24) := ⟨_, rfl⟩
  have hal : Below w.heap.size w W0 := by rw [hW0]; exact (Below.refl _ _).alloc (Nat.le_refl _) _
  have HAL := Lib.hid hal
  have hby : PBox W0 w.heap.size A xs.length c b := by rw [hW0]; exact PBox.new ..
  have HBY := Lib.hid hby
  have HGB := Lib.hid (hb.keep hal)
  have HC := Lib.hid (greaches_any A xs c b h k W0 (hp.keep hal))
  have HD := Lib.hid (fun (w' : World) (hb : Below W0.heap.size W0 w') => galike_any A B xs ys c d b f h q w' ((hp.keep hal).keep hb) ((hq.keep hal).keep hb))
  obtain ⟨t0, t1, tl⟩ := hby
  have s0 := (hal.cell (p := ⟨i, 0, none⟩) hi).trans hc
  generalize Pt.Rg.alikeFrom h q = a at *
  generalize xs.length = n at *
  generalize ys.length = ny at *
  clear hp hq hal hc hi hb
  cases hf : Pt.fits h k with
  | false =>
    rw [hf] at HC
    clear hf
    subst hW0
    go_enter Tryz.func60, Tryz.ntmps60
    go_wp2_with fail
    with_reducible refine HC.out.mono ?_
    rintro e w1 ⟨rfl, hb⟩
    have HB := Lib.hid hb
    clear hb
    go_wp2
    go_ret
    exact ⟨rfl, HAL.out.trans (HB.out.mono HAL.out.size)⟩
  | true =>
    rw [hf] at HC
    clear hf
    have HV : ∃ v : Bool, ((a : Int) == 0) = v ∧ decide (a = 0) = v := by
      by_cases h0 : a = 0
      · exact ⟨true, by rw [h0]; rfl, decide_eq_true h0⟩
      · exact ⟨false, by rw [beq_eq_false_iff_ne]; omega, decide_eq_false h0⟩
    obtain ⟨v, i1, hv⟩ := HV
    rw [hv, Bool.true_and]
    have HV2 := Lib.hid hv
    clear hv
    subst hW0
    go_enter Tryz.func60, Tryz.ntmps60
    go_wp2_with fail
    with_reducible refine HC.out.mono ?_
    rintro e w1 ⟨rfl, hb⟩
    obtain ⟨g0, g1, g2, gl⟩ := HGB.out.keep hb
    obtain ⟨b0, b1, bl⟩ := HBY.out.keep hb
    have HC2 := Lib.hid (HD.out w1 hb)
    have HB := Lib.hid hb
    clear hb t0 t1 tl s0
    go_wp2_with fail
    with_reducible refine HC2.out.mono ?_
    rintro e w2 ⟨rfl, hb⟩
    have HB2 := Lib.hid hb
    clear hb
    go_wp2
    go_ret
    exact ⟨rfl, HAL.out.trans ((HB.out.trans (HB2.out.mono HB.out.size)).mono HAL.out.size)⟩
end Go.Proofs.YtembmegllpkmfaaGreatDoor

namespace Go.Proofs.YtembmegllpkmfaaGreatDoor
open Go.RowKit

theorem any_at {f : Pt.Pat → Bool} {l : List Pt.Pat} : l.any f = true ↔ ∃ k, k < l.length ∧ f (l.getD k Pt.none_) = true := by
  rw [List.any_eq_true]
  constructor
  · rintro ⟨x, hx, hf⟩
    obtain ⟨k, hk, rfl⟩ := List.mem_iff_getElem.1 hx
    exact ⟨k, hk, by rw [List.getD_eq_getElem?_getD, List.getElem?_eq_getElem hk]; exact hf⟩
  · rintro ⟨k, hk, hf⟩
    rw [List.getD_eq_getElem?_getD, List.getElem?_eq_getElem hk] at hf
    exact ⟨_, List.getElem_mem hk, hf⟩
theorem reg_at {w : World} {A : Option Addr} {xs : List ByteArray} {c : Nat} {b : Bool} {H : Option Addr} {bl : List BindV} {e : Nat} {g : Pt.Rg.Reg} (h : RegR w A xs c b H bl e g) {k : Nat} (hk : k < bl.length) : g.holes.getD k Pt.none_ = bl[k].pat := by
  rw [← h.eq, List.getD_eq_getElem?_getD, List.getElem?_map, List.getElem?_eq_getElem hk]
  rfl
theorem givesP_ok {w : World} {o : Option (List (List UInt8))} {e : Ending} {w' : World} (h : GivesP w o e w') : ∃ v, e = .returned (.tuple #[v, .bool o.isSome]) ∧ Below w.heap.size w w' := by
  unfold GivesP at h
  cases o with
  | none => obtain ⟨rfl, hb⟩ := h; exact ⟨_, rfl, hb⟩
  | some l => obtain ⟨v, rfl, A, xs, c, _, _, _, _, _, hb⟩ := h; exact ⟨_, rfl, hb⟩
set_option maxHeartbeats 4000000 in
theorem gghas_any (A : Option Addr) (xs : List ByteArray) (c : Nat) (b : Bool) (H : Option Addr) (bl : List BindV) (e : Nat) (g : Pt.Rg.Reg) (s : ByteArray) (w : World) (hg : RegR w A xs c b H bl e g) (hs : s.size < 4294967281) (hm : MaxL w) :
    Calls Tryz.prog 53 #[regV A xs.length c b H bl.length e, .string s] w (GivesBB w (g.has s.data.toList)) := by
  obtain ⟨W0, hW0⟩ : ∃ W0, W0 = w.alloc (regObj A xs.length c b H bl.length e) := ⟨_, rfl⟩
  have hal : Below w.heap.size w W0 := by rw [hW0]; exact (Below.refl _ _).alloc (Nat.le_refl _) _
  have HAL := Lib.hid hal
  have hbx : GBox W0 w.heap.size A xs.length c b H bl.length e := by rw [hW0]; exact GBox.new ..
  have HBX := Lib.hid hbx
  have G0 := Lib.hid (hg.keep hal)
  have HCB := Lib.hid (rmatch_any A xs c b g.base s W0 (hg.keep hal).base hs (hm.keep hal hm.size))
  have HCH := Lib.hid (fun (k : Nat) (hk : k < bl.length) (w' : World) (hb : Below W0.heap.size W0 w') => rmatch_any bl[k].A bl[k].xs bl[k].c bl[k].b bl[k].pat s w' (((hg.keep hal).keep hb).holes.parts _ (List.getElem_mem hk)) hs ((hm.keep hal hm.size).keep hb (hm.keep hal hm.size).size))
  have HV := Lib.hid (show g.has s.data.toList = ((Pt.matchP g.base s.data.toList).isSome && !g.holes.any fun h => (Pt.matchP h s.data.toList).isSome) from rfl)
  have HIN := Lib.hid (fun (k : Nat) (hk : k < bl.length) (h : (Pt.matchP bl[k].pat s.data.toList).isSome = true) => show (g.holes.any fun h => (Pt.matchP h s.data.toList).isSome) = true from List.any_eq_true.2 ⟨_, reg_hole hg hk, h⟩)
  have HALL := Lib.hid (fun (h : ∀ k (hk : k < bl.length), (Pt.matchP bl[k].pat s.data.toList).isSome = false) => show (g.holes.any fun h => (Pt.matchP h s.data.toList).isSome) = false from by
    rw [List.any_eq_false]
    intro x hx
    rw [← hg.eq] at hx
    obtain ⟨y, hy, rfl⟩ := List.mem_map.1 hx
    obtain ⟨k, hk, rfl⟩ := List.mem_iff_getElem.1 hy
    rw [h k hk]
    decide)
  have hle := hg.holes.le
  have hcm := hg.holes.cm
  have hmi : (bl.length : Int) ≤ 9223372036854775807 := by unfold maxLen at hcm; omega
  generalize (g.holes.any fun h => (Pt.matchP h s.data.toList).isSome) = a at *
  generalize g.has s.data.toList = v at *
  obtain ⟨t0, t1, t2, tl⟩ := hbx
  clear hg hal hle hcm hm
  generalize xs.length = nx at *
  subst hW0
  cases hu : Pt.matchP g.base s.data.toList with
  | none =>
    have hv := HV.out
    rw [hu, Option.isSome_none, Bool.false_and] at hv
    subst hv
    rw [hu] at HCB
    clear hu HV
    go_enter Tryz.func53, Tryz.ntmps53
    go_wp2_with fail
    with_reducible refine HCB.out.mono ?_
    intro e u1 hh
    obtain ⟨vv, rfl, hb1⟩ := givesP_ok hh
    have HB1 := Lib.hid hb1
    clear hb1 hh
    go_wp2
    go_ret
    exact ⟨rfl, HAL.out.trans (HB1.out.mono HAL.out.size)⟩
  | some q =>
    have hv := HV.out
    rw [hu, Option.isSome_some, Bool.true_and] at hv
    have HV2 := Lib.hid hv
    rw [hu] at HCB
    clear hv HV hu
    go_enter Tryz.func53, Tryz.ntmps53
    go_wp2_with fail
    generalize w.alloc (regObj A nx c b H bl.length e) = W5 at *
    with_reducible refine HCB.out.mono ?_
    intro e u1 hh
    obtain ⟨vv, rfl, hb1⟩ := givesP_ok hh
    obtain ⟨s0, s1, s2, sl⟩ := HBX.out.keep hb1
    have HB1 := Lib.hid hb1
    clear hb1 hh t0 t1 t2 tl
    go_wp2
    go_loopg [23] bl.length (fun gg s23 wx => ∃ (k : Nat), k + gg = bl.length ∧ s23 = .int .i64 (k : Int) ∧ Below W5.heap.size W5 wx ∧ Aside (∀ j (hj : j < bl.length), j < k → (Pt.matchP bl[j].pat s.data.toList).isSome = false))
    case atStart => exact ⟨0, by omega, rfl, HB1.out, fun j _ h => absurd h (Nat.not_lt_zero _)⟩
    case round =>
      obtain ⟨k, hk, rfl, hbw, HA⟩ := hrel
      have HBW := Lib.hid hbw
      have HG := Lib.hid (G0.out.keep hbw)
      clear s0 s1 s2 sl
      by_cases hkn : k < bl.length
      · have i1 : (k : Int) < (bl.length : Int) := by omega
        obtain ⟨q, o, hA, hq, hcell⟩ := HG.out.holes.at (by omega)
        subst hA
        obtain ⟨e0, e1⟩ := hcell k hkn
        have ha : Below wr.heap.size wr (wr.alloc (.cells #[.slice bl[k].A bl[k].xs.length bl[k].c, .bool bl[k].b] 24)) := (Below.refl _ _).alloc (Nat.le_refl _) _
        have HW2 := Lib.hid (hbw.trans (ha.mono hbw.size))
        have HC2 := Lib.hid (HCH.out k hkn _ (hbw.trans (ha.mono hbw.size)))
        clear hcell hbw ha
        have HOF := Lib.hid (HIN.out k hkn)
        cases hck : Pt.matchP bl[k].pat s.data.toList with
        | none =>
          have HZ := Lib.hid (show (Pt.matchP bl[k].pat s.data.toList).isSome = false by rw [hck]; rfl)
          rw [hck] at HC2
          clear hck HOF
          go_wp2_with fail
          with_reducible refine HC2.out.mono ?_
          intro e u2 hh
          obtain ⟨vv, rfl, hb2⟩ := givesP_ok hh
          have HB2 := Lib.hid (HW2.out.trans (hb2.mono HW2.out.size))
          clear hb2 hh
          go_wp2
          go_roundg (bl.length - (k + 1))
          case measure => go_light; omega
          case rel =>
            go_light
            refine ⟨k + 1, by omega, by go_num, HB2.out, (show Aside _ from fun j hj hjk => ?_)⟩
            by_cases ej : j = k
            · subst ej; exact HZ.out
            · exact HA.out j hj (by omega)
        | some r =>
          have ht := HOF.out (by rw [hck]; rfl)
          have hv : v = false := by rw [HV2.out, ht]; rfl
          subst hv
          rw [hck] at HC2
          clear hck ht HOF
          go_wp2_with fail
          with_reducible refine HC2.out.mono ?_
          intro e u2 hh
          obtain ⟨vv, rfl, hb2⟩ := givesP_ok hh
          have HB2 := Lib.hid (HW2.out.trans (hb2.mono HW2.out.size))
          clear hb2 hh
          go_wp2
          go_ret
          exact ⟨rfl, HAL.out.trans (HB2.out.mono HAL.out.size)⟩
      · have i1 : ¬ (k : Int) < (bl.length : Int) := by omega
        have hv : v = true := by rw [HV2.out, HALL.out fun j hj => HA.out j hj (by omega)]; rfl
        subst hv
        clear hbw
        go_wp2
        go_ret
        exact ⟨rfl, HAL.out.trans (HBW.out.mono HAL.out.size)⟩
end Go.Proofs.YtembmegllpkmfaaGreatDoor

namespace Go.Proofs.YtembmegllpkmfaaGreatDoor
open Go.RowKit

theorem short_full {B : Pt.Pat} {H : List Pt.Pat} {n : Nat} (hB : Pt.check B = 0) (hH : ∀ h ∈ H, Pt.within h B = true) (hf : Pt.fits B n = true) :
    Pt.Rg.fullAt B H n = true ↔ ∃ k, k < H.length ∧ (Pt.fits (H.getD k Pt.none_) n && decide (Pt.Rg.alikeFrom (H.getD k Pt.none_) B = 0)) = true := by
  rw [Pt.Rg.fullAt_covers hB hf, ← any_at (f := fun h => Pt.fits h n && decide (Pt.Rg.alikeFrom h B = 0)), Pt.Rg.any_congr' fun h hh => (Pt.Rg.covers_alike (hH h hh) 0 n).trans (congrArg (Pt.fits h n && ·) (decide_eq_decide.2 Nat.le_zero))]
theorem len_some {B : Pt.Pat} {H : List Pt.Pat} {last k : Nat} (h1 : Pt.Rg.firstN B ≤ k) (h2 : k ≤ last) (h3 : ∀ m, Pt.Rg.firstN B ≤ m → m < k → Pt.Rg.fullAt B H m = true) (h4 : Pt.Rg.fullAt B H k = false) : Pt.Rg.findN B H last = some k := by
  unfold Pt.Rg.findN
  rw [List.find?_range'_eq_some]
  refine ⟨by rw [h4]; rfl, List.mem_range'_1.2 ⟨h1, by omega⟩, fun j hj hk => by rw [h3 j hj hk]; rfl⟩
theorem len_none {B : Pt.Pat} {H : List Pt.Pat} {last : Nat} (h3 : ∀ m, Pt.Rg.firstN B ≤ m → m ≤ last → Pt.Rg.fullAt B H m = true) : Pt.Rg.findN B H last = none := by
  unfold Pt.Rg.findN
  rw [List.find?_range'_eq_none]
  intro j hj hk
  rw [h3 j hj (by omega)]
  rfl
theorem first_fits {B : Pt.Pat} {k : Nat} (h1 : Pt.Rg.firstN B ≤ k) (h2 : k ≤ if B.rest then 13 else B.parts.length) : Pt.fits B k = true := by
  unfold Pt.Rg.firstN at h1
  cases hr : B.rest with
  | true => rw [hr, if_pos rfl] at h1; exact (Pt.Rg.fits_far hr).2 (by omega)
  | false => rw [hr, if_neg (by decide)] at h1 h2; exact (Pt.Rg.fits_one hr).2 (by omega)
/-- What shortest gives. -/
def GivesLen (w : World) (o : Option Nat) (e : Ending) (w' : World) : Prop := e = .returned (.tuple #[.int .i64 ((o.getD 0 : Nat) : Int), .bool o.isSome]) ∧ Below w.heap.size w w'
set_option maxHeartbeats 4000000 in
theorem short_any (A : Option Addr) (xs : List ByteArray) (c : Nat) (b : Bool) (H : Option Addr) (bl : List BindV) (e : Nat) (g : Pt.Rg.Reg) (w : World) (hg : RegR w A xs c b H bl e g) (hB : Pt.check g.base = 0) (hH : ∀ h ∈ g.holes, Pt.within h g.base = true) :
    Calls Tryz.prog 28 #[regV A xs.length c b H bl.length e] w (GivesLen w (Pt.Rg.lenN g.base g.holes)) := by
  obtain ⟨W0, hW0⟩ : ∃ W0, W0 = w.alloc (regObj A xs.length c b H bl.length e) := ⟨_, rfl⟩
  have hal : Below w.heap.size w W0 := by rw [hW0]; exact (Below.refl _ _).alloc (Nat.le_refl _) _
  have HAL := Lib.hid hal
  have hbx : GBox W0 w.heap.size A xs.length c b H bl.length e := by rw [hW0]; exact GBox.new ..
  have HBX := Lib.hid hbx
  have hn12 : xs.length ≤ 12 := by rw [← hg.base.len]; exact (Pt.check_ok.1 hB).2
  have hrest : g.base.rest = b := hg.base.rest.symm
  have hlen : g.base.parts.length = xs.length := hg.base.len
  have HF1 : Pt.Rg.firstN g.base = if b then xs.length + 1 else xs.length := by unfold Pt.Rg.firstN; rw [hrest, hlen]
  have HCF := Lib.hid (fun (w2 : World) (hb : Below W0.heap.size W0 w2) (q k : Nat) (hc : w2.cell? ⟨q, 0, none⟩ = some (.int .i64 (k : Int))) (hq : q < w2.heap.size) (hf : Pt.fits g.base k = true) => contF_short (.pointer (some ⟨q, 0, none⟩)) (.pointer (some ⟨w.heap.size, 0, none⟩))
    (fun j => Pt.fits (g.holes.getD j Pt.none_) k && decide (Pt.Rg.alikeFrom (g.holes.getD j Pt.none_) g.base = 0)) H bl e w2 ((hg.keep hal).keep hb).holes
    (fun j hj w' hb' => by
      have hbw := hb.trans (hb'.mono hb.size)
      have h1 := short1_any bl[j].A bl[j].xs bl[j].c bl[j].b bl[j].pat A xs c b g.base H bl.length e q w.heap.size k w' (((hg.keep hal).keep hbw).holes.parts _ (List.getElem_mem hj)) ((hg.keep hal).keep hbw).base (hbx.keep hbw) ((hb'.cell (p := ⟨q, 0, none⟩) hq).trans hc) (Nat.lt_of_lt_of_le hq hb'.size)
      rw [reg_at hg hj]
      exact h1)
    (Pt.Rg.fullAt g.base g.holes k) (by rw [short_full hB hH hf, reg_len hg]))
  have HFF := Lib.hid (fun (k : Nat) (h1 : Pt.Rg.firstN g.base ≤ k) (h2 : k ≤ if g.base.rest then 13 else g.base.parts.length) => first_fits h1 h2)
  have HSO := Lib.hid (fun (k : Nat) => len_some (B := g.base) (H := g.holes) (last := if g.base.rest then 13 else g.base.parts.length) (k := k))
  have HNO := Lib.hid (len_none (B := g.base) (H := g.holes) (last := if g.base.rest then 13 else g.base.parts.length))
  have HLN := Lib.hid (show Pt.Rg.lenN g.base g.holes = Pt.Rg.findN g.base g.holes (if g.base.rest then 13 else g.base.parts.length) from rfl)
  rw [hrest, hlen] at HFF HSO HNO HLN
  rw [HF1] at HFF HSO HNO
  generalize Pt.Rg.lenN g.base g.holes = v at *
  generalize Pt.Rg.findN g.base g.holes = fd at *
  generalize bl.length = m at *
  generalize xs.length = n at *
  clear hg hal hB hH HF1 hlen hrest
  obtain ⟨t0, t1, t2, tl⟩ := hbx
  cases b
  case false =>
    simp only [if_false, Bool.false_eq_true] at HFF HSO HNO HLN
    go_enter Tryz.func28, Tryz.ntmps28
    go_wp2_with fail
    generalize hwg : w.alloc (regObj A n c false H m e) = W
    have hWW : W = W0 := by rw [← hwg, hW0]
    subst hWW
    have hWs : W.heap.size = w.heap.size + 1 := by rw [← hwg]; simp
    clear hwg hW0
    go_region
    go_wp2
    go_loopg [6] (n + 1 - (n)) (fun gg s6 wx => ∃ (k q : Nat), k + gg = n + 1 ∧ n ≤ k ∧ s6 = .pointer (some ⟨q, 0, none⟩) ∧ wx.cell? ⟨q, 0, none⟩ = some (.int .i64 (k : Int)) ∧ wx.frozen? ⟨q, 0, none⟩ = false ∧ W.heap.size ≤ q ∧ q < wx.heap.size ∧ Below W.heap.size W wx ∧ Aside (∀ i, n ≤ i → i < k → Pt.Rg.fullAt g.base g.holes i = true))
    case atStart =>
      refine ⟨n, _, by omega, Nat.le_refl _, rfl, ?_, ?_, by omega, by simp; omega, below_drew (Below.refl _ _) |>.alloc (Nat.le_refl _) _, fun i h1 h2 => absurd h2 (Nat.not_lt.2 h1)⟩
      · rw [← hWs]; simp [go_sem]
      · rw [← hWs]; simp [go_sem]
    case round =>
      obtain ⟨k, q, hk, hF, rfl, hc, hfz, hWq, hq, hbw, HA⟩ := hrel
      have HBW := Lib.hid hbw
      clear t0 t1 t2 tl
      obtain ⟨t0, t1, t2, tl⟩ := HBX.out.keep hbw
      by_cases hkl : k ≤ n
      · have i1 : (k : Int) ≤ (n : Int) := by omega
        have HC := Lib.hid (HCF.out wr hbw q k hc hq (HFF.out k hF hkl))
        clear hbw
        cases hfa : Pt.Rg.fullAt g.base g.holes k with
        | false =>
          have hv := HLN.out.trans (HSO.out k hF hkl HA.out hfa)
          subst hv
          rw [hfa] at HC
          clear hfa
          go_wp2_with fail
          with_reducible refine HC.out.mono ?_
          rintro e w1 ⟨rfl, hb⟩
          have k1 := (hb.cell (p := ⟨q, 0, none⟩) hq).trans hc
          have HB := Lib.hid (HBW.out.trans (hb.mono HBW.out.size))
          clear hb
          go_wp2
          go_ret2
          exact ⟨rfl, HAL.out.trans (HB.out.mono HAL.out.size)⟩
        | true =>
          have HFA := Lib.hid hfa
          rw [hfa] at HC
          clear hfa
          go_wp2_with fail
          with_reducible refine HC.out.mono ?_
          rintro e w1 ⟨rfl, hb⟩
          have k1 := (hb.cell (p := ⟨q, 0, none⟩) hq).trans hc
          have hb2 := HBW.out.trans (hb.mono HBW.out.size)
          have HB := Lib.hid hb2
          have hsz := hb2.size
          clear hb hb2
          go_wp2
          go_roundg (n + 1 - (k + 1))
          case measure => go_light; omega
          case rel =>
            go_light
            refine ⟨k + 1, w1.heap.size, by omega, by omega, rfl, ?_, cells_free _ _ _ 0, by omega, by simp, HB.out.alloc hsz _, (show Aside _ from fun i h1 h2 => ?_)⟩
            · rw [show ((k + 1 : Nat) : Int) = (k : Int) + 1 from rfl]
              exact cells_new _ _ _ 0 _ rfl
            · by_cases ei : i = k
              · rw [ei]; exact HFA.out
              · exact HA.out i h1 (by omega)
      · have i1 : ¬ (k : Int) ≤ (n : Int) := by omega
        have hv := HLN.out.trans (HNO.out fun i h1 h2 => HA.out i h1 (by omega))
        subst hv
        clear hbw
        go_wp2
        go_ret2
        exact ⟨rfl, HAL.out.trans (HBW.out.mono HAL.out.size)⟩
  case true =>
    simp only [if_true] at HFF HSO HNO HLN
    go_enter Tryz.func28, Tryz.ntmps28
    go_wp2_with fail
    generalize hwg : w.alloc (regObj A n c true H m e) = W
    have hWW : W = W0 := by rw [← hwg, hW0]
    subst hWW
    have hWs : W.heap.size = w.heap.size + 1 := by rw [← hwg]; simp
    clear hwg hW0
    go_region
    go_wp2
    go_loopg [6] (13 + 1 - (n + 1)) (fun gg s6 wx => ∃ (k q : Nat), k + gg = 13 + 1 ∧ n + 1 ≤ k ∧ s6 = .pointer (some ⟨q, 0, none⟩) ∧ wx.cell? ⟨q, 0, none⟩ = some (.int .i64 (k : Int)) ∧ wx.frozen? ⟨q, 0, none⟩ = false ∧ W.heap.size ≤ q ∧ q < wx.heap.size ∧ Below W.heap.size W wx ∧ Aside (∀ i, n + 1 ≤ i → i < k → Pt.Rg.fullAt g.base g.holes i = true))
    case atStart =>
      refine ⟨n + 1, _, by omega, Nat.le_refl _, rfl, ?_, ?_, by omega, by simp; omega, below_drew (Below.refl _ _) |>.alloc (Nat.le_refl _) _, fun i h1 h2 => absurd h2 (Nat.not_lt.2 h1)⟩
      · rw [← hWs]; simp [go_sem]
      · rw [← hWs]; simp [go_sem]
    case round =>
      obtain ⟨k, q, hk, hF, rfl, hc, hfz, hWq, hq, hbw, HA⟩ := hrel
      have HBW := Lib.hid hbw
      clear t0 t1 t2 tl
      obtain ⟨t0, t1, t2, tl⟩ := HBX.out.keep hbw
      by_cases hkl : k ≤ 13
      · have i1 : (k : Int) ≤ (13 : Int) := by omega
        have HC := Lib.hid (HCF.out wr hbw q k hc hq (HFF.out k hF hkl))
        clear hbw
        cases hfa : Pt.Rg.fullAt g.base g.holes k with
        | false =>
          have hv := HLN.out.trans (HSO.out k hF hkl HA.out hfa)
          subst hv
          rw [hfa] at HC
          clear hfa
          go_wp2_with fail
          with_reducible refine HC.out.mono ?_
          rintro e w1 ⟨rfl, hb⟩
          have k1 := (hb.cell (p := ⟨q, 0, none⟩) hq).trans hc
          have HB := Lib.hid (HBW.out.trans (hb.mono HBW.out.size))
          clear hb
          go_wp2
          go_ret2
          exact ⟨rfl, HAL.out.trans (HB.out.mono HAL.out.size)⟩
        | true =>
          have HFA := Lib.hid hfa
          rw [hfa] at HC
          clear hfa
          go_wp2_with fail
          with_reducible refine HC.out.mono ?_
          rintro e w1 ⟨rfl, hb⟩
          have k1 := (hb.cell (p := ⟨q, 0, none⟩) hq).trans hc
          have hb2 := HBW.out.trans (hb.mono HBW.out.size)
          have HB := Lib.hid hb2
          have hsz := hb2.size
          clear hb hb2
          go_wp2
          go_roundg (13 + 1 - (k + 1))
          case measure => go_light; omega
          case rel =>
            go_light
            refine ⟨k + 1, w1.heap.size, by omega, by omega, rfl, ?_, cells_free _ _ _ 0, by omega, by simp, HB.out.alloc hsz _, (show Aside _ from fun i h1 h2 => ?_)⟩
            · rw [show ((k + 1 : Nat) : Int) = (k : Int) + 1 from rfl]
              exact cells_new _ _ _ 0 _ rfl
            · by_cases ei : i = k
              · rw [ei]; exact HFA.out
              · exact HA.out i h1 (by omega)
      · have i1 : ¬ (k : Int) ≤ (13 : Int) := by omega
        have hv := HLN.out.trans (HNO.out fun i h1 h2 => HA.out i h1 (by omega))
        subst hv
        clear hbw
        go_wp2
        go_ret2
        exact ⟨rfl, HAL.out.trans (HBW.out.mono HAL.out.size)⟩
end Go.Proofs.YtembmegllpkmfaaGreatDoor
