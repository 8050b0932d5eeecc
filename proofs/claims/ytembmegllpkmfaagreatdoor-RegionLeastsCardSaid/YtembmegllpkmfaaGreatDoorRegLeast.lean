/- region.Least. -/
import Derived.Test.YtembmegllpkmfaaGreatDoorRegTop
import Derived.Test.YtembmegllpkmfaaGreatDoorRegLeastM
namespace Go.Proofs.YtembmegllpkmfaaGreatDoor
open Go.RowKit
set_option linter.unusedVariables false
theorem simpL_len (B : Pt.Pat) (H : List Pt.Pat) : (Pt.Rg.simpL B H).length ≤ H.length := by
  unfold Pt.Rg.simpL Pt.Rg.keptOf
  rw [List.length_map]
  refine Nat.le_trans (List.length_filter_le _ _) ?_
  rw [List.length_range, List.length_mergeSort]
  exact List.length_filterMap_le _ _
theorem GBox.set {w : World} {q : Nat} {A A' : Option Addr} {n c n' c' : Nat} {b b' : Bool} {H H' : Option Addr} {m e m' e' : Nat} (h : GBox w q A n c b H m e) :
    GBox (((w.setCell ⟨q, 0, none⟩ (.slice A' n' c')).setCell ⟨q, 1, none⟩ (.bool b')).setCell ⟨q, 2, none⟩ (.slice H' m' e')) q A' n' c' b' H' m' e' :=
  ⟨by simp [go_sem, h.c0], by simp [go_sem, h.c1], by simp [go_sem, h.c2], by have := h.lt; simpa [World.setCell] using this⟩
/-- What Least finds. -/
def leastR (g : Pt.Rg.Reg) : Option (List (List UInt8)) := if Pt.Rg.gcheck g = 0 then Pt.Rg.leastO g.simp.base g.simp.holes else none
def leastS (o : Option (List (List UInt8))) : ByteArray := match o with | some l => ⟨(Pm.join l).toArray⟩ | none => ⟨#[]⟩
def GivesLst (w : World) (o : Option (List (List UInt8))) (k : Nat) (e : Ending) (w' : World) : Prop := e = .returned (.tuple #[.string (leastS o), .bool o.isSome, .int .i64 (k : Int)]) ∧ Below w.heap.size w w'
set_option maxHeartbeats 8000000 in
theorem least_any (A : Option Addr) (xs : List ByteArray) (c : Nat) (b : Bool) (H : Option Addr) (bl : List BindV) (e : Nat) (g : Pt.Rg.Reg) (w : World) (hg : RegR w A xs c b H bl e g) (hs : ShortG g) (hK : ∀ p ∈ g.base.parts, p.length ≤ 10000) :
    Calls Tryz.prog 12 #[regV A xs.length c b H bl.length e] w (GivesLst w (leastR g) (Pt.Rg.gcheck g)) := by
  obtain ⟨W0, hW0⟩ : ∃ W0, W0 = w.alloc (regObj A xs.length c b H bl.length e) := ⟨_, rfl⟩
  have hal : Below w.heap.size w W0 := by rw [hW0]; exact (Below.refl _ _).alloc (Nat.le_refl _) _
  have HAL := Lib.hid hal
  have hgb : GBox W0 w.heap.size A xs.length c b H bl.length e := by rw [hW0]; exact GBox.new ..
  have HGB := Lib.hid hgb
  have HFZ : Hid (∀ i, W0.frozen? ⟨w.heap.size, i, none⟩ = false) := Lib.hid fun i => by rw [hW0]; simp [regObj]
  have HCK := Lib.hid (gcheck_any A xs c b H bl e g W0 (hg.keep hal))
  by_cases hk : Pt.Rg.gcheck g = 0
  · obtain ⟨kB, kH, k64⟩ := Pt.Rg.gcheck_zero.1 hk
    have hsimp : ∀ h ∈ g.simp.holes, Pt.check h = 0 ∧ Pt.within h g.simp.base = true := fun h hh => Pt.Rg.met_ok (((Pt.Rg.simpL_is g.base g.holes).mem h).1 hh).1
    have h64 : g.simp.holes.length ≤ 64 := Nat.le_trans (simpL_len g.base g.holes) k64
    have hpl : ∀ i, (Pt.Rg.partAt g.simp.base i).length ≤ 10000 := fun i => by
      unfold Pt.Rg.partAt
      rcases Nat.lt_or_ge i g.simp.base.parts.length with h | h
      · rw [List.getD_eq_getElem?_getD, List.getElem?_eq_getElem h]; exact hK _ (List.getElem_mem h)
      · rw [List.getD_eq_getElem?_getD, List.getElem?_eq_none h]; decide
    have HSI := Lib.hid (fun (w' : World) (hb : Below W0.heap.size W0 w') => simp_any A xs c b H bl e g w' ((hg.keep hal).keep hb) hs (by rw [← reg_len hg]; omega) (by rw [← hg.base.len]; have := (Pt.check_ok.1 kB).2; omega))
    have HSH := Lib.hid (fun (A' : Option Addr) (xs' : List ByteArray) (c' : Nat) (b' : Bool) (H' : Option Addr) (bl' : List BindV) (e' : Nat) (w' : World) (hr : RegR w' A' xs' c' b' H' bl' e' g.simp) => short_any A' xs' c' b' H' bl' e' g.simp w' hr kB simp_holes)
    have HNL := Lib.hid (fun (n : Nat) (hn : Pt.Rg.lenN g.simp.base g.simp.holes = some n) => Pt.Rg.names_least (B := g.simp.base) (H := g.simp.holes) kB hsimp h64 hK (by decide) hn)
    have HNM := Lib.hid (fun (A' : Option Addr) (xs' : List ByteArray) (c' : Nat) (b' : Bool) (H' : Option Addr) (bl' : List BindV) (e' n : Nat) (l : List (List UInt8)) (w' : World) (hr : RegR w' A' xs' c' b' H' bl' e' g.simp) (hn : n ≤ 1000) (hl : Pt.Rg.namesGo g.simp.base 0 n (g.simp.holes.filter fun h => Pt.fits h n) = some l) =>
      names_any A' xs' c' b' H' bl' e' g.simp n l w' hr kB (by rw [← reg_len hr]; exact h64) hn hpl hl)
    have HLR : Hid (leastR g = Pt.Rg.leastO g.simp.base g.simp.holes) := Lib.hid (by unfold leastR; rw [if_pos hk])
    have HLN : Hid (Pt.Rg.lenN g.simp.base g.simp.holes = none → Pt.Rg.leastO g.simp.base g.simp.holes = none) := Lib.hid (fun h => by unfold Pt.Rg.leastO; rw [h]; rfl)
    rw [hk] at HCK ⊢
    rw [HLR.out]
    clear HLR
    generalize g.simp = gs at *
    generalize hlo : Pt.Rg.lenN gs.base gs.holes = o at *
    have HLO := Lib.hid hlo
    obtain ⟨t0, t1, t2, tl⟩ := hgb
    generalize bl.length = m at *
    generalize xs.length = nx at *
    clear hg hal hs hk kB kH k64 hsimp h64 hpl hK hlo
    subst hW0
    go_enter Tryz.func12, Tryz.ntmps12
    go_wp2_with fail
    with_reducible refine HCK.out.mono ?_
    rintro en w1 ⟨rfl, hb1⟩
    have HB1 := Lib.hid hb1
    obtain ⟨u0, u1, u2, ul⟩ := HGB.out.keep hb1
    have HC2 := Lib.hid (HSI.out w1 hb1)
    clear t0 t1 t2 tl hb1
    go_wp2_with fail
    with_reducible refine HC2.out.mono ?_
    rintro en w2 ⟨A', xs', c', b', H', bl', e', rfl, hr, hb2, hf1, hf2, hf3⟩
    have hbz := HB1.out.trans (hb2.mono HB1.out.size)
    have hz : w.heap.size < (w.alloc (regObj A nx c b H m e)).heap.size := by simp
    have gz := HGB.out.keep hbz
    have hfin := store_fin (q := w.heap.size) hr (HAL.out.trans (hbz.mono HAL.out.size)) (Nat.le_refl _) (Nat.lt_of_lt_of_le hz HB1.out.size) hf1 hf2 hf3 (.slice A' xs'.length c') (.bool b') (.slice H' bl'.length e') rfl
    have gs2 := gz.set (A' := A') (n' := xs'.length) (c' := c') (b' := b') (H' := H') (m' := bl'.length) (e' := e')
    have HR := Lib.hid hfin.1
    have HBW := Lib.hid hfin.2.1
    have HG3 := Lib.hid gs2
    have HC3 := Lib.hid (HSH.out A' xs' c' b' H' bl' e' _ hfin.1)
    obtain ⟨z0, z1, z2, zl⟩ := gz
    have y0 := (hbz.frozen (p := ⟨w.heap.size, 0, none⟩) hz).trans (HFZ.out 0)
    have y1 := (hbz.frozen (p := ⟨w.heap.size, 1, none⟩) hz).trans (HFZ.out 1)
    have y2 := (hbz.frozen (p := ⟨w.heap.size, 2, none⟩) hz).trans (HFZ.out 2)
    clear hb2 hr hf1 hf2 hf3 u0 u1 u2 hbz hfin gs2
    go_wp2_with fail
    with_reducible refine HC3.out.mono ?_
    rintro en w4 ⟨rfl, hb4⟩
    have HB4 := Lib.hid hb4
    have HR4 := Lib.hid (HR.out.keep hb4)
    have HW4 := Lib.hid (HBW.out.trans (hb4.mono HBW.out.size))
    obtain ⟨v0, v1, v2, vl⟩ := HG3.out.keep hb4
    clear z0 z1 z2 zl y0 y1 y2 hb4
    cases o with
    | none =>
      go_wp2
      refine bodyPost_ret (v := .tuple #[.string ⟨#[]⟩, .bool false, .int .i64 0]) (by simp [results, Tryz.results12, go_sem]) rfl ⟨by rw [HLN.out (by first | trivial | rfl)]; rfl, HW4.out⟩
    | some n =>
      obtain ⟨l, q1, q2, q3, q4, q5, q6, q7⟩ := HNL.out n rfl
      have HQ2 := Lib.hid q2
      have HC5 := Lib.hid (HNM.out A' xs' c' b' H' bl' e' n l w4 HR4.out (by omega) q1)
      have HQ3 := Lib.hid q3
      have HQ4 := Lib.hid q4
      have HQ5 := Lib.hid q5
      have HQ6 := Lib.hid q6
      have HQ7 := Lib.hid q7
      clear q1 q2 q3 q4 q5 q6 q7
      go_wp2_with fail
      with_reducible refine HC5.out.mono ?_
      rintro en w5 ⟨v5, rfl, A5, xs5, c5, rfl, r1, r2, r3, r4, hb5⟩
      have HB5 := Lib.hid hb5
      have hl5 : xs5.length ≤ 13 := by rw [← bs_length, r1, HQ3.out]; exact HQ5.out
      have hx5 : ∀ x ∈ xs5, x.size ≤ 10001 := fun x hx => by
        have := HQ7.out x.data.toList (by rw [← r1]; exact List.mem_map_of_mem hx)
        simpa using this
      have hj5 : (Lib.join (bs xs5) [47]).length ≤ 140737488355000 := by
        have := lib_join_len 10001 l HQ7.out
        rw [r1]
        rw [HQ3.out] at this
        have h13 := HQ5.out
        have h14 : n * 10002 ≤ 13 * 10002 := Nat.mul_le_mul_right _ h13
        omega
      have HC6 := Lib.hid (pjoin_any A5 xs5 c5 w5 r4 r2 hj5 (by omega) (fun x hx => Nat.le_trans (hx5 x hx) (by unfold maxLen; decide)))
      have HOK : Hid (joinOk (bs xs5) = true) := Lib.hid (by
        rw [r1]
        unfold joinOk
        rw [decide_eq_true (by rw [HQ3.out]; exact HQ4.out), Bool.true_and, List.all_eq_true]
        exact HQ6.out)
      rw [HOK.out, r1] at HC6
      clear r1 r2 r3 r4 hb5 hl5 hx5 hj5
      go_wp2_with fail
      with_reducible refine HC6.out.mono ?_
      rintro en w6 ⟨rfl, hb6⟩
      have HB6 := Lib.hid hb6
      clear hb6
      go_wp2
      have hbb := HW4.out.trans (((HB5.out.trans (HB6.out.mono HB5.out.size))).mono HW4.out.size)
      refine bodyPost_ret (v := .tuple #[.string ⟨(Pm.join l).toArray⟩, .bool true, .int .i64 0]) (by simp [results, Tryz.results12, go_sem]) rfl ⟨by rw [HQ2.out]; rfl, hbb⟩
  · have hlr : leastR g = none := by unfold leastR; rw [if_neg hk]
    rw [hlr]
    generalize Pt.Rg.gcheck g = k at *
    have i1 : ((k : Int) == 0) = false := by rw [beq_eq_false_iff_ne]; omega
    have i2 : ((k : Int) != 0) = true := by rw [bne, i1]; rfl
    obtain ⟨t0, t1, t2, tl⟩ := hgb
    generalize bl.length = m at *
    generalize xs.length = nx at *
    clear hg hal hs hk hK hlr
    subst hW0
    go_enter Tryz.func12, Tryz.ntmps12
    go_wp2_with fail
    with_reducible refine HCK.out.mono ?_
    rintro en w1 ⟨rfl, hb1⟩
    have HB1 := Lib.hid hb1
    clear hb1
    go_wp2
    refine bodyPost_ret (v := .tuple #[.string ⟨#[]⟩, .bool false, .int .i64 (k : Int)]) (by simp [results, Tryz.results12, go_sem]) rfl ⟨rfl, HAL.out.trans (HB1.out.mono HAL.out.size)⟩
end Go.Proofs.YtembmegllpkmfaaGreatDoor
