/- law05.small. -/
import Derived.Test.YtembmegllpkmfaaGreatDoorRegFnA
namespace Go.Proofs.YtembmegllpkmfaaGreatDoor
open Go.RowKit
set_option linter.unusedVariables false
def okP (xs : List ByteArray) : Bool := xs.all fun x => decide (x.size ≤ 60)
def sumP (bl : List BindV) : Nat := (bl.map fun x => x.xs.length).sum
def smallG (xs : List ByteArray) (bl : List BindV) : Bool := (bl.all fun x => okP x.xs) && okP xs && decide (xs.length + sumP bl ≤ 400) && decide (bl.length ≤ 70) && decide (xs.length ≤ 20)
theorem okP_bad {xs : List ByteArray} {j : Nat} (hj : j < xs.length) (h : ¬ xs[j].size ≤ 60) : okP xs = false := by
  unfold okP
  rw [List.all_eq_false]
  exact ⟨_, List.getElem_mem hj, by simpa using h⟩
theorem okP_all {xs : List ByteArray} (h : ∀ j (hj : j < xs.length), xs[j].size ≤ 60) : okP xs = true := by
  unfold okP
  rw [List.all_eq_true]
  intro x hx
  obtain ⟨j, hj, rfl⟩ := List.getElem_of_mem hx
  exact decide_eq_true (h j hj)
theorem smallG_bad {xs : List ByteArray} {bl : List BindV} {k : Nat} (hk : k < bl.length) (h : okP bl[k].xs = false) : smallG xs bl = false := by
  unfold smallG
  have : (bl.all fun x => okP x.xs) = false := by
    rw [List.all_eq_false]
    exact ⟨_, List.getElem_mem hk, by simpa using h⟩
  rw [this]
  rfl
theorem smallG_base {xs : List ByteArray} {bl : List BindV} (h : okP xs = false) : smallG xs bl = false := by
  unfold smallG
  rw [h]
  simp
theorem smallG_all {xs : List ByteArray} {bl : List BindV} (h : ∀ k (hk : k < bl.length), okP bl[k].xs = true) (hx : okP xs = true) : smallG xs bl = (decide (xs.length + sumP bl ≤ 400) && decide (bl.length ≤ 70) && decide (xs.length ≤ 20)) := by
  unfold smallG
  have : (bl.all fun x => okP x.xs) = true := by
    rw [List.all_eq_true]
    intro x hx
    obtain ⟨k, hk, rfl⟩ := List.getElem_of_mem hx
    exact h k hk
  rw [this, hx]
  simp
theorem sumP_take {bl : List BindV} {k : Nat} (hk : k < bl.length) : sumP (bl.take (k + 1)) = sumP (bl.take k) + bl[k].xs.length := by
  unfold sumP
  rw [List.take_succ_eq_append_getElem hk, List.map_append, List.sum_append]
  simp
theorem sumP_le {N : Nat} : ∀ {bl : List BindV}, (∀ x ∈ bl, x.xs.length ≤ N) → sumP bl ≤ bl.length * N
  | [], _ => by simp [sumP]
  | y :: r, h => by
    have h1 := h y (by simp)
    have h2 := sumP_le (bl := r) fun x hx => h x (List.mem_cons_of_mem _ hx)
    have e : sumP (y :: r) = y.xs.length + sumP r := by simp [sumP]
    rw [e, List.length_cons, Nat.succ_mul]
    omega
theorem sumP_take_le (bl : List BindV) (k : Nat) : sumP (bl.take k) ≤ sumP bl := by
  have e : sumP bl = sumP (bl.take k) + sumP (bl.drop k) := by
    unfold sumP
    rw [← List.sum_append, ← List.map_append, List.take_append_drop]
  omega
set_option maxHeartbeats 8000000 in
theorem small5_any (A : Option Addr) (xs : List ByteArray) (c : Nat) (b : Bool) (H : Option Addr) (bl : List BindV) (e : Nat) (g : Pt.Rg.Reg) (w : World) (hg : RegR w A xs c b H bl e g) (hx : xs.length ≤ 140737488355328) (hl : ∀ x ∈ bl, x.xs.length ≤ 140737488355328) :
    Calls Tryz.prog 9 #[regV A xs.length c b H bl.length e] w (GivesBB w (smallG xs bl)) := by
  obtain ⟨W0, hW0⟩ : ∃ W0, W0 = w.alloc (regObj A xs.length c b H bl.length e) := ⟨_, rfl⟩
  have hal : Below w.heap.size w W0 := by rw [hW0]; exact (Below.refl _ _).alloc (Nat.le_refl _) _
  have HAL := Lib.hid hal
  have hgb : GBox W0 w.heap.size A xs.length c b H bl.length e := by rw [hW0]; exact GBox.new ..
  have HGB := Lib.hid hgb
  have HR := Lib.hid (hg.keep hal)
  have hmb : (bl.length : Int) ≤ 9223372036854775807 := by have h1 := hg.holes.le; have h2 := hg.holes.cm; unfold maxLen at h2; omega
  have hmx : (xs.length : Int) ≤ 140737488355328 := by omega
  have HST := Lib.hid (fun (k : Nat) (hk : k < bl.length) => show xs.length + sumP (bl.take (k + 1)) = xs.length + sumP (bl.take k) + bl[k].xs.length ∧ (k < 70 → xs.length + sumP (bl.take (k + 1)) ≤ 4611686018427387904) from by
    have h1 := sumP_take hk
    refine ⟨by omega, fun h70 => ?_⟩
    have h := sumP_le (N := 140737488355328) (bl := bl.take (k + 1)) (fun x hx => hl x (List.mem_of_mem_take hx))
    have h2 : (bl.take (k + 1)).length ≤ 70 := by rw [List.length_take]; omega
    have h3 : (bl.take (k + 1)).length * 140737488355328 ≤ 70 * 140737488355328 := Nat.mul_le_mul_right _ h2
    omega)
  have HML := Lib.hid (fun (k : Nat) (hk : k < bl.length) => hl _ (List.getElem_mem hk))
  have HBAD := Lib.hid (fun (k : Nat) (hk : k < bl.length) (h : okP bl[k].xs = false) => smallG_bad (xs := xs) hk h)
  have HBASE := Lib.hid (fun (h : okP xs = false) => smallG_base (bl := bl) h)
  have HALL := Lib.hid (fun (h : ∀ k (hk : k < bl.length), okP bl[k].xs = true) (hx : okP xs = true) => smallG_all h hx)
  generalize smallG xs bl = v at *
  clear hg hal hx hl
  obtain ⟨t0, t1, t2, tl⟩ := hgb
  go_enter Tryz.func9, Tryz.ntmps9
  go_wp2
  generalize hwg : w.alloc (regObj A xs.length c b H bl.length e) = W
  have hWW : W = W0 := by rw [← hwg, hW0]
  subst hWW
  clear hwg hW0 t0 t1 t2 tl
  go_loopg [3, 17] bl.length (fun gg s3 s17 wx => ∃ (k : Nat) (z : Int), k + gg = bl.length ∧ s17 = .int .i64 (k : Int) ∧ s3 = .int .i64 z ∧ Below W.heap.size W wx ∧ Aside ((k ≤ 70 → z = ((xs.length + sumP (bl.take k) : Nat) : Int)) ∧ ∀ j (hj : j < bl.length), j < k → okP bl[j].xs = true))
  case atStart => exact ⟨0, (xs.length : Int), by omega, rfl, rfl, Below.refl _ _, fun _ => by simp [sumP], fun j _ h => absurd h (Nat.not_lt_zero _)⟩
  case round =>
    obtain ⟨k, z, hk, rfl, rfl, hbw, HA⟩ := hrel
    have HBW := Lib.hid hbw
    obtain ⟨t0, t1, t2, tl⟩ := HGB.out.keep hbw
    by_cases hkn : k < bl.length
    · have i1 : (k : Int) < (bl.length : Int) := by omega
      obtain ⟨q, o, hA, hq, hcell⟩ := (HR.out.holes.keep hbw).at (by omega)
      subst hA
      obtain ⟨e0, e1⟩ := hcell k hkn
      have HOKF := Lib.hid (fun (h : okP bl[k].xs = false) => HBAD.out k hkn h)
      have HOKT := Lib.hid (fun (h : okP bl[k].xs = true) j (hj : j < bl.length) (hjk : j < k + 1) => show okP bl[j].xs = true from by
        by_cases ej : j = k
        · subst ej; exact h
        · exact HA.out.2 j hj (by omega))
      have hT := HST.out k hkn
      have hyl : (bl[k].xs.length : Int) ≤ 140737488355328 := by have := HML.out k hkn; omega
      have HZI : Hid (k < 70 → z + (bl[k].xs.length : Int) = ((xs.length + sumP (bl.take (k + 1)) : Nat) : Int) ∧ 0 ≤ z ∧ z + (bl[k].xs.length : Int) ≤ 4611686018427387904) := Lib.hid fun h => by
        have h1 := HA.out.1 (Nat.le_of_lt h)
        have h2 := hT.2 h
        omega
      have HT := Lib.hid hT
      have hb1 : Below wr.heap.size wr (wr.alloc (.cells #[.slice bl[k].A bl[k].xs.length bl[k].c, .bool bl[k].b] 24)) := (Below.refl _ _).alloc (Nat.le_refl _) _
      have HRX := Lib.hid (((HR.out.holes.keep hbw).parts _ (List.getElem_mem hkn)).keep hb1).rd
      have HWA := Lib.hid (hbw.trans (hb1.mono hbw.size))
      have HK := Lib.hid hkn
      clear hcell hbw hb1 hT
      generalize bl[k] = y at *
      generalize y.A = Ay at *
      generalize y.xs = ys at *
      go_wp2
      generalize hwg : wr.alloc (.cells #[.slice Ay ys.length y.c, .bool y.b] 24) = W2 at *
      go_loopg [29] ys.length (fun gg s29 wx => ∃ (j : Nat), j + gg = ys.length ∧ s29 = .int .i64 (j : Int) ∧ wx = W2 ∧ Aside (∀ i (hi : i < ys.length), i < j → ys[i].size ≤ 60))
      case atStart => exact ⟨0, by omega, rfl, rfl, fun i _ h => absurd h (Nat.not_lt_zero _)⟩
      case round =>
        obtain ⟨j, hj, rfl, rfl, HA2⟩ := hrel
        by_cases hjn : j < ys.length
        · have i2 : (j : Int) < (ys.length : Int) := by omega
          obtain ⟨g6, o6, hA6, hg6, hc6⟩ := RdS.cells HRX.out (by omega)
          have cj := hc6 j hjn
          subst hA6
          clear hc6
          by_cases h60 : ys[j].size ≤ 60
          · have HZ := Lib.hid h60
            have i3 : ¬ (60 : Int) < (ys[j].size : Int) := by omega
            generalize hx : ys[j] = x at cj i3
            clear hx h60
            go_wp2
            go_roundg (ys.length - (j + 1))
            case measure => go_light; omega
            case rel =>
              go_light
              refine ⟨j + 1, by omega, by go_num, rfl, (show Aside _ from fun i hi hij => ?_)⟩
              by_cases ei : i = j
              · subst ei; exact HZ.out
              · exact HA2.out i hi (by omega)
          · have hv := HOKF.out (okP_bad hjn h60)
            subst hv
            have i3 : (60 : Int) < (ys[j].size : Int) := by omega
            generalize ys[j] = x at cj i3
            go_wp2
            go_ret
            exact ⟨rfl, HAL.out.trans (HWA.out.mono HAL.out.size)⟩
        · have i2 : ¬ (j : Int) < (ys.length : Int) := by omega
          have HOK := Lib.hid (HOKT.out (okP_all (fun i hi => HA2.out i hi (by omega))))
          go_wp2
          go_roundg (bl.length - (k + 1))
          case measure => go_light; omega
          case rel =>
            go_light
            refine ⟨k + 1, _, by omega, by go_num, rfl, HWA.out, fun h => ?_, HOK.out⟩
            obtain ⟨z1, z2, z3⟩ := HZI.out (by omega)
            rw [← z1]
            first | rw [wrap64_of] | skip
            first | omega | (unfold wrap64; omega) | (simp [wrap64]; omega)
    · have i1 : ¬ (k : Int) < (bl.length : Int) := by omega
      have hkb : k = bl.length := by omega
      have HZ : Hid (bl.length ≤ 70 → z = ((xs.length + sumP bl : Nat) : Int)) := Lib.hid (fun h => by rw [HA.out.1 (by omega), hkb, List.take_length])
      have HOK : Hid (∀ j (hj : j < bl.length), okP bl[j].xs = true) := Lib.hid fun j hj => HA.out.2 j hj (by omega)
      have HRX := Lib.hid (HR.out.base.keep hbw).rd
      clear hbw hkb
      go_wp2
      go_loopg [42] xs.length (fun gg s42 wx => ∃ (j : Nat), j + gg = xs.length ∧ s42 = .int .i64 (j : Int) ∧ wx = wr ∧ Aside (∀ i (hi : i < xs.length), i < j → xs[i].size ≤ 60))
      case atStart => exact ⟨0, by omega, rfl, rfl, fun i _ h => absurd h (Nat.not_lt_zero _)⟩
      case round =>
        obtain ⟨j, hj, rfl, rfl, HA2⟩ := hrel
        by_cases hjn : j < xs.length
        · have i2 : (j : Int) < (xs.length : Int) := by omega
          obtain ⟨g6, o6, hA6, hg6, hc6⟩ := RdS.cells HRX.out (by omega)
          have cj := hc6 j hjn
          subst hA6
          clear hc6
          by_cases h60 : xs[j].size ≤ 60
          · have HZ2 := Lib.hid h60
            have i3 : ¬ (60 : Int) < (xs[j].size : Int) := by omega
            generalize hx : xs[j] = x at cj i3
            clear hx h60
            go_wp2
            go_roundg (xs.length - (j + 1))
            case measure => go_light; omega
            case rel =>
              go_light
              refine ⟨j + 1, by omega, by go_num, rfl, (show Aside _ from fun i hi hij => ?_)⟩
              by_cases ei : i = j
              · subst ei; exact HZ2.out
              · exact HA2.out i hi (by omega)
          · have hv := HBASE.out (okP_bad hjn h60)
            subst hv
            have i3 : (60 : Int) < (xs[j].size : Int) := by omega
            generalize xs[j] = x at cj i3
            go_wp2
            go_ret
            exact ⟨rfl, HAL.out.trans (HBW.out.mono HAL.out.size)⟩
        · have i2 : ¬ (j : Int) < (xs.length : Int) := by omega
          have hv := HALL.out HOK.out (okP_all (fun i hi => HA2.out i hi (by omega)))
          have HB := Lib.hid (HAL.out.trans (HBW.out.mono HAL.out.size))
          by_cases h2 : bl.length ≤ 70
          · have c2 : (bl.length : Int) ≤ 70 := by omega
            have hz := HZ.out h2
            by_cases h1 : xs.length + sumP bl ≤ 400
            · have c1 : z ≤ 400 := by omega
              by_cases h3 : xs.length ≤ 20
              · have c3 : (xs.length : Int) ≤ 20 := by omega
                rw [decide_eq_true h1, decide_eq_true h2, decide_eq_true h3] at hv
                have HV := Lib.hid hv
                clear hv hz
                go_wp2
                go_ret
                exact ⟨by first | (rw [HV.out]; rfl) | rw [HV.out], HB.out⟩
              · have c3 : ¬ (xs.length : Int) ≤ 20 := by omega
                rw [decide_eq_true h1, decide_eq_true h2, decide_eq_false h3] at hv
                have HV := Lib.hid hv
                clear hv hz
                go_wp2
                go_ret
                exact ⟨by first | (rw [HV.out]; rfl) | rw [HV.out], HB.out⟩
            · have c1 : ¬ z ≤ 400 := by omega
              rw [decide_eq_false h1, Bool.false_and, Bool.false_and] at hv
              have HV := Lib.hid hv
              clear hv hz
              go_wp2
              go_ret
              exact ⟨by first | (rw [HV.out]; rfl) | rw [HV.out], HB.out⟩
          · have c2 : ¬ (bl.length : Int) ≤ 70 := by omega
            rw [decide_eq_false h2, Bool.and_false, Bool.false_and] at hv
            have HV := Lib.hid hv
            clear hv
            by_cases c1 : z ≤ 400
            · go_wp2
              go_ret
              exact ⟨by first | (rw [HV.out]; rfl) | rw [HV.out], HB.out⟩
            · go_wp2
              go_ret
              exact ⟨by first | (rw [HV.out]; rfl) | rw [HV.out], HB.out⟩
end Go.Proofs.YtembmegllpkmfaaGreatDoor
