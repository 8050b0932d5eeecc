/- PatternSubstitutes returns true at every pattern and every slice of bindings (the card: the variables that it lists hold what the program text lays). Conditions: none of its own. -/
import Derived.Test.YtihboibebhokbaaDoorCards
import Derived.Test.YtihboibebhokbaaDoorTie
import Derived.WalkKit
import Derived.ProofKit
import Derived.OpenShut
import Derived.ShutString
import Derived.Test.YtihboibebhokbaaDoorPatOpenB
import Derived.Test.YtihboibebhokbaaDoorPatSubAll
import Derived.Test.YtihboibebhokbaaDoorPatOpen
namespace Go.Proofs.YtihboibebhokbaaDoor.patternSubstitutes
open Go.ChangeShapes Go.WideShapes Go.ChangeAt Go.RowKit
open Go.ChangeMaps (open_string shut_string)
set_option linter.unusedVariables false

set_option maxHeartbeats 16000000 in
theorem walk (w : World) (A0 : Option Addr) (xs0 : List ByteArray) (c0 : Nat) (b0 : Bool) (hp0 : PatR w A0 xs0 c0 b0 ⟨bs xs0, b0⟩) (hz0 : ∀ x ∈ xs0, x.size ≤ 140737488355000) (A1 : Option Addr) (bl1 : List BindV) (c1 : Nat) (hb1 : RdB w A1 bl1 c1) (hz1 : ∀ x ∈ bl1, ∀ y ∈ x.xs, y.size ≤ 140737488355000) (hm : MaxL w) :
    Calls Tryd.prog 3 #[patV A0 xs0.length c0 b0, .slice A1 bl1.length c1] w fun e w' => e = .returned (.bool true) ∧ Below w.heap.size w w' := by
  obtain ⟨W0, hW0⟩ : ∃ W0, W0 = w.alloc (.cells #[.slice A0 xs0.length c0, .bool b0] 24) := ⟨_, rfl⟩
  have hal : Below w.heap.size w W0 := by rw [hW0]; exact (Below.refl _ _).alloc (Nat.le_refl _) _
  have HX0 := Lib.hid (Below.refl W0.heap.size W0)
  have HAL := Lib.hid hal
  have hm0 := hm.keep hal hm.size
  have HAw := Lib.hid (fun (w' : World) (hb : Below W0.heap.size W0 w') => awake3_any w' (hm0.keep hb hm0.size))
  have HP := Lib.hid (fun (w' : World) (hb : Below W0.heap.size W0 w') => hp0.keep (hal.trans (hb.mono hal.size)))
  have HL := Lib.hid (fun (w' : World) (hb : Below W0.heap.size W0 w') => hb1.keep (hal.trans (hb.mono hal.size)))
  have HSm := Lib.hid (fun (w' : World) (hb : Below W0.heap.size W0 w') => small_any A0 xs0 c0 b0 _ w' (HP.out w' hb) (fun x hx => Nat.le_trans (hz0 x hx) (by decide)))
  have hbx : W0.cell? ⟨w.heap.size, 0, none⟩ = some (.slice A0 xs0.length c0) ∧ W0.cell? ⟨w.heap.size, 1, none⟩ = some (.bool b0) := by rw [hW0]; exact box_cells (Below.refl _ _)
  have hlt0 : w.heap.size < W0.heap.size := by rw [hW0]; simp
  have HB := Lib.hid (fun (w' : World) (hb : Below W0.heap.size W0 w') => show w'.cell? ⟨w.heap.size, 0, none⟩ = some (.slice A0 xs0.length c0) ∧ w'.cell? ⟨w.heap.size, 1, none⟩ = some (.bool b0) from ⟨(hb.cell (p := ⟨w.heap.size, 0, none⟩) hlt0).trans hbx.1, (hb.cell (p := ⟨w.heap.size, 1, none⟩) hlt0).trans hbx.2⟩)
  have hdm : (c1 : Int) ≤ 9223372036854775807 := by have := hb1.cm; unfold maxLen at this; omega
  have hmd : bl1.length ≤ c1 := hb1.le
  have HZ1 := Lib.hid hz1
  obtain ⟨m, hm1⟩ : ∃ m, m = bl1.length := ⟨_, rfl⟩
  rw [← hm1] at hmd
  rw [← hm1]
  have HM := Lib.hid hm1
  cases hsm : smallB (bs xs0) with
  | false =>
    rw [hsm] at HSm
    clear hbx hlt0 hp0 hz0 hb1 hz1 hm1 hsm
    subst hW0
    clear hal
    go_enter Tryd.func3, Tryd.ntmps3
    go_wp2_with fail
    with_reducible refine (HSm.out _ HX0.out).mono ?_
    rintro e u1 ⟨rfl, h1⟩
    have HX1 := Lib.hid h1
    clear h1
    go_wp2_with fail
    with_reducible refine (HAw.out _ HX1.out).mono ?_
    rintro e u2 ⟨rfl, h2⟩
    have HX2 := Lib.hid (HX1.out.trans (h2.mono HX1.out.size))
    clear h2
    go_wp2
    go_ret
    exact ⟨rfl, HAL.out.trans (HX2.out.mono HAL.out.size)⟩
  | true =>
    rw [hsm] at HSm
    obtain ⟨hn0, he0, hj0, hy0⟩ := small_facts hsm
    have HY0 := Lib.hid hy0
    clear he0 hj0 hy0 hsm
    by_cases hl : m ≤ 20
    rotate_left
    · have i1 : (20 : Int) < (m : Int) := by omega
      clear hbx hlt0 hp0 hz0 hb1 hz1 hm1
      subst hW0
      clear hal
      go_enter Tryd.func3, Tryd.ntmps3
      go_wp2_with fail
      with_reducible refine (HSm.out _ HX0.out).mono ?_
      rintro e u1 ⟨rfl, h1⟩
      have HX1 := Lib.hid h1
      clear h1
      go_wp2_with fail
      with_reducible refine (HAw.out _ HX1.out).mono ?_
      rintro e u2 ⟨rfl, h2⟩
      have HX2 := Lib.hid (HX1.out.trans (h2.mono HX1.out.size))
      clear h2
      go_wp2
      go_ret
      exact ⟨rfl, HAL.out.trans (HX2.out.mono HAL.out.size)⟩
    have i1 : ¬ (20 : Int) < (m : Int) := by omega
    clear hbx hlt0 hp0 hz0 hb1 hz1 hm1
    have hW0s : W0.heap.size = w.heap.size + 1 := by rw [hW0]; simp
    have HWS := Lib.hid hW0s
    subst hW0
    clear hal hW0s
    go_enter Tryd.func3, Tryd.ntmps3
    go_wp2_with fail
    with_reducible refine (HSm.out _ HX0.out).mono ?_
    rintro e u1 ⟨rfl, h1⟩
    have HX1 := Lib.hid h1
    clear h1
    go_wp2
    go_loopw [22] (fun iv wr => ∃ k : Nat, k ≤ m ∧ iv = .int .i64 k ∧ Below u1.heap.size u1 wr ∧ ∀ (j : Nat) (h : j < bl1.length), j < k → smallB (bs bl1[j].xs) = true) (fun iv _ => m - (intOf iv).toNat)
    case atStart => exact ⟨0, by omega, rfl, Below.refl _ _, fun j h hj => absurd hj (Nat.not_lt_zero j)⟩
    case round =>
      obtain ⟨k, hkm, rfl, hbr, hall⟩ := hrel
      have HXr := Lib.hid (HX1.out.trans (hbr.mono HX1.out.size))
      have HBR := Lib.hid hbr
      have HALL := Lib.hid hall
      have hzr := hbr.size
      have HRW := Lib.hid (HL.out wr HXr.out)
      clear hbr hall
      by_cases hlt : k < m
      · have hlx : k < bl1.length := by rw [← HM.out]; exact hlt
        obtain ⟨g, o, hA, hg, hcell⟩ := HRW.out.at (by omega)
        subst hA
        obtain ⟨e0, e1⟩ := hcell k hlx
        have hpr := HRW.out.parts _ (List.getElem_mem hlx)
        have hzk := HZ1.out _ (List.getElem_mem hlx)
        have HST := Lib.hid (show smallB (bs bl1[k].xs) = true → ∀ (j : Nat) (h : j < bl1.length), j < k + 1 → smallB (bs bl1[j].xs) = true from fun hs j h hj => by
          by_cases hjk : j = k
          · subst hjk; exact hs
          · exact HALL.out j h (by omega))
        have HSk := Lib.hid (fun (w' : World) (hb : Below wr.heap.size wr w') => small_any bl1[k].A bl1[k].xs bl1[k].c false ⟨bs bl1[k].xs, false⟩ w' ⟨(hpr.keep hb).rd, rfl, rfl, hpr.le, hpr.cm, hpr.nil, hpr.sz⟩ (fun x hx => Nat.le_trans (hzk x hx) (by decide)))
        clear hcell hpr hzk
        generalize bl1[k].A = XA at *
        generalize bl1[k].xs = ys at *
        generalize bl1[k].c = xc at *
        generalize bl1[k].b = xb at *
        generalize hsk : smallB (bs ys) = sb at *
        clear hsk
        generalize ys.length = L at *
        cases sb with
        | true =>
          go_wp2_with fail
          with_reducible refine (HSk.out _ ((Below.refl _ _).alloc (Nat.le_refl _) _)).mono ?_
          rintro e u2 ⟨rfl, h2⟩
          have HB2 := Lib.hid (show Below wr.heap.size wr u2 from ((Below.refl _ _).alloc (Nat.le_refl _) _).trans (h2.mono (by simp)))
          clear h2
          go_wp2
          go_roundw
          case rel => exact ⟨k + 1, by omega, by go_num, HBR.out.trans (HB2.out.mono hzr), HST.out trivial⟩
          case measure => simp [intOf]; omega
        | false =>
          go_wp2_with fail
          with_reducible refine (HSk.out _ ((Below.refl _ _).alloc (Nat.le_refl _) _)).mono ?_
          rintro e u2 ⟨rfl, h2⟩
          have HX2 := Lib.hid (HXr.out.trans ((show Below wr.heap.size wr u2 from ((Below.refl _ _).alloc (Nat.le_refl _) _).trans (h2.mono (by simp))).mono HXr.out.size))
          clear h2
          go_wp2_with fail
          with_reducible refine (HAw.out _ HX2.out).mono ?_
          rintro e u3 ⟨rfl, h3⟩
          have HX3 := Lib.hid (HX2.out.trans (h3.mono HX2.out.size))
          clear h3
          go_wp2
          go_ret
          exact ⟨rfl, HAL.out.trans (HX3.out.mono HAL.out.size)⟩
      · obtain rfl : k = m := by omega
        have hsml : ∀ v ∈ bl1, v.xs.length ≤ 20 ∧ ∀ y ∈ v.xs, y.size ≤ 400 := fun v hv => by
          obtain ⟨j, hj, rfl⟩ := List.getElem_of_mem hv
          have h := HALL.out j hj (by rw [HM.out]; exact hj)
          obtain ⟨h1, _, _, h4⟩ := small_facts h
          exact ⟨h1, h4⟩
        have HS := Lib.hid (fun (w' : World) (hb : Below (w.alloc (.cells #[.slice A0 xs0.length c0, .bool b0] 24)).heap.size (w.alloc (.cells #[.slice A0 xs0.length c0, .bool b0] 24)) w') => subst_any A0 A1 xs0 bl1 c0 c1 b0 _ w' (HP.out w' hb) (HL.out w' hb) (fun x hx => Nat.le_trans (HY0.out x hx) (by decide)) (fun v hv y hy => Nat.le_trans ((hsml v hv).2 y hy) (by decide)) (fun v hv => Nat.le_trans (hsml v hv).1 (by decide)))
        have HQ := Lib.hid (fun (w' : World) (hb : Below (w.alloc (.cells #[.slice A0 xs0.length c0, .bool b0] 24)).heap.size (w.alloc (.cells #[.slice A0 xs0.length c0, .bool b0] 24)) w') => rsubst_any A0 A1 xs0 bl1 c0 c1 b0 _ w' (HP.out w' hb) (HL.out w' hb) (fun x hx => Nat.le_trans (HY0.out x hx) (by decide)) (fun v hv y hy => Nat.le_trans ((hsml v hv).2 y hy) (by decide)) (fun v hv => Nat.le_trans (hsml v hv).1 (by decide)))
        rw [← HM.out] at HS HQ
        clear hsml
        generalize Pt.subst ⟨bs xs0, b0⟩ (bl1.map BindV.pat) = sp at *
        generalize Pt.substErr ⟨bs xs0, b0⟩ (bl1.map BindV.pat) = er at *
        obtain ⟨q0, q1⟩ := HB.out wr HXr.out
        go_wp2_with fail
        with_reducible refine (HS.out _ HXr.out).mono ?_
        rintro e u2 ⟨A2, xs2, c2, b2, rfl, hp2, h2⟩
        have hX2 := HXr.out.trans (h2.mono HXr.out.size)
        obtain ⟨r0, r1⟩ := HB.out u2 hX2
        have ha2 : Below u2.heap.size u2 (u2.alloc (.cells #[.slice A2 xs2.length c2, .bool b2] 24)) := (Below.refl _ _).alloc (Nat.le_refl _) _
        have HX3 := Lib.hid (hX2.trans (ha2.mono hX2.size))
        have HP3 := Lib.hid (fun (w' : World) (hb : Below u2.heap.size u2 w') => hp2.keep hb)
        obtain ⟨g0, g1⟩ := box_cells (w := u2) (v0 := .slice A2 xs2.length c2) (v1 := .bool b2) (t := 24) (Below.refl _ _)
        have HA2 := Lib.hid ha2
        obtain ⟨s0, s1⟩ := HB.out _ HX3.out
        clear hX2 ha2 h2 hp2
        go_wp2_with fail
        with_reducible refine (HQ.out _ HX3.out).mono ?_
        rintro e u4 ⟨A4, xs4, c4, b4, rfl, hp4, h4⟩
        have hX4 := HX3.out.trans (h4.mono HX3.out.size)
        have hb24 := HA2.out.trans (h4.mono HA2.out.size)
        have f0 := (h4.cell (p := ⟨u2.heap.size, 0, none⟩) (by simp)).trans g0
        have f1 := (h4.cell (p := ⟨u2.heap.size, 1, none⟩) (by simp)).trans g1
        have ha4 : Below u4.heap.size u4 (u4.alloc (.cells #[.slice A4 xs4.length c4, .bool b4] 24)) := (Below.refl _ _).alloc (Nat.le_refl _) _
        have HX5 := Lib.hid (hX4.trans (ha4.mono hX4.size))
        have HE := Lib.hid (same_pats A2 A4 xs2 xs4 c2 c4 b2 b4 sp _ (HP3.out _ (hb24.trans (ha4.mono hb24.size))) (hp4.keep ha4))
        have hs24 : u2.heap.size < u4.heap.size := by have := h4.size; simp at this; omega
        clear hX4 hb24 h4 hp4 ha4 g0 g1
        go_wp2_with fail
        with_reducible refine HE.out.mono ?_
        rintro e u6 ⟨rfl, h6⟩
        have HX6 := Lib.hid (HX5.out.trans (h6.mono HX5.out.size))
        clear h6
        go_wp2_with fail
        with_reducible refine (HAw.out _ HX6.out).mono ?_
        rintro e u7 ⟨rfl, h7⟩
        have HX7 := Lib.hid (HX6.out.trans (h7.mono HX6.out.size))
        clear h7
        go_wp2
        go_ret
        exact ⟨rfl, HAL.out.trans (HX7.out.mono HAL.out.size)⟩

end Go.Proofs.YtihboibebhokbaaDoor.patternSubstitutes
