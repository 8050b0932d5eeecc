/- PatternNarrows returns true at every two patterns and every slice of bindings (the card: the variables that it lists hold what the program text lays). Conditions: none of its own. -/
import Derived.Test.YtihboibebhokbaaDoorCards
import Derived.Test.YtihboibebhokbaaDoorTie
import Derived.WalkKit
import Derived.ProofKit
import Derived.OpenShut
import Derived.ShutString
import Derived.Test.YtihboibebhokbaaDoorPatOpenB
import Derived.Test.YtihboibebhokbaaDoorPatSubAll
import Derived.Test.YtihboibebhokbaaDoorRulBase
import Derived.Test.YtihboibebhokbaaDoorPatOpen
namespace Go.Proofs.YtihboibebhokbaaDoor.patternNarrows
open Go.ChangeShapes Go.WideShapes Go.ChangeAt Go.RowKit
open Go.ChangeMaps (open_string shut_string)
set_option linter.unusedVariables false

abbrev SEo (wr : World) (g1 g2 o k : Nat) (v0 v1 u0 u1 : Value) (w' : World) : Prop :=
  w'.cell? ⟨g1, k * 2, none⟩ = some v0 ∧ w'.cell? ⟨g1, k * 2 + 1, none⟩ = some v1 ∧ w'.cell? ⟨g2, o + k * 2, none⟩ = some u0 ∧ w'.cell? ⟨g2, o + k * 2 + 1, none⟩ = some u1 ∧ InE wr w'
theorem SEo.held {wr : World} {g1 g2 o k : Nat} {v0 v1 u0 u1 : Value} (h1 : g1 < wr.heap.size) (h2 : g2 < wr.heap.size) (c0 : wr.cell? ⟨g1, k * 2, none⟩ = some v0) (c1 : wr.cell? ⟨g1, k * 2 + 1, none⟩ = some v1) (c2 : wr.cell? ⟨g2, o + k * 2, none⟩ = some u0) (c3 : wr.cell? ⟨g2, o + k * 2 + 1, none⟩ = some u1) (w' : World) (h : InE wr w') : SEo wr g1 g2 o k v0 v1 u0 u1 w' :=
  ⟨(h.below.cell (p := ⟨g1, k * 2, none⟩) h1).trans c0, (h.below.cell (p := ⟨g1, k * 2 + 1, none⟩) h1).trans c1, (h.below.cell (p := ⟨g2, o + k * 2, none⟩) h2).trans c2, (h.below.cell (p := ⟨g2, o + k * 2 + 1, none⟩) h2).trans c3, h⟩
set_option maxHeartbeats 16000000 in
theorem walk (w : World) (A0 : Option Addr) (xs0 : List ByteArray) (c0 : Nat) (b0 : Bool) (hp0 : PatR w A0 xs0 c0 b0 ⟨bs xs0, b0⟩) (hz0 : ∀ x ∈ xs0, x.size ≤ 140737488355000) (A1 : Option Addr) (xs1 : List ByteArray) (c1 : Nat) (b1 : Bool) (hp1 : PatR w A1 xs1 c1 b1 ⟨bs xs1, b1⟩) (hz1 : ∀ x ∈ xs1, x.size ≤ 140737488355000) (A2 : Option Addr) (bl2 : List BindV) (c2 : Nat) (hb2 : RdB w A2 bl2 c2) (hz2 : ∀ x ∈ bl2, ∀ y ∈ x.xs, y.size ≤ 140737488355000) (hm : MaxL w) :
    Calls Tryd.prog 4 #[patV A0 xs0.length c0 b0, patV A1 xs1.length c1 b1, .slice A2 bl2.length c2] w fun e w' => e = .returned (.bool true) ∧ Below w.heap.size w w' := by
  obtain ⟨W0, hW0⟩ : ∃ W0, W0 = ((w.alloc (.cells #[.slice A0 xs0.length c0, .bool b0] 24)).alloc (.cells #[.slice A1 xs1.length c1, .bool b1] 24)) := ⟨_, rfl⟩
  have hal : Below w.heap.size w W0 := by rw [hW0]; exact ((Below.refl _ _).alloc (Nat.le_refl _) _).alloc (by simp) _
  have HX0 := Lib.hid (Below.refl W0.heap.size W0)
  have hm0 := hm.keep hal hm.size
  have HAL := Lib.hid hal
  have HAw := Lib.hid (fun (w' : World) (hb : Below W0.heap.size W0 w') => awake3_any w' (hm0.keep hb hm0.size))
  have HP := Lib.hid (fun (w' : World) (hb : Below W0.heap.size W0 w') => hp0.keep (hal.trans (hb.mono hal.size)))
  have HQ := Lib.hid (fun (w' : World) (hb : Below W0.heap.size W0 w') => hp1.keep (hal.trans (hb.mono hal.size)))
  have HL := Lib.hid (fun (w' : World) (hb : Below W0.heap.size W0 w') => hb2.keep (hal.trans (hb.mono hal.size)))
  have HSm0 := Lib.hid (fun (w' : World) (hb : Below W0.heap.size W0 w') => small_any A0 xs0 c0 b0 _ w' (HP.out w' hb) (fun x hx => Nat.le_trans (hz0 x hx) (by decide)))
  have HSm1 := Lib.hid (fun (w' : World) (hb : Below W0.heap.size W0 w') => small_any A1 xs1 c1 b1 _ w' (HQ.out w' hb) (fun x hx => Nat.le_trans (hz1 x hx) (by decide)))
  have hdm : (c2 : Int) ≤ 9223372036854775807 := by have := hb2.cm; unfold maxLen at this; omega
  have hmd : bl2.length ≤ c2 := hb2.le
  have HZ2 := Lib.hid hz2
  obtain ⟨m, hm2⟩ : ∃ m, m = bl2.length := ⟨_, rfl⟩
  rw [← hm2] at hmd
  rw [← hm2]
  have HM := Lib.hid hm2
  clear hp0 hz0 hp1 hz1 hb2 hz2 hm2
  cases hsm0 : smallB (bs xs0) with
  | false =>
    rw [hsm0] at HSm0
    clear hsm0
    subst hW0
    clear hal
    go_enter Tryd.func4, Tryd.ntmps4
    obtain ⟨k0_0, k1_0, k2_0, k3_0⟩ := box2_cells HX0.out
    go_wp2_with fail
    with_reducible refine (HSm0.out _ HX0.out).mono ?_
    rintro e w1 ⟨rfl, h1⟩
    have HX1 := Lib.hid (HX0.out.trans (h1.mono HX0.out.size))
    clear h1
    go_wp2_with fail
    with_reducible refine (HAw.out _ HX1.out).mono ?_
    rintro e w1e ⟨rfl, h1e⟩
    have HX1e := Lib.hid (HX1.out.trans (h1e.mono HX1.out.size))
    clear h1e
    go_wp2
    go_ret
    exact ⟨rfl, HAL.out.trans (HX1e.out.mono HAL.out.size)⟩
  | true =>
    rw [hsm0] at HSm0
    obtain ⟨hn0, he0, hj0, hy0⟩ := small_facts hsm0
    have HY0 := Lib.hid hy0
    clear he0 hj0 hy0 hsm0
    cases hsm1 : smallB (bs xs1) with
    | false =>
      rw [hsm1] at HSm1
      clear hsm1
      subst hW0
      clear hal
      go_enter Tryd.func4, Tryd.ntmps4
      obtain ⟨k0_0, k1_0, k2_0, k3_0⟩ := box2_cells HX0.out
      go_wp2_with fail
      with_reducible refine (HSm0.out _ HX0.out).mono ?_
      rintro e w1 ⟨rfl, h1⟩
      have HX1 := Lib.hid (HX0.out.trans (h1.mono HX0.out.size))
      clear h1
      obtain ⟨k0_1, k1_1, k2_1, k3_1⟩ := box2_cells HX1.out
      go_wp2_with fail
      with_reducible refine (HSm1.out _ HX1.out).mono ?_
      rintro e w2 ⟨rfl, h2⟩
      have HX2 := Lib.hid (HX1.out.trans (h2.mono HX1.out.size))
      clear h2
      go_wp2_with fail
      with_reducible refine (HAw.out _ HX2.out).mono ?_
      rintro e w2e ⟨rfl, h2e⟩
      have HX2e := Lib.hid (HX2.out.trans (h2e.mono HX2.out.size))
      clear h2e
      go_wp2
      go_ret
      exact ⟨rfl, HAL.out.trans (HX2e.out.mono HAL.out.size)⟩
    | true =>
      rw [hsm1] at HSm1
      obtain ⟨hn1, he1, hj1, hy1⟩ := small_facts hsm1
      have HY1 := Lib.hid (And.intro he1 hy1)
      clear he1 hj1 hy1 hsm1
      by_cases hl : m ≤ 20
      rotate_left
      · have i1 : (20 : Int) < (m : Int) := by omega
        subst hW0
        clear hal
        go_enter Tryd.func4, Tryd.ntmps4
        obtain ⟨k0_0, k1_0, k2_0, k3_0⟩ := box2_cells HX0.out
        go_wp2_with fail
        with_reducible refine (HSm0.out _ HX0.out).mono ?_
        rintro e w1 ⟨rfl, h1⟩
        have HX1 := Lib.hid (HX0.out.trans (h1.mono HX0.out.size))
        clear h1
        obtain ⟨k0_1, k1_1, k2_1, k3_1⟩ := box2_cells HX1.out
        go_wp2_with fail
        with_reducible refine (HSm1.out _ HX1.out).mono ?_
        rintro e w2 ⟨rfl, h2⟩
        have HX2 := Lib.hid (HX1.out.trans (h2.mono HX1.out.size))
        clear h2
        go_wp2_with fail
        with_reducible refine (HAw.out _ HX2.out).mono ?_
        rintro e w2e ⟨rfl, h2e⟩
        have HX2e := Lib.hid (HX2.out.trans (h2e.mono HX2.out.size))
        clear h2e
        go_wp2
        go_ret
        exact ⟨rfl, HAL.out.trans (HX2e.out.mono HAL.out.size)⟩
      have i1 : ¬ (20 : Int) < (m : Int) := by omega
      obtain ⟨om, hom⟩ : ∃ om, om = Pt.bind ⟨bs xs0, b0⟩ ⟨bs xs1, b1⟩ := ⟨_, rfl⟩
      have HOM := Lib.hid hom
      have hwo : Pt.within ⟨bs xs1, b1⟩ ⟨bs xs0, b0⟩ = om.isSome := by
        rw [hom]; unfold Pt.bind
        cases Pt.within ⟨bs xs1, b1⟩ ⟨bs xs0, b0⟩ <;> simp
      have HBd := Lib.hid (fun (w' : World) (hb : Below W0.heap.size W0 w') => (bind_any A0 A1 xs0 xs1 c0 c1 b0 b1 _ _ w' (HP.out w' hb) (HQ.out w' hb)).mono (fun _ _ h => GivesBd.any h))
      have HWi := Lib.hid (fun (w' : World) (hb : Below W0.heap.size W0 w') => within_any A1 A0 xs1 xs0 c1 c0 b1 b0 _ _ w' (HQ.out w' hb) (HP.out w' hb))
      rw [← hom] at HBd
      rw [hwo] at HWi
      have HBS := Lib.hid (show om.isSome = true → (∀ b ∈ om.getD [], (∀ x ∈ b.parts, x.length ≤ 400) ∧ b.parts.length ≤ 12) ∧ Pt.substErr ⟨bs xs0, b0⟩ (om.getD []) = 0 ∧ Pt.subst ⟨bs xs0, b0⟩ (om.getD []) = ⟨bs xs1, b1⟩ from fun h => by
        cases om with
        | none => cases h
        | some l => exact ⟨Pt.bind_sizes (N := 400) (show Pt.szs 400 ⟨bs xs1, b1⟩ from HY1.out.1) HOM.out.symm, Pt.narrow_bind HOM.out.symm⟩)
      generalize om.isSome = ok at *
      generalize om.getD [] = L at *
      clear hom HOM hwo
      subst hW0
      clear hal
      go_enter Tryd.func4, Tryd.ntmps4
      obtain ⟨k0_0, k1_0, k2_0, k3_0⟩ := box2_cells HX0.out
      go_wp2_with fail
      with_reducible refine (HSm0.out _ HX0.out).mono ?_
      rintro e w1 ⟨rfl, h1⟩
      have HX1 := Lib.hid (HX0.out.trans (h1.mono HX0.out.size))
      clear h1
      obtain ⟨k0_1, k1_1, k2_1, k3_1⟩ := box2_cells HX1.out
      go_wp2_with fail
      with_reducible refine (HSm1.out _ HX1.out).mono ?_
      rintro e w2 ⟨rfl, h2⟩
      have HX2 := Lib.hid (HX1.out.trans (h2.mono HX1.out.size))
      clear h2
      clear k0_0 k1_0 k2_0 k3_0
      clear k0_1 k1_1 k2_1 k3_1
      obtain ⟨k0_2, k1_2, k2_2, k3_2⟩ := box2_cells HX2.out
      go_wp2
      go_loopw [32] (fun iv wr => ∃ k : Nat, k ≤ m ∧ iv = .int .i64 k ∧ Below w2.heap.size w2 wr ∧ ∀ (j : Nat) (h : j < bl2.length), j < k → smallB (bs bl2[j].xs) = true) (fun iv _ => m - (intOf iv).toNat)
      case atStart => exact ⟨0, by omega, rfl, Below.refl _ _, fun j h hj => absurd hj (Nat.not_lt_zero j)⟩
      case round =>
        obtain ⟨k, hkm, rfl, hbr, hall⟩ := hrel
        have HXr := Lib.hid (HX2.out.trans (hbr.mono HX2.out.size))
        have HBR := Lib.hid hbr
        have HALL := Lib.hid hall
        have hzr := hbr.size
        have HRW := Lib.hid (HL.out wr HXr.out)
        clear hbr hall
        by_cases hlt : k < m
        · have hlx : k < bl2.length := by rw [← HM.out]; exact hlt
          obtain ⟨g, o, hA, hg, hcell⟩ := HRW.out.at (by omega)
          subst hA
          obtain ⟨e0, e1⟩ := hcell k hlx
          have hpr := HRW.out.parts _ (List.getElem_mem hlx)
          have hzk := HZ2.out _ (List.getElem_mem hlx)
          have HST := Lib.hid (show smallB (bs bl2[k].xs) = true → ∀ (j : Nat) (h : j < bl2.length), j < k + 1 → smallB (bs bl2[j].xs) = true from fun hs j h hj => by
            by_cases hjk : j = k
            · subst hjk; exact hs
            · exact HALL.out j h (by omega))
          have HSk := Lib.hid (fun (w' : World) (hb : Below wr.heap.size wr w') => small_any bl2[k].A bl2[k].xs bl2[k].c false ⟨bs bl2[k].xs, false⟩ w' ⟨(hpr.keep hb).rd, rfl, rfl, hpr.le, hpr.cm, hpr.nil, hpr.sz⟩ (fun x hx => Nat.le_trans (hzk x hx) (by decide)))
          clear hcell hpr hzk
          generalize bl2[k].A = XA at *
          generalize bl2[k].xs = ys at *
          generalize bl2[k].c = xc at *
          generalize bl2[k].b = xb at *
          generalize hsk : smallB (bs ys) = sb at *
          clear hsk
          generalize ys.length = LL at *
          cases sb with
          | true =>
            go_wp2_with fail
            with_reducible refine (HSk.out _ ((Below.refl _ _).alloc (Nat.le_refl _) _)).mono ?_
            rintro e u2 ⟨rfl, h2⟩
            have HB2 := Lib.hid (show Below wr.heap.size wr u2 from ((Below.refl _ _).alloc (Nat.le_refl _) _).trans (h2.mono (by simp)))
            clear h2
            go_wp2
            go_roundw
            case rel => exact ⟨k + 1, by omega, by go_num, HBR.out.trans (HB2.out.mono hzr), HST.out trivial⟩
            case measure => simp [intOf]; omega
          | false =>
            go_wp2_with fail
            with_reducible refine (HSk.out _ ((Below.refl _ _).alloc (Nat.le_refl _) _)).mono ?_
            rintro e u2 ⟨rfl, h2⟩
            have HXs := Lib.hid (HXr.out.trans ((show Below wr.heap.size wr u2 from ((Below.refl _ _).alloc (Nat.le_refl _) _).trans (h2.mono (by simp))).mono HXr.out.size))
            clear h2
            go_wp2_with fail
            with_reducible refine (HAw.out _ HXs.out).mono ?_
            rintro e wse ⟨rfl, hse⟩
            have HXse := Lib.hid (HXs.out.trans (hse.mono HXs.out.size))
            clear hse
            go_wp2
            go_ret
            exact ⟨rfl, HAL.out.trans (HXse.out.mono HAL.out.size)⟩
        · obtain rfl : k = m := by omega
          have hsml : ∀ v ∈ bl2, v.xs.length ≤ 20 ∧ ∀ y ∈ v.xs, y.size ≤ 400 := fun v hv => by
            obtain ⟨j, hj, rfl⟩ := List.getElem_of_mem hv
            have h := HALL.out j hj (by rw [HM.out]; exact hj)
            obtain ⟨h1, _, _, h4⟩ := small_facts h
            exact ⟨h1, h4⟩
          have HSML := Lib.hid hsml
          have HS := Lib.hid (fun (w' : World) (hb : Below ((w.alloc (.cells #[.slice A0 xs0.length c0, .bool b0] 24)).alloc (.cells #[.slice A1 xs1.length c1, .bool b1] 24)).heap.size ((w.alloc (.cells #[.slice A0 xs0.length c0, .bool b0] 24)).alloc (.cells #[.slice A1 xs1.length c1, .bool b1] 24)) w') => subst_any A0 A2 xs0 bl2 c0 c2 b0 _ w' (HP.out w' hb) (HL.out w' hb) (fun x hx => Nat.le_trans (HY0.out x hx) (by decide)) (fun v hv y hy => Nat.le_trans ((HSML.out v hv).2 y hy) (by decide)) (fun v hv => Nat.le_trans (HSML.out v hv).1 (by decide)))
          have HS3 := Lib.hid (fun (C : Option Addr) (bl : List BindV) (e : Nat) (w' : World) (hb : Below ((w.alloc (.cells #[.slice A0 xs0.length c0, .bool b0] 24)).alloc (.cells #[.slice A1 xs1.length c1, .bool b1] 24)).heap.size ((w.alloc (.cells #[.slice A0 xs0.length c0, .bool b0] 24)).alloc (.cells #[.slice A1 xs1.length c1, .bool b1] 24)) w') (hl : RdB w' C bl e) (h1 : ∀ v ∈ bl, ∀ y ∈ v.xs, y.size ≤ 100000) (h2 : ∀ v ∈ bl, v.xs.length ≤ 1000) => subst_any A0 C xs0 bl c0 e b0 _ w' (HP.out w' hb) hl (fun x hx => Nat.le_trans (HY0.out x hx) (by decide)) h1 h2)
          have HEQ := Lib.hid (fun (w' : World) (hb : Below ((w.alloc (.cells #[.slice A0 xs0.length c0, .bool b0] 24)).alloc (.cells #[.slice A1 xs1.length c1, .bool b1] 24)).heap.size ((w.alloc (.cells #[.slice A0 xs0.length c0, .bool b0] 24)).alloc (.cells #[.slice A1 xs1.length c1, .bool b1] 24)) w') (C : Option Addr) (e : Nat) (hc : RdS w' w'.heap.size C xs1) (he : xs1.length ≤ e) => show Calls Tryd.prog 21 #[.slice C xs1.length e, .slice A1 xs1.length c1] w' (fun e w'' => e = .returned (.bool true) ∧ Below w'.heap.size w' w'') from by
            have h0 := requal_any C A1 xs1 xs1 e c1 _ _ w' hc (HQ.out w' hb).rd (Nat.le_trans (HQ.out w' hb).le (HQ.out w' hb).cm) he (HQ.out w' hb).le (Nat.le_trans (HQ.out w' hb).le (HQ.out w' hb).cm)
            rw [decide_eq_true rfl] at h0
            refine h0.mono ?_
            rintro e w'' ⟨rfl, hd⟩
            exact ⟨rfl, hd.below _⟩)
          rw [← HM.out] at HS
          clear hsml
          have HNS := Lib.hid (fun h => @Pt.narrow_subst ⟨bs xs0, b0⟩ (bl2.map BindV.pat) h)
          obtain ⟨k0_r, k1_r, k2_r, k3_r⟩ := box2_cells HXr.out
          go_wp2_with fail
          with_reducible refine (HBd.out _ HXr.out).mono ?_
          rintro e w3 ⟨v3, bl3, rfl, hown3, hml3, h3⟩
          obtain ⟨A3, e3, rfl, hrd3⟩ := hown3.rd
          have HX3 := Lib.hid (HXr.out.trans (h3.mono HXr.out.size))
          have HRD3 := Lib.hid hrd3
          have HML3 := Lib.hid hml3
          clear h3 hown3 hrd3 hml3
          clear k0_r k1_r k2_r k3_r
          obtain ⟨k0_3, k1_3, k2_3, k3_3⟩ := box2_cells HX3.out
          go_wp2_with fail
          with_reducible refine (HWi.out _ HX3.out).mono ?_
          rintro e w4 ⟨rfl, h4⟩
          have HX4 := Lib.hid (HX3.out.trans (h4.mono HX3.out.size))
          have HRD4 := Lib.hid (HRD3.out.keep h4)
          clear h4 HRD3
          clear k0_3 k1_3 k2_3 k3_3
          obtain ⟨k0_4, k1_4, k2_4, k3_4⟩ := box2_cells HX4.out
          cases ok with
          | false =>
            go_wp2_with fail
            with_reducible refine (HS.out _ HX4.out).mono ?_
            rintro e w5 ⟨A5, xs5, c5, b5, rfl, hp5, h5⟩
            have HX5 := Lib.hid (HX4.out.trans (h5.mono HX4.out.size))
            have HP5 := Lib.hid hp5
            clear h5 hp5
            obtain ⟨u5, hu5⟩ : ∃ u5, u5 = w5.alloc (.cells #[.slice A5 xs5.length c5, .bool b5] 24) := ⟨_, rfl⟩
            have HA5 := Lib.hid (show Below w5.heap.size w5 u5 from by rw [hu5]; exact (Below.refl _ _).alloc (Nat.le_refl _) _)
            have HXb := Lib.hid (HX5.out.trans (HA5.out.mono HX5.out.size))
            obtain ⟨m0, m1⟩ := box_cells (w := w5) (v0 := .slice A5 xs5.length c5) (v1 := .bool b5) (t := 24) (Below.refl _ _)
            have hs5 : w5.heap.size < u5.heap.size := by rw [hu5]; simp
            rw [← hu5] at m0 m1
            subst hu5
            generalize Pt.substErr ⟨bs xs0, b0⟩ (bl2.map BindV.pat) = er at *
            by_cases her : er = 0
            rotate_left
            · have her' : ¬ (er : Int) = 0 := by omega
              go_wp2_with fail
              with_reducible refine (HAw.out _ HXb.out).mono ?_
              rintro e wbe ⟨rfl, hbe⟩
              have HXbe := Lib.hid (HXb.out.trans (hbe.mono HXb.out.size))
              clear hbe
              go_wp2
              go_ret
              exact ⟨rfl, HAL.out.trans (HXbe.out.mono HAL.out.size)⟩
            subst her
            obtain ⟨hbi, hwi⟩ := HNS.out rfl
            generalize Pt.subst ⟨bs xs0, b0⟩ (bl2.map BindV.pat) = sp at *
            obtain ⟨k0_b, k1_b, k2_b, k3_b⟩ := box2_cells HXb.out
            go_wp2_with fail
            with_reducible refine ((bind_any A0 A5 xs0 xs5 c0 c5 b0 b5 _ sp _ (HP.out _ HXb.out) (HP5.out.keep HA5.out)).mono (fun _ _ h => GivesBd.any h)).mono ?_
            rw [hbi]
            rintro e w6 ⟨v6, bl6, rfl, hown6, hml6, h6⟩
            obtain ⟨A6, e6, rfl, he6⟩ := hown6.form
            have HX6 := Lib.hid (HXb.out.trans (h6.mono HXb.out.size))
            have f0 := (h6.cell (p := ⟨w5.heap.size, 0, none⟩) (by simp)).trans m0
            have f1 := (h6.cell (p := ⟨w5.heap.size, 1, none⟩) (by simp)).trans m1
            have HP6 := Lib.hid ((HP5.out.keep HA5.out).keep h6)
            have HSM := Lib.hid (show bl2.map BindV.pat = bl6.map BindV.pat from hml6.symm)
            have hlen : bl6.length = k := by rw [HM.out, ← List.length_map (f := BindV.pat), hml6]; simp
            rw [hlen] at hown6 ⊢
            have HOW6 := Lib.hid hown6
            have HT6 := Lib.hid hlen
            clear h6 hml6 hown6 hlen m0 m1
            clear k0_b k1_b k2_b k3_b
            obtain ⟨k0_6, k1_6, k2_6, k3_6⟩ := box2_cells HX6.out
            have HWj := Lib.hid (within_any A5 A0 xs5 xs0 c5 c0 b5 b0 sp _ w6 HP6.out (HP.out _ HX6.out))
            rw [hwi] at HWj
            go_wp2_with fail
            with_reducible refine HWj.out.mono ?_
            rintro e w7 ⟨rfl, h7⟩
            have HX7 := Lib.hid (HX6.out.trans (h7.mono HX6.out.size))
            have HOW7 := Lib.hid (HOW6.out.below h7)
            clear h7
            have HL7 := Lib.hid (HL.out _ HX7.out)
            go_wp2
            go_loopw [110] (fun nv wr => ∃ (j : Nat), j ≤ k ∧ nv = .int .i64 j ∧ Below w7.heap.size w7 wr) (fun nv _ => k - (intOf nv).toNat)
            case atStart => exact ⟨0, by omega, rfl, Below.refl _ _⟩
            case round =>
              obtain ⟨j, hjt, rfl, hbr⟩ := hrel
              have HBj := Lib.hid hbr
              have HX8 := Lib.hid (HX7.out.trans (hbr.mono HX7.out.size))
              clear hbr
              by_cases hlj : j < k
              · have hl6 : j < bl6.length := by rw [HT6.out]; exact hlj
                have hl2 : j < bl2.length := by rw [← HM.out]; exact hlj
                obtain ⟨g1, rfl, hg1, y0, y1⟩ := HOW7.out.at hl6
                obtain ⟨g2, o2, hA2, hg2, hcl⟩ := HL7.out.at (by omega)
                subst hA2
                obtain ⟨y2, y3⟩ := hcl j hl2
                have hs := binds_same HSM.out hl2 hl6
                have hp6 := (HOW7.out.parts _ (List.getElem_mem hl6)).keep HBj.out
                have hp2 := (HL7.out.parts _ (List.getElem_mem hl2)).keep HBj.out
                clear hcl
                generalize bl6[j] = z1 at *
                generalize bl2[j] = z2 at *
                obtain ⟨Ya, xsa, ca, ba⟩ := z1
                obtain ⟨Yb, xsb, cb, bb⟩ := z2
                simp only at hs y0 y1 y2 y3 hp6 hp2
                obtain ⟨rfl, rfl⟩ := hs
                have HSE := Lib.hid (SEo.held (wr := wr) (k := j) (o := o2) (Nat.lt_of_lt_of_le hg1 HBj.out.size) (Nat.lt_of_lt_of_le hg2 HBj.out.size) ((HBj.out.cell (p := ⟨g1, j * 2, none⟩) hg1).trans y0) ((HBj.out.cell (p := ⟨g1, j * 2 + 1, none⟩) hg1).trans y1) ((HBj.out.cell (p := ⟨g2, o2 + j * 2, none⟩) hg2).trans y2) ((HBj.out.cell (p := ⟨g2, o2 + j * 2 + 1, none⟩) hg2).trans y3))
                have HEW := Lib.hid (fun (w' : World) (h : SEo wr g1 g2 o2 j (.slice Ya xsa.length ca) (.bool ba) (.slice Yb xsa.length cb) (.bool ba) w') => show Calls Tryd.prog 21 #[.slice Ya xsa.length ca, .slice Yb xsa.length cb] w' (fun e w'' => e = .returned (.bool true) ∧ Below w'.heap.size w' w'') from by
                  have h0 := requal_any _ _ _ _ _ _ _ _ w' (hp6.keep h.2.2.2.2.below).rd (hp2.keep h.2.2.2.2.below).rd (Nat.le_trans hp6.le hp6.cm) hp6.le hp2.le (Nat.le_trans hp6.le hp6.cm)
                  rw [decide_eq_true rfl] at h0
                  refine h0.mono ?_
                  rintro e w'' ⟨rfl, hd⟩
                  exact ⟨rfl, hd.below _⟩)
                have hin : SEo wr g1 g2 o2 j (.slice Ya xsa.length ca) (.bool ba) (.slice Yb xsa.length cb) (.bool ba) wr := HSE.out wr ⟨Below.refl _ _⟩
                have tb : (ba != ba) = false := by simp
                have hkt' : (j : Int) < (k : Int) := by omega
                clear y0 y1 y2 y3 hp6 hp2 hl6 hl2
                generalize xsa.length = nb at *
                go_wp2_with fail
                set_option maxRecDepth 100000 in
                go_region_held3 (fun w' => w'.cell? ⟨g1, j * 2, none⟩ = some (.slice Ya nb ca) ∧ w'.cell? ⟨g1, j * 2 + 1, none⟩ = some (.bool ba) ∧ w'.cell? ⟨g2, o2 + j * 2, none⟩ = some (.slice Yb nb cb) ∧ w'.cell? ⟨g2, o2 + j * 2 + 1, none⟩ = some (.bool ba) ∧ InE wr w')
                  ((refine HSE.out _ ?_; repeat (first | assumption | with_reducible exact hin.2.2.2.2 | with_reducible refine InE.next ?_ hb | with_reducible refine InE.drew ?_)))
                  (first
                    | (go_at_call 21; refine (HEW.out _ (by assumption)).mono ?_; rintro e w' ⟨rfl, hb⟩; have hfin : InE wr w' := InE.next (by first | assumption | exact (by assumption : SEo wr g1 g2 o2 j (.slice Ya nb ca) (.bool ba) (.slice Yb nb cb) (.bool ba) _).2.2.2.2) hb))
                go_wp2
                go_roundw
                case rel =>
                  exact ⟨j + 1, by omega, by go_num, HBj.out.trans (hfin.below.mono HBj.out.size)⟩
                case measure => simp [intOf]; omega
              · obtain rfl : j = k := by omega
                go_wp2_with fail
                with_reducible refine (HAw.out _ HX8.out).mono ?_
                rintro e w8e ⟨rfl, h8e⟩
                have HX8e := Lib.hid (HX8.out.trans (h8e.mono HX8.out.size))
                clear h8e
                go_wp2
                go_ret
                exact ⟨rfl, HAL.out.trans (HX8e.out.mono HAL.out.size)⟩
          | true =>
            obtain ⟨hz3, hs0, hs1⟩ := HBS.out rfl
            have hv3 : ∀ v ∈ bl3, v.xs.length ≤ 12 ∧ ∀ y ∈ v.xs, y.size ≤ 400 := fun v hv => by
              have h := hz3 v.pat (by rw [← HML3.out]; exact List.mem_map_of_mem hv)
              refine ⟨by have h5 := h.2; rw [show v.pat.parts = bs v.xs from rfl, bs_length] at h5; exact h5, fun y hy => ?_⟩
              rw [Lib.size_eq]; exact h.1 y.data.toList (List.mem_map_of_mem hy)
            have HC3 := Lib.hid (HS3.out A3 bl3 e3 _ HX4.out HRD4.out (fun v hv y hy => Nat.le_trans ((hv3 v hv).2 y hy) (by decide)) (fun v hv => Nat.le_trans (hv3 v hv).1 (by decide)))
            rw [HML3.out, hs0, hs1] at HC3
            clear hz3 hs0 hs1 hv3
            go_wp2_with fail
            with_reducible refine HC3.out.mono ?_
            rintro e w9 ⟨A9, xs9, c9, b9, rfl, hp9, h9⟩
            have h9p : xs1 = xs9 := (bs_inj hp9.parts).symm
            have h9b : b1 = b9 := hp9.rest.symm
            subst h9p
            subst h9b
            have HX9 := Lib.hid (HX4.out.trans (h9.mono HX4.out.size))
            obtain ⟨u9, hu9⟩ : ∃ u9, u9 = w9.alloc (.cells #[.slice A9 xs1.length c9, .bool b1] 24) := ⟨_, rfl⟩
            have ha9 : Below w9.heap.size w9 u9 := by rw [hu9]; exact (Below.refl _ _).alloc (Nat.le_refl _) _
            have HXu := Lib.hid (HX9.out.trans (ha9.mono HX9.out.size))
            obtain ⟨m0, m1⟩ := box_cells (w := w9) (v0 := .slice A9 xs1.length c9) (v1 := .bool b1) (t := 24) (Below.refl _ _)
            rw [← hu9] at m0 m1
            have HEq := Lib.hid (show Calls Tryd.prog 21 #[.slice A9 xs1.length c9, .slice A1 xs1.length c1] u9 (fun e w'' => e = .returned (.bool true) ∧ Below u9.heap.size u9 w'') from by
              exact HEQ.out _ HXu.out A9 c9 (hp9.keep ha9).rd hp9.le)
            have tb : (b1 != b1) = false := by simp
            clear h9 hp9 ha9
            subst hu9
            obtain ⟨j0, j1, j2, j3⟩ := box2_cells HXu.out
            clear k0_4 k1_4 k2_4 k3_4
            go_wp2_with fail
            with_reducible refine HEq.out.mono ?_
            rintro e wa ⟨rfl, ha⟩
            have HXa := Lib.hid (HXu.out.trans (ha.mono HXu.out.size))
            clear ha j0 j1 j2 j3 m0 m1 tb
            obtain ⟨k0_a, k1_a, k2_a, k3_a⟩ := box2_cells HXa.out
            go_wp2_with fail
            with_reducible refine (HS.out _ HXa.out).mono ?_
            rintro e w5 ⟨A5, xs5, c5, b5, rfl, hp5, h5⟩
            have HX5 := Lib.hid (HXa.out.trans (h5.mono HXa.out.size))
            have HP5 := Lib.hid hp5
            clear h5 hp5
            obtain ⟨u5, hu5⟩ : ∃ u5, u5 = w5.alloc (.cells #[.slice A5 xs5.length c5, .bool b5] 24) := ⟨_, rfl⟩
            have HA5 := Lib.hid (show Below w5.heap.size w5 u5 from by rw [hu5]; exact (Below.refl _ _).alloc (Nat.le_refl _) _)
            have HXb := Lib.hid (HX5.out.trans (HA5.out.mono HX5.out.size))
            obtain ⟨m0, m1⟩ := box_cells (w := w5) (v0 := .slice A5 xs5.length c5) (v1 := .bool b5) (t := 24) (Below.refl _ _)
            have hs5 : w5.heap.size < u5.heap.size := by rw [hu5]; simp
            rw [← hu5] at m0 m1
            subst hu5
            generalize Pt.substErr ⟨bs xs0, b0⟩ (bl2.map BindV.pat) = er at *
            by_cases her : er = 0
            rotate_left
            · have her' : ¬ (er : Int) = 0 := by omega
              go_wp2_with fail
              with_reducible refine (HAw.out _ HXb.out).mono ?_
              rintro e wbe ⟨rfl, hbe⟩
              have HXbe := Lib.hid (HXb.out.trans (hbe.mono HXb.out.size))
              clear hbe
              go_wp2
              go_ret
              exact ⟨rfl, HAL.out.trans (HXbe.out.mono HAL.out.size)⟩
            subst her
            obtain ⟨hbi, hwi⟩ := HNS.out rfl
            generalize Pt.subst ⟨bs xs0, b0⟩ (bl2.map BindV.pat) = sp at *
            obtain ⟨k0_b, k1_b, k2_b, k3_b⟩ := box2_cells HXb.out
            go_wp2_with fail
            with_reducible refine ((bind_any A0 A5 xs0 xs5 c0 c5 b0 b5 _ sp _ (HP.out _ HXb.out) (HP5.out.keep HA5.out)).mono (fun _ _ h => GivesBd.any h)).mono ?_
            rw [hbi]
            rintro e w6 ⟨v6, bl6, rfl, hown6, hml6, h6⟩
            obtain ⟨A6, e6, rfl, he6⟩ := hown6.form
            have HX6 := Lib.hid (HXb.out.trans (h6.mono HXb.out.size))
            have f0 := (h6.cell (p := ⟨w5.heap.size, 0, none⟩) (by simp)).trans m0
            have f1 := (h6.cell (p := ⟨w5.heap.size, 1, none⟩) (by simp)).trans m1
            have HP6 := Lib.hid ((HP5.out.keep HA5.out).keep h6)
            have HSM := Lib.hid (show bl2.map BindV.pat = bl6.map BindV.pat from hml6.symm)
            have hlen : bl6.length = k := by rw [HM.out, ← List.length_map (f := BindV.pat), hml6]; simp
            rw [hlen] at hown6 ⊢
            have HOW6 := Lib.hid hown6
            have HT6 := Lib.hid hlen
            clear h6 hml6 hown6 hlen m0 m1
            clear k0_b k1_b k2_b k3_b
            obtain ⟨k0_6, k1_6, k2_6, k3_6⟩ := box2_cells HX6.out
            have HWj := Lib.hid (within_any A5 A0 xs5 xs0 c5 c0 b5 b0 sp _ w6 HP6.out (HP.out _ HX6.out))
            rw [hwi] at HWj
            go_wp2_with fail
            with_reducible refine HWj.out.mono ?_
            rintro e w7 ⟨rfl, h7⟩
            have HX7 := Lib.hid (HX6.out.trans (h7.mono HX6.out.size))
            have HOW7 := Lib.hid (HOW6.out.below h7)
            clear h7
            have HL7 := Lib.hid (HL.out _ HX7.out)
            go_wp2
            go_loopw [110] (fun nv wr => ∃ (j : Nat), j ≤ k ∧ nv = .int .i64 j ∧ Below w7.heap.size w7 wr) (fun nv _ => k - (intOf nv).toNat)
            case atStart => exact ⟨0, by omega, rfl, Below.refl _ _⟩
            case round =>
              obtain ⟨j, hjt, rfl, hbr⟩ := hrel
              have HBj := Lib.hid hbr
              have HX8 := Lib.hid (HX7.out.trans (hbr.mono HX7.out.size))
              clear hbr
              by_cases hlj : j < k
              · have hl6 : j < bl6.length := by rw [HT6.out]; exact hlj
                have hl2 : j < bl2.length := by rw [← HM.out]; exact hlj
                obtain ⟨g1, rfl, hg1, y0, y1⟩ := HOW7.out.at hl6
                obtain ⟨g2, o2, hA2, hg2, hcl⟩ := HL7.out.at (by omega)
                subst hA2
                obtain ⟨y2, y3⟩ := hcl j hl2
                have hs := binds_same HSM.out hl2 hl6
                have hp6 := (HOW7.out.parts _ (List.getElem_mem hl6)).keep HBj.out
                have hp2 := (HL7.out.parts _ (List.getElem_mem hl2)).keep HBj.out
                clear hcl
                generalize bl6[j] = z1 at *
                generalize bl2[j] = z2 at *
                obtain ⟨Ya, xsa, ca, ba⟩ := z1
                obtain ⟨Yb, xsb, cb, bb⟩ := z2
                simp only at hs y0 y1 y2 y3 hp6 hp2
                obtain ⟨rfl, rfl⟩ := hs
                have HSE := Lib.hid (SEo.held (wr := wr) (k := j) (o := o2) (Nat.lt_of_lt_of_le hg1 HBj.out.size) (Nat.lt_of_lt_of_le hg2 HBj.out.size) ((HBj.out.cell (p := ⟨g1, j * 2, none⟩) hg1).trans y0) ((HBj.out.cell (p := ⟨g1, j * 2 + 1, none⟩) hg1).trans y1) ((HBj.out.cell (p := ⟨g2, o2 + j * 2, none⟩) hg2).trans y2) ((HBj.out.cell (p := ⟨g2, o2 + j * 2 + 1, none⟩) hg2).trans y3))
                have HEW := Lib.hid (fun (w' : World) (h : SEo wr g1 g2 o2 j (.slice Ya xsa.length ca) (.bool ba) (.slice Yb xsa.length cb) (.bool ba) w') => show Calls Tryd.prog 21 #[.slice Ya xsa.length ca, .slice Yb xsa.length cb] w' (fun e w'' => e = .returned (.bool true) ∧ Below w'.heap.size w' w'') from by
                  have h0 := requal_any _ _ _ _ _ _ _ _ w' (hp6.keep h.2.2.2.2.below).rd (hp2.keep h.2.2.2.2.below).rd (Nat.le_trans hp6.le hp6.cm) hp6.le hp2.le (Nat.le_trans hp6.le hp6.cm)
                  rw [decide_eq_true rfl] at h0
                  refine h0.mono ?_
                  rintro e w'' ⟨rfl, hd⟩
                  exact ⟨rfl, hd.below _⟩)
                have hin : SEo wr g1 g2 o2 j (.slice Ya xsa.length ca) (.bool ba) (.slice Yb xsa.length cb) (.bool ba) wr := HSE.out wr ⟨Below.refl _ _⟩
                have tb : (ba != ba) = false := by simp
                have hkt' : (j : Int) < (k : Int) := by omega
                clear y0 y1 y2 y3 hp6 hp2 hl6 hl2
                generalize xsa.length = nb at *
                go_wp2_with fail
                set_option maxRecDepth 100000 in
                go_region_held3 (fun w' => w'.cell? ⟨g1, j * 2, none⟩ = some (.slice Ya nb ca) ∧ w'.cell? ⟨g1, j * 2 + 1, none⟩ = some (.bool ba) ∧ w'.cell? ⟨g2, o2 + j * 2, none⟩ = some (.slice Yb nb cb) ∧ w'.cell? ⟨g2, o2 + j * 2 + 1, none⟩ = some (.bool ba) ∧ InE wr w')
                  ((refine HSE.out _ ?_; repeat (first | assumption | with_reducible exact hin.2.2.2.2 | with_reducible refine InE.next ?_ hb | with_reducible refine InE.drew ?_)))
                  (first
                    | (go_at_call 21; refine (HEW.out _ (by assumption)).mono ?_; rintro e w' ⟨rfl, hb⟩; have hfin : InE wr w' := InE.next (by first | assumption | exact (by assumption : SEo wr g1 g2 o2 j (.slice Ya nb ca) (.bool ba) (.slice Yb nb cb) (.bool ba) _).2.2.2.2) hb))
                go_wp2
                go_roundw
                case rel =>
                  exact ⟨j + 1, by omega, by go_num, HBj.out.trans (hfin.below.mono HBj.out.size)⟩
                case measure => simp [intOf]; omega
              · obtain rfl : j = k := by omega
                go_wp2_with fail
                with_reducible refine (HAw.out _ HX8.out).mono ?_
                rintro e w8e ⟨rfl, h8e⟩
                have HX8e := Lib.hid (HX8.out.trans (h8e.mono HX8.out.size))
                clear h8e
                go_wp2
                go_ret
                exact ⟨rfl, HAL.out.trans (HX8e.out.mono HAL.out.size)⟩

end Go.Proofs.YtihboibebhokbaaDoor.patternNarrows
