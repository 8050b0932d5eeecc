/- RegionMinuses returns true at every two regions (the card: the variables that it lists hold what the program text lays). Conditions: none of its own. -/
import Derived.Test.YtembmegllpkmfaaGreatDoorCards
import Derived.Test.YtembmegllpkmfaaGreatDoorTie
import Derived.WalkKit
import Derived.ProofKit
import Derived.OpenShut
import Derived.ShutString
import Derived.Test.YtembmegllpkmfaaGreatDoorPatOpen
import Derived.Test.YtembmegllpkmfaaGreatDoorRegOpen
import Derived.Test.YtembmegllpkmfaaGreatDoorRegAwake
import Derived.Test.YtembmegllpkmfaaGreatDoorRegRMinus
namespace Go.Proofs.YtembmegllpkmfaaGreatDoor.regionMinuses
open Go.ChangeShapes Go.WideShapes Go.ChangeAt Go.RowKit
open Go.ChangeMaps (open_string shut_string)
set_option linter.unusedVariables false

set_option maxHeartbeats 8000000 in
theorem walk (w : World) (A0 : Option Addr) (xs0 : List ByteArray) (c0 : Nat) (b0 : Bool) (K0 : Option Addr) (bl0 : List BindV) (e0 : Nat) (hg0 : RegR w A0 xs0 c0 b0 K0 bl0 e0 ⟨⟨bs xs0, b0⟩, bl0.map BindV.pat⟩) (hz0 : ∀ x ∈ xs0, x.size ≤ 140737488355000) (hy0 : ∀ x ∈ bl0, ∀ y ∈ x.xs, y.size ≤ 140737488355000) (hx0 : xs0.length ≤ 140737488355328) (hl0 : ∀ x ∈ bl0, x.xs.length ≤ 140737488355328) (A1 : Option Addr) (xs1 : List ByteArray) (c1 : Nat) (b1 : Bool) (K1 : Option Addr) (bl1 : List BindV) (e1 : Nat) (hg1 : RegR w A1 xs1 c1 b1 K1 bl1 e1 ⟨⟨bs xs1, b1⟩, bl1.map BindV.pat⟩) (hz1 : ∀ x ∈ xs1, x.size ≤ 140737488355000) (hy1 : ∀ x ∈ bl1, ∀ y ∈ x.xs, y.size ≤ 140737488355000) (hx1 : xs1.length ≤ 140737488355328) (hl1 : ∀ x ∈ bl1, x.xs.length ≤ 140737488355328) (hm : MaxL w) :
    Calls Tryz.prog 5 #[regV A0 xs0.length c0 b0 K0 bl0.length e0, regV A1 xs1.length c1 b1 K1 bl1.length e1] w fun e w' => e = .returned (.bool true) ∧ Below w.heap.size w w' := by
  obtain ⟨W0, hW0⟩ : ∃ W0, W0 = (w.alloc (regObj A0 xs0.length c0 b0 K0 bl0.length e0)).alloc (regObj A1 xs1.length c1 b1 K1 bl1.length e1) := ⟨_, rfl⟩
  have hal : Below w.heap.size w W0 := by rw [hW0]; exact ((Below.refl _ _).alloc (Nat.le_refl _) _).alloc (by simp) _
  have HX0 := Lib.hid (Below.refl W0.heap.size W0)
  have HAL := Lib.hid hal
  have hgb0 : GBox W0 w.heap.size A0 xs0.length c0 b0 K0 bl0.length e0 := by rw [hW0]; exact (GBox.new ..).keep ((Below.refl _ _).alloc (Nat.le_refl _) _)
  have hgb1 : GBox W0 (w.heap.size + 1) A1 xs1.length c1 b1 K1 bl1.length e1 := by
    have h := GBox.new (w.alloc (regObj A0 xs0.length c0 b0 K0 bl0.length e0)) A1 xs1.length c1 b1 K1 bl1.length e1
    rw [hW0]
    simpa using h
  have HB0 := Lib.hid (fun (w' : World) (hb : Below W0.heap.size W0 w') => hgb0.keep hb)
  have HB1 := Lib.hid (fun (w' : World) (hb : Below W0.heap.size W0 w') => hgb1.keep hb)
  have hm0 := hm.keep hal hm.size
  have HMX := Lib.hid (fun (w' : World) (hb : Below W0.heap.size W0 w') => hm0.keep hb hm0.size)
  have HAw := Lib.hid (fun (w' : World) => awake5_any w')
  have HSm0 := Lib.hid (fun (w' : World) (hb : Below W0.heap.size W0 w') => small5_any A0 xs0 c0 b0 K0 bl0 e0 _ w' (hg0.keep (hal.trans (hb.mono hal.size))) hx0 hl0)
  have HSm1 := Lib.hid (fun (w' : World) (hb : Below W0.heap.size W0 w') => small5_any A1 xs1 c1 b1 K1 bl1 e1 _ w' (hg1.keep (hal.trans (hb.mono hal.size))) hx1 hl1)
  generalize hs0 : smallG xs0 bl0 = sm0 at HSm0
  cases sm0 with
  | false =>
    clear hg0 hz0 hy0 hx0 hl0
    clear hg1 hz1 hy1 hx1 hl1
    clear hs0
    generalize xs0.length = nx0 at *
    generalize bl0.length = nb0 at *
    generalize xs1.length = nx1 at *
    generalize bl1.length = nb1 at *
    obtain ⟨k0_0, k1_0, k2_0, kl_0⟩ := hgb0
    obtain ⟨k0_1, k1_1, k2_1, kl_1⟩ := hgb1
    subst hW0
    clear hal hm0
    go_enter Tryz.func5, Tryz.ntmps5
    go_wp2_with fail
    with_reducible refine (HSm0.out _ HX0.out).mono ?_
    rintro en u1 ⟨rfl, hb1⟩
    have hX1 := HX0.out.trans (hb1.mono HX0.out.size)
    have HX1 := Lib.hid hX1
    obtain ⟨k0_HB01, k1_HB01, k2_HB01, kl_HB01⟩ := HB0.out _ hX1
    obtain ⟨k0_HB11, k1_HB11, k2_HB11, kl_HB11⟩ := HB1.out _ hX1
    have z1 := hX1.size
    simp only [World.alloc, Array.size_push] at z1
    clear hb1 hX1 k0_0 k1_0 k2_0 k0_1 k1_1 k2_1 kl_0 kl_1
    go_wp2_with fail
    with_reducible refine (HAw.out _).mono ?_
    rintro en u2 ⟨rfl, hb2⟩
    have hX2 := HX1.out.trans (hb2.mono HX1.out.size)
    have HX2 := Lib.hid hX2
    obtain ⟨k0_HB02, k1_HB02, k2_HB02, kl_HB02⟩ := HB0.out _ hX2
    obtain ⟨k0_HB12, k1_HB12, k2_HB12, kl_HB12⟩ := HB1.out _ hX2
    have z2 := hX2.size
    simp only [World.alloc, Array.size_push] at z2
    clear hb2 hX2 k0_HB01 k1_HB01 k2_HB01 kl_HB01 k0_HB11 k1_HB11 k2_HB11 kl_HB11
    go_wp2
    go_ret
    exact ⟨rfl, HAL.out.trans (HX2.out.mono HAL.out.size)⟩
  | true =>
    have sz0 := small_szG (b := b0) hs0
    obtain ⟨f0, f0a, f0b, f0c, f0d⟩ := smallG_facts hs0
    clear hs0
    generalize hs1 : smallG xs1 bl1 = sm1 at HSm1
    cases sm1 with
    | false =>
      clear hg0 hz0 hy0 hx0 hl0
      clear hg1 hz1 hy1 hx1 hl1
      clear hs1 f0 f0a f0b f0c f0d sz0
      generalize xs0.length = nx0 at *
      generalize bl0.length = nb0 at *
      generalize xs1.length = nx1 at *
      generalize bl1.length = nb1 at *
      obtain ⟨k0_0, k1_0, k2_0, kl_0⟩ := hgb0
      obtain ⟨k0_1, k1_1, k2_1, kl_1⟩ := hgb1
      subst hW0
      clear hal hm0
      go_enter Tryz.func5, Tryz.ntmps5
      go_wp2_with fail
      with_reducible refine (HSm0.out _ HX0.out).mono ?_
      rintro en u1 ⟨rfl, hb1⟩
      have hX1 := HX0.out.trans (hb1.mono HX0.out.size)
      have HX1 := Lib.hid hX1
      obtain ⟨k0_HB01, k1_HB01, k2_HB01, kl_HB01⟩ := HB0.out _ hX1
      obtain ⟨k0_HB11, k1_HB11, k2_HB11, kl_HB11⟩ := HB1.out _ hX1
      have z1 := hX1.size
      simp only [World.alloc, Array.size_push] at z1
      clear hb1 hX1 k0_0 k1_0 k2_0 k0_1 k1_1 k2_1 kl_0 kl_1
      go_wp2_with fail
      with_reducible refine (HSm1.out _ HX1.out).mono ?_
      rintro en u2 ⟨rfl, hb2⟩
      have hX2 := HX1.out.trans (hb2.mono HX1.out.size)
      have HX2 := Lib.hid hX2
      obtain ⟨k0_HB02, k1_HB02, k2_HB02, kl_HB02⟩ := HB0.out _ hX2
      obtain ⟨k0_HB12, k1_HB12, k2_HB12, kl_HB12⟩ := HB1.out _ hX2
      have z2 := hX2.size
      simp only [World.alloc, Array.size_push] at z2
      clear hb2 hX2 k0_HB01 k1_HB01 k2_HB01 kl_HB01 k0_HB11 k1_HB11 k2_HB11 kl_HB11
      go_wp2_with fail
      with_reducible refine (HAw.out _).mono ?_
      rintro en u3 ⟨rfl, hb3⟩
      have hX3 := HX2.out.trans (hb3.mono HX2.out.size)
      have HX3 := Lib.hid hX3
      obtain ⟨k0_HB03, k1_HB03, k2_HB03, kl_HB03⟩ := HB0.out _ hX3
      obtain ⟨k0_HB13, k1_HB13, k2_HB13, kl_HB13⟩ := HB1.out _ hX3
      have z3 := hX3.size
      simp only [World.alloc, Array.size_push] at z3
      clear hb3 hX3 k0_HB02 k1_HB02 k2_HB02 kl_HB02 k0_HB12 k1_HB12 k2_HB12 kl_HB12
      go_wp2
      go_ret
      exact ⟨rfl, HAL.out.trans (HX3.out.mono HAL.out.size)⟩
    | true =>
      have sz1 := small_szG (b := b1) hs1
      obtain ⟨f1, f1a, f1b, f1c, f1d⟩ := smallG_facts hs1
      clear hs1
      obtain ⟨g0, hgg0⟩ : ∃ g : Pt.Rg.Reg, g = ⟨⟨bs xs0, b0⟩, bl0.map BindV.pat⟩ := ⟨_, rfl⟩
      rw [← hgg0] at hg0 sz0
      clear hgg0
      obtain ⟨g1, hgg1⟩ : ∃ g : Pt.Rg.Reg, g = ⟨⟨bs xs1, b1⟩, bl1.map BindV.pat⟩ := ⟨_, rfl⟩
      rw [← hgg1] at hg1 sz1
      clear hgg1
      obtain ⟨r, h_r⟩ : ∃ x, x = ((Pt.Rg.minusR g0 g1).1.getD []) := ⟨_, rfl⟩
      obtain ⟨n, h_n⟩ : ∃ x, x = ((Pt.Rg.minusR g0 g1).2) := ⟨_, rfl⟩
      have HM1 := Lib.hid (fun (w' : World) (hb : Below W0.heap.size W0 w') => show Calls Tryz.prog 18 #[regV A0 xs0.length c0 b0 K0 bl0.length e0, regV A1 xs1.length c1 b1 K1 bl1.length e1] w' (GivesMnU w' r n) from by rw [h_r, h_n]; exact (minus5_any A0 A1 xs0 xs1 c0 c1 b0 b1 K0 K1 bl0 bl1 e0 e1 g0 g1 w' (hg0.keep (hal.trans (hb.mono hal.size))) (hg1.keep (hal.trans (hb.mono hal.size))) (sz0.more2 (by decide)) (sz1.more2 (by decide))).mono fun e w'' h => h.all)
      have HM2 := Lib.hid (fun (w' : World) (hb : Below W0.heap.size W0 w') => show Calls Tryz.prog 19 #[regV A0 xs0.length c0 b0 K0 bl0.length e0, regV A1 xs1.length c1 b1 K1 bl1.length e1] w' (GivesMnU w' r n) from by rw [h_r, h_n]; exact (gminus_any A0 A1 xs0 xs1 c0 c1 b0 b1 K0 K1 bl0 bl1 e0 e1 g0 g1 w' (hg0.keep (hal.trans (hb.mono hal.size))) (hg1.keep (hal.trans (hb.mono hal.size))) (sz0.more2 (by decide)) (sz1.more2 (by decide))).mono fun e w'' h => h.all)
      have i7 : ((n : Int) == (n : Int)) = true := by simp
      have i8 : ((n : Int) != (n : Int)) = false := by simp
      clear h_r h_n
      clear hg0 hz0 hy0 hx0 hl0
      clear hg1 hz1 hy1 hx1 hl1
      clear sz0 f0 f0a f0b f0c f0d sz1 f1 f1a f1b f1c f1d
      generalize xs0.length = nx0 at *
      generalize bl0.length = nb0 at *
      generalize xs1.length = nx1 at *
      generalize bl1.length = nb1 at *
      obtain ⟨k0_0, k1_0, k2_0, kl_0⟩ := hgb0
      obtain ⟨k0_1, k1_1, k2_1, kl_1⟩ := hgb1
      subst hW0
      clear hal hm0
      go_enter Tryz.func5, Tryz.ntmps5
      go_wp2_with fail
      with_reducible refine (HSm0.out _ HX0.out).mono ?_
      rintro en u1 ⟨rfl, hb1⟩
      have hX1 := HX0.out.trans (hb1.mono HX0.out.size)
      have HX1 := Lib.hid hX1
      obtain ⟨k0_HB01, k1_HB01, k2_HB01, kl_HB01⟩ := HB0.out _ hX1
      obtain ⟨k0_HB11, k1_HB11, k2_HB11, kl_HB11⟩ := HB1.out _ hX1
      have z1 := hX1.size
      simp only [World.alloc, Array.size_push] at z1
      clear hb1 hX1 k0_0 k1_0 k2_0 k0_1 k1_1 k2_1 kl_0 kl_1
      go_wp2_with fail
      with_reducible refine (HSm1.out _ HX1.out).mono ?_
      rintro en u2 ⟨rfl, hb2⟩
      have hX2 := HX1.out.trans (hb2.mono HX1.out.size)
      have HX2 := Lib.hid hX2
      obtain ⟨k0_HB02, k1_HB02, k2_HB02, kl_HB02⟩ := HB0.out _ hX2
      obtain ⟨k0_HB12, k1_HB12, k2_HB12, kl_HB12⟩ := HB1.out _ hX2
      have z2 := hX2.size
      simp only [World.alloc, Array.size_push] at z2
      clear hb2 hX2 k0_HB01 k1_HB01 k2_HB01 kl_HB01 k0_HB11 k1_HB11 k2_HB11 kl_HB11
      go_wp2_with fail
      with_reducible refine (HM1.out _ HX2.out).mono ?_
      rintro en u3 ⟨A9, ol, c9, rfl, hol, hrd, hb3⟩
      have hX3 := HX2.out.trans (hb3.mono HX2.out.size)
      have HX3 := Lib.hid hX3
      obtain ⟨k0_HB03, k1_HB03, k2_HB03, kl_HB03⟩ := HB0.out _ hX3
      obtain ⟨k0_HB13, k1_HB13, k2_HB13, kl_HB13⟩ := HB1.out _ hX3
      have z3 := hX3.size
      simp only [World.alloc, Array.size_push] at z3
      have HR9 := Lib.hid (fun (w' : World) (hb : Below u3.heap.size u3 w') => hrd.keep hb)
      have HOL := Lib.hid hol
      obtain ⟨n9, hn9⟩ : ∃ n, n = ol.length := ⟨_, rfl⟩
      have HN9 := Lib.hid hn9
      rw [← hn9]
      have HU0 := Lib.hid (Below.refl u3.heap.size u3)
      clear hrd hol hn9
      clear hb3 hX3 k0_HB02 k1_HB02 k2_HB02 kl_HB02 k0_HB12 k1_HB12 k2_HB12 kl_HB12
      go_wp2_with fail
      with_reducible refine (HM2.out _ HX3.out).mono ?_
      rintro en u4 ⟨A8, ol8, c8, rfl, hol8, hrd8, hb4⟩
      have hX4 := HX3.out.trans (hb4.mono HX3.out.size)
      have HX4 := Lib.hid hX4
      obtain ⟨k0_HB04, k1_HB04, k2_HB04, kl_HB04⟩ := HB0.out _ hX4
      obtain ⟨k0_HB14, k1_HB14, k2_HB14, kl_HB14⟩ := HB1.out _ hX4
      have hU4 := HU0.out.trans (hb4.mono HU0.out.size)
      have HU4 := Lib.hid hU4
      have z4 := hX4.size
      simp only [World.alloc, Array.size_push] at z4
      have HR8 := Lib.hid hrd8
      have HO8 := Lib.hid hol8
      have hn8 : ol8.length = n9 := by rw [HN9.out, ← List.length_map (f := RegV.reg), hol8, ← HOL.out, List.length_map]
      have HN8 := Lib.hid hn8
      rw [hn8]
      clear hrd8 hol8 hn8
      clear hb4 hX4 hU4 k0_HB03 k1_HB03 k2_HB03 kl_HB03 k0_HB13 k1_HB13 k2_HB13 kl_HB13
      have HRD := Lib.hid (HR9.out _ HU4.out)
      obtain ⟨UW, hUW⟩ : ∃ U, U = u4 := ⟨_, rfl⟩
      subst hUW
      have j0 : ((n9 : Int) == (n9 : Int)) = true := by simp
      have j9 : ((n9 : Int) != (n9 : Int)) = false := by simp
      have i3a : (n9 : Int) ≤ (c9 : Int) := by have h1 := HRD.out.le; have h2 := HN9.out; omega
      have i3b : (n9 : Int) ≤ (c8 : Int) := by have h1 := HR8.out.le; have h2 := HN8.out; omega
      have i3c : (c9 : Int) ≤ 9223372036854775807 := by have h1 := HRD.out.cm; unfold maxLen at h1; omega
      go_wp2
      go_loopg [43] n9 (fun gg s43 wx => ∃ k : Nat, k + gg = n9 ∧ s43 = .int .i64 (k : Int) ∧ Below UW.heap.size UW wx)
      case atStart => exact ⟨0, by omega, rfl, Below.refl _ _⟩
      case round =>
        obtain ⟨k, hk, rfl, hbw⟩ := hrel
        have HBW := Lib.hid hbw
        have HKK := Lib.hid hk
        by_cases hkn : k < n9
        · have j1 : (k : Int) < (n9 : Int) := by omega
          have j2 : (0 : Int) ≤ (k : Int) := Int.natCast_nonneg _
          have HKN := Lib.hid hkn
          have hko : k < ol.length := by rw [← HN9.out]; exact hkn
          have hko8 : k < ol8.length := by rw [HN8.out]; exact hkn
          obtain ⟨q9, o9, hA9, hq9, hcell⟩ := HRD.out.at (by omega)
          obtain ⟨q8, o8, hA8, hq8, hcell8⟩ := HR8.out.at (by omega)
          have HC := Lib.hid (fun (w' : World) (hb : Below wr.heap.size wr w') => minus_same HOL.out HO8.out HRD.out HR8.out (HBW.out.trans (hb.mono HBW.out.size)) hko hko8)
          obtain ⟨f0, f1, f2⟩ := hcell k hko
          obtain ⟨g0, g1, g2⟩ := hcell8 k hko8
          have HKS := Lib.hid (fun (w' : World) (hb : Below wr.heap.size wr w') => have hb2 := HBW.out.trans (hb.mono HBW.out.size)
            show w'.cell? ⟨q9, o9 + k * 3, none⟩ = some (.slice ol[k].A ol[k].xs.length ol[k].c) ∧ w'.cell? ⟨q9, o9 + k * 3 + 1, none⟩ = some (.bool ol[k].b) ∧ w'.cell? ⟨q9, o9 + k * 3 + 2, none⟩ = some (.slice ol[k].H ol[k].bl.length ol[k].e) ∧ w'.cell? ⟨q8, o8 + k * 3, none⟩ = some (.slice ol8[k].A ol8[k].xs.length ol8[k].c) ∧ w'.cell? ⟨q8, o8 + k * 3 + 1, none⟩ = some (.bool ol8[k].b) ∧ w'.cell? ⟨q8, o8 + k * 3 + 2, none⟩ = some (.slice ol8[k].H ol8[k].bl.length ol8[k].e) from
            ⟨(hb2.cell (p := ⟨q9, o9 + k * 3, none⟩) hq9).trans f0, (hb2.cell (p := ⟨q9, o9 + k * 3 + 1, none⟩) hq9).trans f1, (hb2.cell (p := ⟨q9, o9 + k * 3 + 2, none⟩) hq9).trans f2, (hb2.cell (p := ⟨q8, o8 + k * 3, none⟩) hq8).trans g0, (hb2.cell (p := ⟨q8, o8 + k * 3 + 1, none⟩) hq8).trans g1, (hb2.cell (p := ⟨q8, o8 + k * 3 + 2, none⟩) hq8).trans g2⟩)
          subst hA9 hA8
          clear hcell hcell8 f0 f1 f2 g0 g1 g2 hbw hk hkn
          generalize ol[k] = yk at *
          generalize ol8[k] = yj at *
          generalize yk.xs.length = nxk at *
          generalize yk.bl.length = nbk at *
          generalize yj.xs.length = nxj at *
          generalize yj.bl.length = nbj at *
          obtain ⟨e0, e1, e2, e3, e4, e5⟩ := HKS.out wr (Below.refl _ _)
          clear hko hko8
          go_upto_region 10 with fail
          set_option maxRecDepth 100000 in
          go_region_held3 (fun w' => w'.cell? ⟨q9, o9 + k * 3, none⟩ = some (.slice yk.A nxk yk.c) ∧ w'.cell? ⟨q9, o9 + k * 3 + 1, none⟩ = some (.bool yk.b) ∧ w'.cell? ⟨q9, o9 + k * 3 + 2, none⟩ = some (.slice yk.H nbk yk.e) ∧ w'.cell? ⟨q8, o8 + k * 3, none⟩ = some (.slice yj.A nxj yj.c) ∧ w'.cell? ⟨q8, o8 + k * 3 + 1, none⟩ = some (.bool yj.b) ∧ w'.cell? ⟨q8, o8 + k * 3 + 2, none⟩ = some (.slice yj.H nbj yj.e))
            (first | exact HKS.out _ b5_ | exact HKS.out _ (below_drew (Below.refl _ _)) | exact HKS.out _ (Below.refl _ _) | go_keep)
            ((go_at_call 17; with_reducible refine (HC.out _ (below_drew (Below.refl _ _))).mono ?_; intro e w5 hh; unfold GivesBB at hh; obtain ⟨rfl, hb5⟩ := hh
              have b5_ : Below wr.heap.size wr w5 := (below_drew (Below.refl _ _)).trans hb5))
          all_goals
            go_wp2
            go_roundg (n9 - (k + 1))
            case measure => go_light; have := HKN.out; have := HKK.out; omega
            case rel =>
              go_light
              exact ⟨k + 1, by have := HKN.out; have := HKK.out; omega, by go_num, HBW.out.trans (b5_.mono HBW.out.size)⟩
        · have j1 : ¬ (k : Int) < (n9 : Int) := by omega
          have HXW := Lib.hid (HX4.out.trans (hbw.mono HX4.out.size))
          clear hbw hk hkn
          go_wp2_with fail
          with_reducible refine (HAw.out _).mono ?_
          rintro en w6 ⟨rfl, hb6⟩
          have HW6 := Lib.hid (HXW.out.trans (hb6.mono HXW.out.size))
          clear hb6
          go_wp2
          go_ret
          exact ⟨rfl, HAL.out.trans (HW6.out.mono HAL.out.size)⟩

end Go.Proofs.YtembmegllpkmfaaGreatDoor.regionMinuses
