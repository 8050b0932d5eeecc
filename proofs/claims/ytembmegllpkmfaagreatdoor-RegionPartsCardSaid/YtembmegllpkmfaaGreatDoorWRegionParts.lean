/- RegionParts returns true at every two regions (the card: the variables that it lists hold what the program text lays). Conditions: none of its own. -/
import Derived.Test.YtembmegllpkmfaaGreatDoorCards
import Derived.Test.YtembmegllpkmfaaGreatDoorTie
import Derived.WalkKit
import Derived.ProofKit
import Derived.OpenShut
import Derived.ShutString
import Derived.Test.YtembmegllpkmfaaGreatDoorPatOpen
import Derived.Test.YtembmegllpkmfaaGreatDoorRegOpen
import Derived.Test.YtembmegllpkmfaaGreatDoorRegAwake
import Derived.Test.YtembmegllpkmfaaGreatDoorRegPartsM
namespace Go.Proofs.YtembmegllpkmfaaGreatDoor.regionParts
open Go.ChangeShapes Go.WideShapes Go.ChangeAt Go.RowKit
open Go.ChangeMaps (open_string shut_string)
set_option linter.unusedVariables false

set_option maxHeartbeats 8000000 in
theorem walk (w : World) (A0 : Option Addr) (xs0 : List ByteArray) (c0 : Nat) (b0 : Bool) (K0 : Option Addr) (bl0 : List BindV) (e0 : Nat) (hg0 : RegR w A0 xs0 c0 b0 K0 bl0 e0 ⟨⟨bs xs0, b0⟩, bl0.map BindV.pat⟩) (hz0 : ∀ x ∈ xs0, x.size ≤ 140737488355000) (hy0 : ∀ x ∈ bl0, ∀ y ∈ x.xs, y.size ≤ 140737488355000) (hx0 : xs0.length ≤ 140737488355328) (hl0 : ∀ x ∈ bl0, x.xs.length ≤ 140737488355328) (A1 : Option Addr) (xs1 : List ByteArray) (c1 : Nat) (b1 : Bool) (K1 : Option Addr) (bl1 : List BindV) (e1 : Nat) (hg1 : RegR w A1 xs1 c1 b1 K1 bl1 e1 ⟨⟨bs xs1, b1⟩, bl1.map BindV.pat⟩) (hz1 : ∀ x ∈ xs1, x.size ≤ 140737488355000) (hy1 : ∀ x ∈ bl1, ∀ y ∈ x.xs, y.size ≤ 140737488355000) (hx1 : xs1.length ≤ 140737488355328) (hl1 : ∀ x ∈ bl1, x.xs.length ≤ 140737488355328) (hm : MaxL w) :
    Calls Tryz.prog 6 #[regV A0 xs0.length c0 b0 K0 bl0.length e0, regV A1 xs1.length c1 b1 K1 bl1.length e1] w fun e w' => e = .returned (.bool true) ∧ Below w.heap.size w w' := by
  obtain ⟨W0, hW0⟩ : ∃ W0, W0 = (w.alloc (regObj A0 xs0.length c0 b0 K0 bl0.length e0)).alloc (regObj A1 xs1.length c1 b1 K1 bl1.length e1) := ⟨_, rfl⟩
  have hal : Below w.heap.size w W0 := by rw [hW0]; exact ((Below.refl _ _).alloc (Nat.le_refl _) _).alloc (by simp) _
  have HX0 := Lib.hid (Below.refl W0.heap.size W0)
  have HAL := Lib.hid hal
  have hgb0 : GBox W0 w.heap.size A0 xs0.length c0 b0 K0 bl0.length e0 := by rw [hW0]; exact (GBox.new ..).keep ((Below.refl _ _).alloc (Nat.le_refl _) _)
  have hgb1 : GBox W0 (w.heap.size + 1) A1 xs1.length c1 b1 K1 bl1.length e1 := by
    have h := GBox.new (w.alloc (regObj A0 xs0.length c0 b0 K0 bl0.length e0)) A1 xs1.length c1 b1 K1 bl1.length e1
    rw [hW0]
    simpa using h
  have HB0 := Lib.hid (fun (w' : World) (hb : Below W0.heap.size W0 w') => hgb0.keep hb)
  have HB1 := Lib.hid (fun (w' : World) (hb : Below W0.heap.size W0 w') => hgb1.keep hb)
  have hm0 := hm.keep hal hm.size
  have HMX := Lib.hid (fun (w' : World) (hb : Below W0.heap.size W0 w') => hm0.keep hb hm0.size)
  have HAw := Lib.hid (fun (w' : World) => awake5_any w')
  have HSm0 := Lib.hid (fun (w' : World) (hb : Below W0.heap.size W0 w') => small5_any A0 xs0 c0 b0 K0 bl0 e0 _ w' (hg0.keep (hal.trans (hb.mono hal.size))) hx0 hl0)
  have HSm1 := Lib.hid (fun (w' : World) (hb : Below W0.heap.size W0 w') => small5_any A1 xs1 c1 b1 K1 bl1 e1 _ w' (hg1.keep (hal.trans (hb.mono hal.size))) hx1 hl1)
  generalize hs0 : smallG xs0 bl0 = sm0 at HSm0
  cases sm0 with
  | false =>
    clear hg0 hz0 hy0 hx0 hl0
    clear hg1 hz1 hy1 hx1 hl1
    clear hs0
    generalize xs0.length = nx0 at *
    generalize bl0.length = nb0 at *
    generalize xs1.length = nx1 at *
    generalize bl1.length = nb1 at *
    obtain ⟨k0_0, k1_0, k2_0, kl_0⟩ := hgb0
    obtain ⟨k0_1, k1_1, k2_1, kl_1⟩ := hgb1
    subst hW0
    clear hal hm0
    go_enter Tryz.func6, Tryz.ntmps6
    go_wp2_with fail
    with_reducible refine (HSm0.out _ HX0.out).mono ?_
    rintro en u1 ⟨rfl, hb1⟩
    have hX1 := HX0.out.trans (hb1.mono HX0.out.size)
    have HX1 := Lib.hid hX1
    obtain ⟨k0_HB01, k1_HB01, k2_HB01, kl_HB01⟩ := HB0.out _ hX1
    obtain ⟨k0_HB11, k1_HB11, k2_HB11, kl_HB11⟩ := HB1.out _ hX1
    have z1 := hX1.size
    simp only [World.alloc, Array.size_push] at z1
    clear hb1 hX1 k0_0 k1_0 k2_0 k0_1 k1_1 k2_1 kl_0 kl_1
    go_wp2_with fail
    with_reducible refine (HAw.out _).mono ?_
    rintro en u2 ⟨rfl, hb2⟩
    have hX2 := HX1.out.trans (hb2.mono HX1.out.size)
    have HX2 := Lib.hid hX2
    obtain ⟨k0_HB02, k1_HB02, k2_HB02, kl_HB02⟩ := HB0.out _ hX2
    obtain ⟨k0_HB12, k1_HB12, k2_HB12, kl_HB12⟩ := HB1.out _ hX2
    have z2 := hX2.size
    simp only [World.alloc, Array.size_push] at z2
    clear hb2 hX2 k0_HB01 k1_HB01 k2_HB01 kl_HB01 k0_HB11 k1_HB11 k2_HB11 kl_HB11
    go_wp2
    go_ret
    exact ⟨rfl, HAL.out.trans (HX2.out.mono HAL.out.size)⟩
  | true =>
    have sz0 := small_szG (b := b0) hs0
    obtain ⟨f0, f0a, f0b, f0c, f0d⟩ := smallG_facts hs0
    clear hs0
    generalize hs1 : smallG xs1 bl1 = sm1 at HSm1
    cases sm1 with
    | false =>
      clear hg0 hz0 hy0 hx0 hl0
      clear hg1 hz1 hy1 hx1 hl1
      clear hs1 f0 f0a f0b f0c f0d sz0
      generalize xs0.length = nx0 at *
      generalize bl0.length = nb0 at *
      generalize xs1.length = nx1 at *
      generalize bl1.length = nb1 at *
      obtain ⟨k0_0, k1_0, k2_0, kl_0⟩ := hgb0
      obtain ⟨k0_1, k1_1, k2_1, kl_1⟩ := hgb1
      subst hW0
      clear hal hm0
      go_enter Tryz.func6, Tryz.ntmps6
      go_wp2_with fail
      with_reducible refine (HSm0.out _ HX0.out).mono ?_
      rintro en u1 ⟨rfl, hb1⟩
      have hX1 := HX0.out.trans (hb1.mono HX0.out.size)
      have HX1 := Lib.hid hX1
      obtain ⟨k0_HB01, k1_HB01, k2_HB01, kl_HB01⟩ := HB0.out _ hX1
      obtain ⟨k0_HB11, k1_HB11, k2_HB11, kl_HB11⟩ := HB1.out _ hX1
      have z1 := hX1.size
      simp only [World.alloc, Array.size_push] at z1
      clear hb1 hX1 k0_0 k1_0 k2_0 k0_1 k1_1 k2_1 kl_0 kl_1
      go_wp2_with fail
      with_reducible refine (HSm1.out _ HX1.out).mono ?_
      rintro en u2 ⟨rfl, hb2⟩
      have hX2 := HX1.out.trans (hb2.mono HX1.out.size)
      have HX2 := Lib.hid hX2
      obtain ⟨k0_HB02, k1_HB02, k2_HB02, kl_HB02⟩ := HB0.out _ hX2
      obtain ⟨k0_HB12, k1_HB12, k2_HB12, kl_HB12⟩ := HB1.out _ hX2
      have z2 := hX2.size
      simp only [World.alloc, Array.size_push] at z2
      clear hb2 hX2 k0_HB01 k1_HB01 k2_HB01 kl_HB01 k0_HB11 k1_HB11 k2_HB11 kl_HB11
      go_wp2_with fail
      with_reducible refine (HAw.out _).mono ?_
      rintro en u3 ⟨rfl, hb3⟩
      have hX3 := HX2.out.trans (hb3.mono HX2.out.size)
      have HX3 := Lib.hid hX3
      obtain ⟨k0_HB03, k1_HB03, k2_HB03, kl_HB03⟩ := HB0.out _ hX3
      obtain ⟨k0_HB13, k1_HB13, k2_HB13, kl_HB13⟩ := HB1.out _ hX3
      have z3 := hX3.size
      simp only [World.alloc, Array.size_push] at z3
      clear hb3 hX3 k0_HB02 k1_HB02 k2_HB02 kl_HB02 k0_HB12 k1_HB12 k2_HB12 kl_HB12
      go_wp2
      go_ret
      exact ⟨rfl, HAL.out.trans (HX3.out.mono HAL.out.size)⟩
    | true =>
      have sz1 := small_szG (b := b1) hs1
      obtain ⟨f1, f1a, f1b, f1c, f1d⟩ := smallG_facts hs1
      clear hs1
      obtain ⟨g0, hgg0⟩ : ∃ g : Pt.Rg.Reg, g = ⟨⟨bs xs0, b0⟩, bl0.map BindV.pat⟩ := ⟨_, rfl⟩
      rw [← hgg0] at hg0 sz0
      clear hgg0
      obtain ⟨g1, hgg1⟩ : ∃ g : Pt.Rg.Reg, g = ⟨⟨bs xs1, b1⟩, bl1.map BindV.pat⟩ := ⟨_, rfl⟩
      rw [← hgg1] at hg1 sz1
      clear hgg1
      obtain ⟨xg, h_xg⟩ : ∃ x, x = ((Pt.Rg.meetR g0 g1).1.getD zeroG) := ⟨_, rfl⟩
      obtain ⟨j, h_j⟩ : ∃ x, x = ((Pt.Rg.meetR g0 g1).1.isSome) := ⟨_, rfl⟩
      obtain ⟨n, h_n⟩ : ∃ x, x = ((Pt.Rg.meetR g0 g1).2) := ⟨_, rfl⟩
      have HM1 := Lib.hid (fun (w' : World) (hb : Below W0.heap.size W0 w') => show Calls Tryz.prog 15 #[regV A0 xs0.length c0 b0 K0 bl0.length e0, regV A1 xs1.length c1 b1 K1 bl1.length e1] w' (GivesMJ w' xg j n) from by rw [h_xg, h_j, h_n]; exact meet1_any A0 A1 xs0 xs1 c0 c1 b0 b1 K0 K1 bl0 bl1 e0 e1 g0 g1 w' (hg0.keep (hal.trans (hb.mono hal.size))) (hg1.keep (hal.trans (hb.mono hal.size))) (sz0.more (by decide)) (sz1.more (by decide)))
      have HMI := Lib.hid (fun (w' : World) (hb : Below W0.heap.size W0 w') => minus5_any A0 A1 xs0 xs1 c0 c1 b0 b1 K0 K1 bl0 bl1 e0 e1 g0 g1 w' (hg0.keep (hal.trans (hb.mono hal.size))) (hg1.keep (hal.trans (hb.mono hal.size))) (sz0.more2 (by decide)) (sz1.more2 (by decide)))
      by_cases h0 : n = 0
      rotate_left
      · have HMW := Lib.hid (fun (w' : World) (hb : Below W0.heap.size W0 w') => (HMI.out w' hb).mono fun e w'' h => h.weak)
        have i1 : ((n : Int) == 0) = false := by rw [beq_eq_false_iff_ne]; omega
        have i2 : ((n : Int) != 0) = true := by rw [bne, i1]; rfl
        clear h0 h_xg h_j h_n HMI
        clear hg0 hz0 hy0 hx0 hl0
        clear hg1 hz1 hy1 hx1 hl1
        clear sz0 f0 f0a f0b f0c f0d sz1 f1 f1a f1b f1c f1d
        generalize xs0.length = nx0 at *
        generalize bl0.length = nb0 at *
        generalize xs1.length = nx1 at *
        generalize bl1.length = nb1 at *
        obtain ⟨k0_0, k1_0, k2_0, kl_0⟩ := hgb0
        obtain ⟨k0_1, k1_1, k2_1, kl_1⟩ := hgb1
        subst hW0
        clear hal hm0
        go_enter Tryz.func6, Tryz.ntmps6
        go_wp2_with fail
        with_reducible refine (HSm0.out _ HX0.out).mono ?_
        rintro en u1 ⟨rfl, hb1⟩
        have hX1 := HX0.out.trans (hb1.mono HX0.out.size)
        have HX1 := Lib.hid hX1
        obtain ⟨k0_HB01, k1_HB01, k2_HB01, kl_HB01⟩ := HB0.out _ hX1
        obtain ⟨k0_HB11, k1_HB11, k2_HB11, kl_HB11⟩ := HB1.out _ hX1
        have z1 := hX1.size
        simp only [World.alloc, Array.size_push] at z1
        clear hb1 hX1 k0_0 k1_0 k2_0 k0_1 k1_1 k2_1 kl_0 kl_1
        go_wp2_with fail
        with_reducible refine (HSm1.out _ HX1.out).mono ?_
        rintro en u2 ⟨rfl, hb2⟩
        have hX2 := HX1.out.trans (hb2.mono HX1.out.size)
        have HX2 := Lib.hid hX2
        obtain ⟨k0_HB02, k1_HB02, k2_HB02, kl_HB02⟩ := HB0.out _ hX2
        obtain ⟨k0_HB12, k1_HB12, k2_HB12, kl_HB12⟩ := HB1.out _ hX2
        have z2 := hX2.size
        simp only [World.alloc, Array.size_push] at z2
        clear hb2 hX2 k0_HB01 k1_HB01 k2_HB01 kl_HB01 k0_HB11 k1_HB11 k2_HB11 kl_HB11
        go_wp2_with fail
        with_reducible refine (HM1.out _ HX2.out).mono ?_
        rintro en u3 ⟨A9, xs9, c9, b9, K9, bl9, e9, rfl, hr9, hb3⟩
        have hX3 := HX2.out.trans (hb3.mono HX2.out.size)
        have HX3 := Lib.hid hX3
        obtain ⟨k0_HB03, k1_HB03, k2_HB03, kl_HB03⟩ := HB0.out _ hX3
        obtain ⟨k0_HB13, k1_HB13, k2_HB13, kl_HB13⟩ := HB1.out _ hX3
        have z3 := hX3.size
        simp only [World.alloc, Array.size_push] at z3
        clear hr9
        generalize xs9.length = nx9 at *
        generalize bl9.length = nb9 at *
        clear hb3 hX3 k0_HB02 k1_HB02 k2_HB02 kl_HB02 k0_HB12 k1_HB12 k2_HB12 kl_HB12
        have ha3Y : Below (World.heap u3).size u3 (World.alloc u3 (regObj A9 nx9 c9 b9 K9 nb9 e9)) := (Below.refl _ _).alloc (Nat.le_refl _) _
        have hXa3Y := HX3.out.trans (ha3Y.mono HX3.out.size)
        have HXa3Y := Lib.hid hXa3Y
        obtain ⟨k0_HB0a3Y, k1_HB0a3Y, k2_HB0a3Y, kl_HB0a3Y⟩ := HB0.out _ hXa3Y
        obtain ⟨k0_HB1a3Y, k1_HB1a3Y, k2_HB1a3Y, kl_HB1a3Y⟩ := HB1.out _ hXa3Y
        have za3Y := hXa3Y.size
        simp only [World.alloc, Array.size_push] at za3Y
        have HBy := Lib.hid (fun (w' : World) (hb : Below (World.heap (World.alloc u3 (regObj A9 nx9 c9 b9 K9 nb9 e9))).size (World.alloc u3 (regObj A9 nx9 c9 b9 K9 nb9 e9)) w') => (GBox.new ..).keep hb)
        have HY0 := Lib.hid (Below.refl (World.heap (World.alloc u3 (regObj A9 nx9 c9 b9 K9 nb9 e9))).size (World.alloc u3 (regObj A9 nx9 c9 b9 K9 nb9 e9)))
        obtain ⟨k0_HBya3Y, k1_HBya3Y, k2_HBya3Y, kl_HBya3Y⟩ := HBy.out _ HY0.out
        clear ha3Y hXa3Y k0_HB03 k1_HB03 k2_HB03 kl_HB03 k0_HB13 k1_HB13 k2_HB13 kl_HB13
        go_wp2_with fail
        with_reducible refine (HMW.out _ HXa3Y.out).mono ?_
        rintro en u4 ⟨A8, n8, c8, z8, rfl, hb4⟩
        have hX4 := HXa3Y.out.trans (hb4.mono HXa3Y.out.size)
        have HX4 := Lib.hid hX4
        obtain ⟨k0_HB04, k1_HB04, k2_HB04, kl_HB04⟩ := HB0.out _ hX4
        obtain ⟨k0_HB14, k1_HB14, k2_HB14, kl_HB14⟩ := HB1.out _ hX4
        have hY4 := HY0.out.trans (hb4.mono HY0.out.size)
        have HY4 := Lib.hid hY4
        obtain ⟨k0_HBy4, k1_HBy4, k2_HBy4, kl_HBy4⟩ := HBy.out _ hY4
        have z4 := hX4.size
        simp only [World.alloc, Array.size_push] at z4
        clear hb4 hX4 hY4 k0_HB0a3Y k1_HB0a3Y k2_HB0a3Y kl_HB0a3Y k0_HB1a3Y k1_HB1a3Y k2_HB1a3Y kl_HB1a3Y k0_HBya3Y k1_HBya3Y k2_HBya3Y kl_HBya3Y
        go_wp2_with fail
        with_reducible refine (HAw.out _).mono ?_
        rintro en u5 ⟨rfl, hb5⟩
        have hX5 := HX4.out.trans (hb5.mono HX4.out.size)
        have HX5 := Lib.hid hX5
        obtain ⟨k0_HB05, k1_HB05, k2_HB05, kl_HB05⟩ := HB0.out _ hX5
        obtain ⟨k0_HB15, k1_HB15, k2_HB15, kl_HB15⟩ := HB1.out _ hX5
        have hY5 := HY4.out.trans (hb5.mono HY4.out.size)
        have HY5 := Lib.hid hY5
        obtain ⟨k0_HBy5, k1_HBy5, k2_HBy5, kl_HBy5⟩ := HBy.out _ hY5
        have z5 := hX5.size
        simp only [World.alloc, Array.size_push] at z5
        clear hb5 hX5 hY5 k0_HB04 k1_HB04 k2_HB04 kl_HB04 k0_HB14 k1_HB14 k2_HB14 kl_HB14 k0_HBy4 k1_HBy4 k2_HBy4 kl_HBy4
        go_wp2
        go_ret
        exact ⟨rfl, HAL.out.trans (HX5.out.mono HAL.out.size)⟩
      subst h0
      rcases parts_pure g0 g1 sz0 sz1 h_n.symm with ⟨m, hmn, hm0⟩ | ⟨r, hmr, hc0, hall, hno, hemp⟩
      · rw [hmn] at HMI
        have i1 : ((m : Int) == 0) = false := by rw [beq_eq_false_iff_ne]; omega
        have i2 : ((m : Int) != 0) = true := by rw [bne, i1]; rfl
        clear hmn hm0 h_xg h_j h_n
        clear hg0 hz0 hy0 hx0 hl0
        clear hg1 hz1 hy1 hx1 hl1
        clear sz0 f0 f0a f0b f0c f0d sz1 f1 f1a f1b f1c f1d
        generalize xs0.length = nx0 at *
        generalize bl0.length = nb0 at *
        generalize xs1.length = nx1 at *
        generalize bl1.length = nb1 at *
        obtain ⟨k0_0, k1_0, k2_0, kl_0⟩ := hgb0
        obtain ⟨k0_1, k1_1, k2_1, kl_1⟩ := hgb1
        subst hW0
        clear hal hm0
        go_enter Tryz.func6, Tryz.ntmps6
        go_wp2_with fail
        with_reducible refine (HSm0.out _ HX0.out).mono ?_
        rintro en u1 ⟨rfl, hb1⟩
        have hX1 := HX0.out.trans (hb1.mono HX0.out.size)
        have HX1 := Lib.hid hX1
        obtain ⟨k0_HB01, k1_HB01, k2_HB01, kl_HB01⟩ := HB0.out _ hX1
        obtain ⟨k0_HB11, k1_HB11, k2_HB11, kl_HB11⟩ := HB1.out _ hX1
        have z1 := hX1.size
        simp only [World.alloc, Array.size_push] at z1
        clear hb1 hX1 k0_0 k1_0 k2_0 k0_1 k1_1 k2_1 kl_0 kl_1
        go_wp2_with fail
        with_reducible refine (HSm1.out _ HX1.out).mono ?_
        rintro en u2 ⟨rfl, hb2⟩
        have hX2 := HX1.out.trans (hb2.mono HX1.out.size)
        have HX2 := Lib.hid hX2
        obtain ⟨k0_HB02, k1_HB02, k2_HB02, kl_HB02⟩ := HB0.out _ hX2
        obtain ⟨k0_HB12, k1_HB12, k2_HB12, kl_HB12⟩ := HB1.out _ hX2
        have z2 := hX2.size
        simp only [World.alloc, Array.size_push] at z2
        clear hb2 hX2 k0_HB01 k1_HB01 k2_HB01 kl_HB01 k0_HB11 k1_HB11 k2_HB11 kl_HB11
        go_wp2_with fail
        with_reducible refine (HM1.out _ HX2.out).mono ?_
        rintro en u3 ⟨A9, xs9, c9, b9, K9, bl9, e9, rfl, hr9, hb3⟩
        have hX3 := HX2.out.trans (hb3.mono HX2.out.size)
        have HX3 := Lib.hid hX3
        obtain ⟨k0_HB03, k1_HB03, k2_HB03, kl_HB03⟩ := HB0.out _ hX3
        obtain ⟨k0_HB13, k1_HB13, k2_HB13, kl_HB13⟩ := HB1.out _ hX3
        have z3 := hX3.size
        simp only [World.alloc, Array.size_push] at z3
        clear hr9
        generalize xs9.length = nx9 at *
        generalize bl9.length = nb9 at *
        clear hb3 hX3 k0_HB02 k1_HB02 k2_HB02 kl_HB02 k0_HB12 k1_HB12 k2_HB12 kl_HB12
        have ha3Y : Below (World.heap u3).size u3 (World.alloc u3 (regObj A9 nx9 c9 b9 K9 nb9 e9)) := (Below.refl _ _).alloc (Nat.le_refl _) _
        have hXa3Y := HX3.out.trans (ha3Y.mono HX3.out.size)
        have HXa3Y := Lib.hid hXa3Y
        obtain ⟨k0_HB0a3Y, k1_HB0a3Y, k2_HB0a3Y, kl_HB0a3Y⟩ := HB0.out _ hXa3Y
        obtain ⟨k0_HB1a3Y, k1_HB1a3Y, k2_HB1a3Y, kl_HB1a3Y⟩ := HB1.out _ hXa3Y
        have za3Y := hXa3Y.size
        simp only [World.alloc, Array.size_push] at za3Y
        have HBy := Lib.hid (fun (w' : World) (hb : Below (World.heap (World.alloc u3 (regObj A9 nx9 c9 b9 K9 nb9 e9))).size (World.alloc u3 (regObj A9 nx9 c9 b9 K9 nb9 e9)) w') => (GBox.new ..).keep hb)
        have HY0 := Lib.hid (Below.refl (World.heap (World.alloc u3 (regObj A9 nx9 c9 b9 K9 nb9 e9))).size (World.alloc u3 (regObj A9 nx9 c9 b9 K9 nb9 e9)))
        obtain ⟨k0_HBya3Y, k1_HBya3Y, k2_HBya3Y, kl_HBya3Y⟩ := HBy.out _ HY0.out
        clear ha3Y hXa3Y k0_HB03 k1_HB03 k2_HB03 kl_HB03 k0_HB13 k1_HB13 k2_HB13 kl_HB13
        go_wp2_with fail
        with_reducible refine (HMI.out _ HXa3Y.out).mono ?_
        rintro en u4 ⟨rfl, hb4⟩
        have hX4 := HXa3Y.out.trans (hb4.mono HXa3Y.out.size)
        have HX4 := Lib.hid hX4
        obtain ⟨k0_HB04, k1_HB04, k2_HB04, kl_HB04⟩ := HB0.out _ hX4
        obtain ⟨k0_HB14, k1_HB14, k2_HB14, kl_HB14⟩ := HB1.out _ hX4
        have hY4 := HY0.out.trans (hb4.mono HY0.out.size)
        have HY4 := Lib.hid hY4
        obtain ⟨k0_HBy4, k1_HBy4, k2_HBy4, kl_HBy4⟩ := HBy.out _ hY4
        have z4 := hX4.size
        simp only [World.alloc, Array.size_push] at z4
        clear hb4 hX4 hY4 k0_HB0a3Y k1_HB0a3Y k2_HB0a3Y kl_HB0a3Y k0_HB1a3Y k1_HB1a3Y k2_HB1a3Y kl_HB1a3Y k0_HBya3Y k1_HBya3Y k2_HBya3Y kl_HBya3Y
        go_wp2_with fail
        with_reducible refine (HAw.out _).mono ?_
        rintro en u5 ⟨rfl, hb5⟩
        have hX5 := HX4.out.trans (hb5.mono HX4.out.size)
        have HX5 := Lib.hid hX5
        obtain ⟨k0_HB05, k1_HB05, k2_HB05, kl_HB05⟩ := HB0.out _ hX5
        obtain ⟨k0_HB15, k1_HB15, k2_HB15, kl_HB15⟩ := HB1.out _ hX5
        have hY5 := HY4.out.trans (hb5.mono HY4.out.size)
        have HY5 := Lib.hid hY5
        obtain ⟨k0_HBy5, k1_HBy5, k2_HBy5, kl_HBy5⟩ := HBy.out _ hY5
        have z5 := hX5.size
        simp only [World.alloc, Array.size_push] at z5
        clear hb5 hX5 hY5 k0_HB04 k1_HB04 k2_HB04 kl_HB04 k0_HB14 k1_HB14 k2_HB14 kl_HB14 k0_HBy4 k1_HBy4 k2_HBy4 kl_HBy4
        go_wp2
        go_ret
        exact ⟨rfl, HAL.out.trans (HX5.out.mono HAL.out.size)⟩
      · rw [hmr] at HMI
        obtain ⟨PL, hPL⟩ : ∃ l, l = partsL g0 g1 r := ⟨_, rfl⟩
        rw [← hPL] at hemp
        have HALL : Hid (∀ x ∈ PL, SzG 100000 x) := Lib.hid (by rw [hPL]; exact hall)
        have HNO : Hid (∀ (i k : Nat) (hi : i < PL.length) (hk : k < i), (Pt.Rg.meetR PL[i] (PL[k]'(Nat.lt_trans hk hi))).1 = none) := Lib.hid (by rw [hPL]; exact hno)
        obtain ⟨em, h_em⟩ : ∃ x, x = (decide (Pt.Rg.gcheck g0 = 0) && (Pt.Rg.lenN g0.simp.base g0.simp.holes).isNone) := ⟨_, rfl⟩
        have HE0 := Lib.hid (fun (w' : World) (hb : Below W0.heap.size W0 w') => show Calls Tryz.prog 11 #[regV A0 xs0.length c0 b0 K0 bl0.length e0] w' (GivesTBN w' em 0) from by
          have h := empty_any A0 xs0 c0 b0 K0 bl0 e0 g0 w' (hg0.keep (hal.trans (hb.mono hal.size))) (sz0.short (by decide))
          rw [← h_em, hc0] at h
          exact h)
        have HEM : Hid (em = decide (PL = [])) := Lib.hid (by rw [h_em]; exact hemp)
        have HJF : Hid (j = false → PL = r) := Lib.hid fun h => by rw [hPL]; subst h; exact parts_none h_j
        have HJT : Hid (j = true → PL = r ++ [xg]) := Lib.hid fun h => by rw [hPL, h_xg]; subst h; exact parts_some h_j
        have HRLEN : Hid (r.length ≤ 65) := Lib.hid (minusR_len hmr)
        clear hmr hc0 hall hno hemp hPL h_em h_xg h_j h_n
        clear hg0 hz0 hy0 hx0 hl0
        clear hg1 hz1 hy1 hx1 hl1
        clear sz0 f0 f0a f0b f0c f0d sz1 f1 f1a f1b f1c f1d
        generalize xs0.length = nx0 at *
        generalize bl0.length = nb0 at *
        generalize xs1.length = nx1 at *
        generalize bl1.length = nb1 at *
        obtain ⟨k0_0, k1_0, k2_0, kl_0⟩ := hgb0
        obtain ⟨k0_1, k1_1, k2_1, kl_1⟩ := hgb1
        subst hW0
        clear hal hm0
        go_enter Tryz.func6, Tryz.ntmps6
        go_wp2_with fail
        with_reducible refine (HSm0.out _ HX0.out).mono ?_
        rintro en u1 ⟨rfl, hb1⟩
        have hX1 := HX0.out.trans (hb1.mono HX0.out.size)
        have HX1 := Lib.hid hX1
        obtain ⟨k0_HB01, k1_HB01, k2_HB01, kl_HB01⟩ := HB0.out _ hX1
        obtain ⟨k0_HB11, k1_HB11, k2_HB11, kl_HB11⟩ := HB1.out _ hX1
        have z1 := hX1.size
        simp only [World.alloc, Array.size_push] at z1
        clear hb1 hX1 k0_0 k1_0 k2_0 k0_1 k1_1 k2_1 kl_0 kl_1
        go_wp2_with fail
        with_reducible refine (HSm1.out _ HX1.out).mono ?_
        rintro en u2 ⟨rfl, hb2⟩
        have hX2 := HX1.out.trans (hb2.mono HX1.out.size)
        have HX2 := Lib.hid hX2
        obtain ⟨k0_HB02, k1_HB02, k2_HB02, kl_HB02⟩ := HB0.out _ hX2
        obtain ⟨k0_HB12, k1_HB12, k2_HB12, kl_HB12⟩ := HB1.out _ hX2
        have z2 := hX2.size
        simp only [World.alloc, Array.size_push] at z2
        clear hb2 hX2 k0_HB01 k1_HB01 k2_HB01 kl_HB01 k0_HB11 k1_HB11 k2_HB11 kl_HB11
        go_wp2_with fail
        with_reducible refine (HM1.out _ HX2.out).mono ?_
        rintro en u3 ⟨A9, xs9, c9, b9, K9, bl9, e9, rfl, hr9, hb3⟩
        have hX3 := HX2.out.trans (hb3.mono HX2.out.size)
        have HX3 := Lib.hid hX3
        obtain ⟨k0_HB03, k1_HB03, k2_HB03, kl_HB03⟩ := HB0.out _ hX3
        obtain ⟨k0_HB13, k1_HB13, k2_HB13, kl_HB13⟩ := HB1.out _ hX3
        have z3 := hX3.size
        simp only [World.alloc, Array.size_push] at z3
        have HR9 := Lib.hid (fun (w' : World) (hb : Below u3.heap.size u3 w') => hr9.keep hb)
        have HXR : Hid ((⟨A9, xs9, c9, b9, K9, bl9, e9⟩ : RegV).reg = xg) := Lib.hid hr9.reg
        have HLT9 : Hid (∀ y ∈ (⟨A9, xs9, c9, b9, K9, bl9, e9⟩ : RegV).addrs, ∀ a, y = some a → a.block < u3.heap.size) := Lib.hid (regR_lt hr9)
        clear hr9
        have HU0 := Lib.hid (Below.refl u3.heap.size u3)
        clear hb3 hX3 k0_HB02 k1_HB02 k2_HB02 kl_HB02 k0_HB12 k1_HB12 k2_HB12 kl_HB12
        have ha3Y : Below (World.heap u3).size u3 (World.alloc u3 (regObj A9 xs9.length c9 b9 K9 bl9.length e9)) := (Below.refl _ _).alloc (Nat.le_refl _) _
        have hXa3Y := HX3.out.trans (ha3Y.mono HX3.out.size)
        have HXa3Y := Lib.hid hXa3Y
        obtain ⟨k0_HB0a3Y, k1_HB0a3Y, k2_HB0a3Y, kl_HB0a3Y⟩ := HB0.out _ hXa3Y
        obtain ⟨k0_HB1a3Y, k1_HB1a3Y, k2_HB1a3Y, kl_HB1a3Y⟩ := HB1.out _ hXa3Y
        have hUa3Y := HU0.out.trans (ha3Y.mono HU0.out.size)
        have HUa3Y := Lib.hid hUa3Y
        have za3Y := hXa3Y.size
        simp only [World.alloc, Array.size_push] at za3Y
        have HBy := Lib.hid (fun (w' : World) (hb : Below (World.heap (World.alloc u3 (regObj A9 xs9.length c9 b9 K9 bl9.length e9))).size (World.alloc u3 (regObj A9 xs9.length c9 b9 K9 bl9.length e9)) w') => (GBox.new ..).keep hb)
        have HY0 := Lib.hid (Below.refl (World.heap (World.alloc u3 (regObj A9 xs9.length c9 b9 K9 bl9.length e9))).size (World.alloc u3 (regObj A9 xs9.length c9 b9 K9 bl9.length e9)))
        obtain ⟨k0_HBya3Y, k1_HBya3Y, k2_HBya3Y, kl_HBya3Y⟩ := HBy.out _ HY0.out
        clear ha3Y hXa3Y hUa3Y k0_HB03 k1_HB03 k2_HB03 kl_HB03 k0_HB13 k1_HB13 k2_HB13 kl_HB13
        go_wp2_with fail
        with_reducible refine (HMI.out _ HXa3Y.out).mono ?_
        rintro en u4 ⟨A8, ol, c8, rfl, hol, hown, hb4, hfr⟩
        have hX4 := HXa3Y.out.trans (hb4.mono HXa3Y.out.size)
        have HX4 := Lib.hid hX4
        obtain ⟨k0_HB04, k1_HB04, k2_HB04, kl_HB04⟩ := HB0.out _ hX4
        obtain ⟨k0_HB14, k1_HB14, k2_HB14, kl_HB14⟩ := HB1.out _ hX4
        have hU4 := HUa3Y.out.trans (hb4.mono HUa3Y.out.size)
        have HU4 := Lib.hid hU4
        have hY4 := HY0.out.trans (hb4.mono HY0.out.size)
        have HY4 := Lib.hid hY4
        obtain ⟨k0_HBy4, k1_HBy4, k2_HBy4, kl_HBy4⟩ := HBy.out _ hY4
        have z4 := hX4.size
        simp only [World.alloc, Array.size_push] at z4
        have HOL := Lib.hid hol
        obtain ⟨A7, c7, hv8, hrd8, _⟩ := hown.rd
        injection hv8 with hA8 _ hc8
        subst hA8 hc8
        have HRD := Lib.hid hrd8
        obtain ⟨n8, hn8⟩ : ∃ n, n = ol.length := ⟨_, rfl⟩
        have HN8 := Lib.hid hn8
        have HAX : Hid (∀ x ∈ ol, ∀ y ∈ x.addrs, ∀ a, y = some a → a.block < u4.heap.size) := Lib.hid fun x hx y hy a ha => regV_lt (hrd8.parts x hx) y hy a ha
        have HLN : Hid (ol.length ≤ 1000000) := Lib.hid (by have h9 := HRLEN.out; rw [← hol, List.length_map] at h9; omega)
        rw [← hn8]
        clear hol hown hfr hrd8 hn8
        clear hb4 hX4 hU4 hY4 k0_HB0a3Y k1_HB0a3Y k2_HB0a3Y kl_HB0a3Y k0_HB1a3Y k1_HB1a3Y k2_HB1a3Y kl_HB1a3Y k0_HBya3Y k1_HBya3Y k2_HBya3Y kl_HBya3Y
        cases j with
        | false =>
          have HOP : Hid (ol.map RegV.reg = PL) := Lib.hid (by rw [HJF.out (by first | rfl | trivial)]; exact HOL.out)
          obtain ⟨UW, hUW⟩ : ∃ U, U = u4 := ⟨_, rfl⟩
          subst hUW
          have i3b : (n8 : Int) ≤ (c8 : Int) := by have h1 := HRD.out.le; have h2 := HN8.out; omega
          have i3c : (c8 : Int) ≤ 9223372036854775807 := by have h1 := HRD.out.cm; unfold maxLen at h1; omega
          go_wp2
          go_loopg [54] n8 (fun gg s54 wx => ∃ k : Nat, k + gg = n8 ∧ s54 = .int .i64 (k : Int) ∧ Below UW.heap.size UW wx)
          case atStart => exact ⟨0, by omega, rfl, Below.refl _ _⟩
          case round =>
            obtain ⟨k, hk, rfl, hbw⟩ := hrel
            have HBW := Lib.hid hbw
            by_cases hkn : k < n8
            · have j1 : (k : Int) < (n8 : Int) := by omega
              have j2 : (0 : Int) ≤ (k : Int) := Int.natCast_nonneg _
              have j3 : (k : Int) ≤ (c8 : Int) := by omega
              have HKN := Lib.hid hkn
              have HKK := Lib.hid hk
              obtain ⟨q9, o9, hA9, hq9, hcell⟩ := HRD.out.at (by rw [← HN8.out]; omega)
              have HCE := Lib.hid (fun (i : Nat) (hi : i < ol.length) (w' : World) (hb : Below UW.heap.size UW w') => And.intro ((hb.cell (p := ⟨q9, o9 + i * 3, none⟩) hq9).trans (hcell i hi).1) (And.intro ((hb.cell (p := ⟨q9, o9 + i * 3 + 1, none⟩) hq9).trans (hcell i hi).2.1) ((hb.cell (p := ⟨q9, o9 + i * 3 + 2, none⟩) hq9).trans (hcell i hi).2.2)))
              subst hA9
              clear hcell hbw hk hkn
              go_wp2
              go_loopg [61] k (fun gg s61 wy => ∃ j : Nat, j + gg = k ∧ s61 = .int .i64 (j : Int) ∧ Below UW.heap.size UW wy)
              case atStart => exact ⟨0, by omega, rfl, HBW.out⟩
              case round =>
                obtain ⟨j, hj, rfl, hby⟩ := hrel
                have HBY := Lib.hid hby
                by_cases hjk : j < k
                · have l1 : (j : Int) < (k : Int) := by omega
                  have l2 : (0 : Int) ≤ (j : Int) := Int.natCast_nonneg _
                  have l3 : (j : Int) < (n8 : Int) := by omega
                  have hko : k < ol.length := by rw [← HN8.out]; exact HKN.out
                  have hjo : j < ol.length := by omega
                  have HJJ := Lib.hid hj
                  have HJK := Lib.hid hjk
                  have HC := Lib.hid (fun (w' : World) (hb : Below wr.heap.size wr w') => parts_call HOP.out HALL.out HNO.out HRD.out (HBY.out.trans (hb.mono HBY.out.size)) hko hjo hjk)
                  have HS := Lib.hid (fun (w' : World) (hb : Below wr.heap.size wr w') => And.intro (HCE.out k hko w' (HBY.out.trans (hb.mono HBY.out.size))) (HCE.out j hjo w' (HBY.out.trans (hb.mono HBY.out.size))))
                  generalize ol[k] = yk at *
                  generalize ol[j] = yj at *
                  generalize yk.xs.length = nxk at *
                  generalize yk.bl.length = nbk at *
                  generalize yj.xs.length = nxj at *
                  generalize yj.bl.length = nbj at *
                  obtain ⟨⟨e0, e1, e2⟩, e3, e4, e5⟩ := HS.out wr (Below.refl _ _)
                  have HKS := Lib.hid (fun (w' : World) (hb : Below wr.heap.size wr w') => show w'.cell? ⟨q9, o9 + k * 3, none⟩ = some (.slice yk.A nxk yk.c) ∧ w'.cell? ⟨q9, o9 + k * 3 + 1, none⟩ = some (.bool yk.b) ∧ w'.cell? ⟨q9, o9 + k * 3 + 2, none⟩ = some (.slice yk.H nbk yk.e) ∧ w'.cell? ⟨q9, o9 + j * 3, none⟩ = some (.slice yj.A nxj yj.c) ∧ w'.cell? ⟨q9, o9 + j * 3 + 1, none⟩ = some (.bool yj.b) ∧ w'.cell? ⟨q9, o9 + j * 3 + 2, none⟩ = some (.slice yj.H nbj yj.e) from ⟨(HS.out w' hb).1.1, (HS.out w' hb).1.2.1, (HS.out w' hb).1.2.2, (HS.out w' hb).2.1, (HS.out w' hb).2.2.1, (HS.out w' hb).2.2.2⟩)
                  have HZB : Hid ((wr.alloc (regObj none 0 0 false none 0 0)).cell? ⟨wr.heap.size, 0, none⟩ = some (.slice none 0 0) ∧ (wr.alloc (regObj none 0 0 false none 0 0)).cell? ⟨wr.heap.size, 1, none⟩ = some (.bool false) ∧ (wr.alloc (regObj none 0 0 false none 0 0)).cell? ⟨wr.heap.size, 2, none⟩ = some (.slice none 0 0) ∧ ∀ i, (wr.alloc (regObj none 0 0 false none 0 0)).frozen? ⟨wr.heap.size, i, none⟩ = false) := Lib.hid ⟨cells_new _ _ _ 0 _ rfl, cells_new _ _ _ 1 _ rfl, cells_new _ _ _ 2 _ rfl, fun i => by simp [regObj]⟩
                  clear hj hjk hko hjo hby
                  go_upto_region 15 with fail
                  set_option maxRecDepth 100000 in
                  go_region_held3 (fun w' => w'.cell? ⟨q9, o9 + k * 3, none⟩ = some (.slice yk.A nxk yk.c) ∧ w'.cell? ⟨q9, o9 + k * 3 + 1, none⟩ = some (.bool yk.b) ∧ w'.cell? ⟨q9, o9 + k * 3 + 2, none⟩ = some (.slice yk.H nbk yk.e) ∧ w'.cell? ⟨q9, o9 + j * 3, none⟩ = some (.slice yj.A nxj yj.c) ∧ w'.cell? ⟨q9, o9 + j * 3 + 1, none⟩ = some (.bool yj.b) ∧ w'.cell? ⟨q9, o9 + j * 3 + 2, none⟩ = some (.slice yj.H nbj yj.e))
                    (first | exact HKS.out _ b5_ | exact HKS.out _ (b5_.trans (((Below.refl _ _).alloc (Nat.le_refl _) _).mono b5_.size)) | exact HKS.out _ (((b5_.setCell (by simp) _).setCell (by simp) _).setCell (by simp) _) | exact HKS.out _ (below_drew (Below.refl _ _)) | exact HKS.out _ (Below.refl _ _) | exact HKS.out _ ((Below.refl _ _).alloc (Nat.le_refl _) _) | exact HKS.out _ (below_drew ((Below.refl _ _).alloc (Nat.le_refl _) _)) | go_keep)
                    (first
                      | (go_at_call 15; with_reducible refine (HC.out _ (below_drew (Below.refl _ _))).mono ?_; intro e w5 hh; unfold GivesNo at hh; obtain ⟨A5, n5, c5, b5, H5, m5, f5, z5, rfl, hb5⟩ := hh
                         have b5_ : Below wr.heap.size wr w5 := (below_drew (Below.refl _ _)).trans hb5)
                      | (go_at_call 15; with_reducible refine (HC.out _ (below_drew ((Below.refl _ _).alloc (Nat.le_refl _) (regObj none 0 0 false none 0 0)))).mono ?_; intro e w5 hh; unfold GivesNo at hh; obtain ⟨A5, n5, c5, b5, H5, m5, f5, z5, rfl, hb5⟩ := hh
                         have b5_ : Below wr.heap.size wr w5 := (below_drew ((Below.refl _ _).alloc (Nat.le_refl _) _)).trans (hb5.mono (by simp))
                         have k0 := (hb5.cell (p := ⟨wr.heap.size, 0, none⟩) (by simp)).trans HZB.out.1
                         have k1 := (hb5.cell (p := ⟨wr.heap.size, 1, none⟩) (by simp)).trans HZB.out.2.1
                         have k2 := (hb5.cell (p := ⟨wr.heap.size, 2, none⟩) (by simp)).trans HZB.out.2.2.1
                         have k3 := (hb5.frozen (p := ⟨wr.heap.size, 0, none⟩) (by simp)).trans (HZB.out.2.2.2 0)
                         have k4 := (hb5.frozen (p := ⟨wr.heap.size, 1, none⟩) (by simp)).trans (HZB.out.2.2.2 1)
                         have k5 := (hb5.frozen (p := ⟨wr.heap.size, 2, none⟩) (by simp)).trans (HZB.out.2.2.2 2)))
                  all_goals
                    go_wp2
                    go_roundg (k - (j + 1))
                    case measure => go_light; have := HJJ.out; have := HJK.out; omega
                    case rel =>
                      go_light
                      exact ⟨j + 1, by have := HJJ.out; have := HJK.out; omega, by go_num, HBY.out.trans ((by first | exact b5_.trans (((Below.refl _ _).alloc (Nat.le_refl _) _).mono b5_.size) | exact (((b5_.setCell (by simp) _).setCell (by simp) _).setCell (by simp) _) : Below wr.heap.size wr _).mono HBY.out.size)⟩
                · have l1 : ¬ (j : Int) < (k : Int) := by omega
                  clear hj hjk
                  go_wp2
                  go_roundg (n8 - (k + 1))
                  case measure => go_light; have := HKN.out; have := HKK.out; omega
                  case rel =>
                    go_light
                    exact ⟨k + 1, by have := HKN.out; have := HKK.out; omega, by go_num, HBY.out⟩
            · have j1 : ¬ (k : Int) < (n8 : Int) := by omega
              have hxw := HX4.out.trans (hbw.mono HX4.out.size)
              have HXW := Lib.hid hxw
              obtain ⟨d00, d01, d02, d0l⟩ := HB0.out _ hxw
              have HEN : Hid (em = decide (n8 = 0)) := Lib.hid (by rw [HEM.out, parts_len HOP.out, HN8.out])
              clear hxw hbw hk hkn
              cases em with
              | false =>
                have i9 : ((n8 : Int) == 0) = false := by
                  rw [beq_eq_false_iff_ne]
                  intro h9
                  have h8 : n8 = 0 := by omega
                  have h7 := HEN.out
                  rw [decide_eq_true h8] at h7
                  cases h7
                go_wp2_with fail
                with_reducible refine (HE0.out _ HXW.out).mono ?_
                rintro en w5 ⟨rfl, hb5⟩
                have HW5 := Lib.hid (HXW.out.trans (hb5.mono HXW.out.size))
                clear hb5 d00 d01 d02
                go_wp2_with fail
                with_reducible refine (HAw.out _).mono ?_
                rintro en w6 ⟨rfl, hb6⟩
                have HW6 := Lib.hid (HW5.out.trans (hb6.mono HW5.out.size))
                clear hb6
                go_wp2
                go_ret
                exact ⟨rfl, HAL.out.trans (HW6.out.mono HAL.out.size)⟩
              | true =>
                have i9 : ((n8 : Int) == 0) = true := by
                  have h8 : n8 = 0 := of_decide_eq_true HEN.out.symm
                  rw [h8]
                  rfl
                go_wp2_with fail
                with_reducible refine (HE0.out _ HXW.out).mono ?_
                rintro en w5 ⟨rfl, hb5⟩
                have HW5 := Lib.hid (HXW.out.trans (hb5.mono HXW.out.size))
                clear hb5 d00 d01 d02
                go_wp2_with fail
                with_reducible refine (HAw.out _).mono ?_
                rintro en w6 ⟨rfl, hb6⟩
                have HW6 := Lib.hid (HW5.out.trans (hb6.mono HW5.out.size))
                clear hb6
                go_wp2
                go_ret
                exact ⟨rfl, HAL.out.trans (HW6.out.mono HAL.out.size)⟩
        | true =>
          have hRY : ∀ w' : World, Below u4.heap.size u4 w' → RegV.R w' ⟨A9, xs9, c9, b9, K9, bl9, e9⟩ := fun w' hb => by
            unfold RegV.R
            rw [HXR.out]
            exact HR9.out w' (HU4.out.trans (hb.mono HU4.out.size))
          have HRY := Lib.hid hRY
          have HADY : Hid (∀ y ∈ (⟨A9, xs9, c9, b9, K9, bl9, e9⟩ : RegV).addrs, ∀ a, y = some a → a.block < u4.heap.size) := Lib.hid fun y hy a ha => Nat.lt_of_lt_of_le (HLT9.out y hy a ha) HU4.out.size
          have HKE := Lib.hid (fun (w' : World) (hb : Below u4.heap.size u4 w') => show w'.cell? ⟨u3.heap.size, 0, none⟩ = some (.slice A9 xs9.length c9) ∧ w'.cell? ⟨u3.heap.size, 1, none⟩ = some (.bool b9) ∧ w'.cell? ⟨u3.heap.size, 2, none⟩ = some (.slice K9 bl9.length e9) from
            ⟨(HBy.out w' (HY4.out.trans (hb.mono HY4.out.size))).c0, (HBy.out w' (HY4.out.trans (hb.mono HY4.out.size))).c1, (HBy.out w' (HY4.out.trans (hb.mono HY4.out.size))).c2⟩)
          have i3a : (n8 : Int) ≤ (c8 : Int) := by have h1 := HRD.out.le; have h2 := HN8.out; omega
          clear hRY
          go_upto_region 8 with fail
          go_cut [8] from 47 to 51 (fun s8 wx => ∃ (A6 : Option Addr) (n6 c6 : Nat), s8 = .slice A6 n6 c6 ∧ Below u4.heap.size u4 wx ∧ Aside (∃ ol6 : List RegV, n6 = ol6.length ∧ RdG wx A6 ol6 c6 ∧ ol6.map RegV.reg = PL))
          case first =>
            set_option maxRecDepth 100000 in
            go_region_held3 (fun w' => w'.cell? ⟨u3.heap.size, 0, none⟩ = some (.slice A9 xs9.length c9) ∧ w'.cell? ⟨u3.heap.size, 1, none⟩ = some (.bool b9) ∧ w'.cell? ⟨u3.heap.size, 2, none⟩ = some (.slice K9 bl9.length e9))
              (first | exact HKE.out _ b10_ | exact HKE.out _ b9_ | exact HKE.out _ (b9_.trans (((Below.refl _ _).alloc (Nat.le_refl _) _).mono b9_.size)) | exact HKE.out _ (below_drew (Below.refl _ _)) | exact HKE.out _ (Below.refl _ _) | exact HKE.out _ ((Below.refl _ _).alloc (Nat.le_refl _) _) | exact HKE.out _ (below_drew ((Below.refl _ _).alloc (Nat.le_refl _) _)) | go_keep)
              (first
                | (refine step_append_rg3 rfl _ _ rfl u4.heap.size (.slice A6 n8 e6) ol (by rfl) (HO9.out.below ((Below.refl _ _).alloc (Nat.le_refl _) _)) (some ⟨w9.heap.size, 0, none⟩) [⟨A9, xs9, c9, b9, K9, bl9, e9⟩] 1 1 rfl (by rfl) (newG w9 ⟨A9, xs9, c9, b9, K9, bl9, e9⟩ (HRY.out w9 b9_)) (fun x hx y hy a ha => ⟨fun e9 => by
                     rw [List.mem_singleton.1 hx] at hy
                     have h1 := HADY.out y hy a ha
                     have h2 := (HO9.out.lt _ e9).1
                     omega, by
                     rw [List.mem_singleton.1 hx] at hy
                     have h1 := HADY.out y hy a ha
                     have h2 := b9_.size
                     simp; omega⟩) (by have := HLN.out; simp; omega) (by have h2 := b9_.size; simp; omega) ?_
                   intro v10 w10 hown10 hb10 hg10 hv10
                   have b10_ : Below u4.heap.size u4 w10 := (b9_.trans (((Below.refl _ _).alloc (Nat.le_refl _) _).mono b9_.size)).trans hb10
                   obtain ⟨A10, e10, hfv10, _⟩ := hown10.form
                   subst hfv10
                   have HO10 := Lib.hid hown10
                   clear hown10 hb10 hg10 hv10)
                | (refine step_append_rg3 rfl _ _ rfl u4.heap.size (.slice A6 n8 e6) ol (by rfl) HO9.out (some ⟨u4.heap.size, 0, none⟩) [⟨A9, xs9, c9, b9, K9, bl9, e9⟩] 1 1 rfl (by rfl) HNG.out (fun x hx y hy a ha => ⟨fun e9 => by
                     rw [List.mem_singleton.1 hx] at hy
                     have h1 := HADY.out y hy a ha
                     have h2 := (HO9.out.lt _ e9).1
                     omega, by
                     rw [List.mem_singleton.1 hx] at hy
                     have h1 := HADY.out y hy a ha
                     have h2 := b9_.size
                     omega⟩) (by have := HLN.out; simp; omega) b9_.size ?_
                   intro v10 w10 hown10 hb10 hg10 hv10
                   have b10_ : Below u4.heap.size u4 w10 := b9_.trans hb10
                   obtain ⟨A10, e10, hfv10, _⟩ := hown10.form
                   subst hfv10
                   have HO10 := Lib.hid hown10
                   clear hown10 hb10 hg10 hv10)
                | (refine step_append_rg3 rfl _ _ rfl u4.heap.size (.slice none 0 0) [] (by rfl) (OwnG.empty _ _) A8 ol n8 c8 HN8.out (by first | rfl | simp [Act.eval]) (HRD.out.keep (below_drew (Below.refl _ _))) (fun x hx y hy a ha => ⟨by simp [Value.ownBlock], Nat.lt_of_lt_of_le (HAX.out x hx y hy a ha) (by simp)⟩) (by have := HLN.out; simp; omega) (by simp) ?_
                   intro v9 w9 hown9 hb9 hg9 hv9
                   have b9_ : Below u4.heap.size u4 w9 := (below_drew (Below.refl _ _)).trans hb9
                   rw [List.nil_append] at hown9
                   obtain ⟨A6, e6, hfv9, _⟩ := hown9.form
                   rw [← HN8.out] at hfv9
                   subst hfv9
                   have HO9 := Lib.hid hown9
                   clear hown9 hb9 hg9 hv9)
                | (refine step_append_rg3 rfl _ _ rfl u4.heap.size (.slice none 0 0) [] (by rfl) (OwnG.empty _ _) A8 ol n8 c8 HN8.out (by first | rfl | simp [Act.eval]) (HRD.out.keep (below_drew ((Below.refl _ _).alloc (Nat.le_refl _) _))) (fun x hx y hy a ha => ⟨by simp [Value.ownBlock], Nat.lt_of_lt_of_le (HAX.out x hx y hy a ha) (by simp)⟩) (by have := HLN.out; simp; omega) (by simp) ?_
                   intro v9 w9 hown9 hb9 hg9 hv9
                   have b9_ : Below u4.heap.size u4 w9 := (below_drew ((Below.refl _ _).alloc (Nat.le_refl _) _)).trans hb9
                   have HNG := Lib.hid (((newG u4 ⟨A9, xs9, c9, b9, K9, bl9, e9⟩ (HRY.out u4 (Below.refl _ _))).keep (below_drew (Below.refl _ _))).keep (below_row hg9 (fun k hk => by simp [Value.ownBlock] at hk) (Nat.le_refl _)))
                   rw [List.nil_append] at hown9
                   obtain ⟨A6, e6, hfv9, _⟩ := hown9.form
                   rw [← HN8.out] at hfv9
                   subst hfv9
                   have HO9 := Lib.hid hown9
                   clear hown9 hb9 hg9 hv9))
            all_goals (go_wp2_with fail; go_meet)
            all_goals
              obtain ⟨A11, c11, hv11, hrd11, _⟩ := HO10.out.rd
              injection hv11 with hA11 _ hc11
              subst hA11 hc11
              exact ⟨A10, _, e10, rfl, b10_, ol ++ [⟨A9, xs9, c9, b9, K9, bl9, e9⟩], by simp, hrd11, by rw [HJT.out (by first | rfl | trivial), List.map_append, HOL.out, List.map_cons, List.map_nil, HXR.out]⟩
          case rest =>
            obtain ⟨A6, n6, c6, rfl, hb6, HA6⟩ := hcut
            obtain ⟨ol6, hn6, hrd6, hol6⟩ := HA6.out
            have HN6 := Lib.hid hn6
            have HR6 := Lib.hid hrd6
            have HO6 := Lib.hid hol6
            have HXC := Lib.hid (HX4.out.trans (hb6.mono HX4.out.size))
            clear hn6 hrd6 hol6 hb6 HA6
            have i3b : (n6 : Int) ≤ (c6 : Int) := by have h1 := HR6.out.le; have h2 := HN6.out; omega
            have i3c : (c6 : Int) ≤ 9223372036854775807 := by have h1 := HR6.out.cm; unfold maxLen at h1; omega
            go_wp2
            go_loopg [54] n6 (fun gg s54 wx => ∃ k : Nat, k + gg = n6 ∧ s54 = .int .i64 (k : Int) ∧ Below wc.heap.size wc wx)
            case atStart => exact ⟨0, by omega, rfl, Below.refl _ _⟩
            case round =>
              obtain ⟨k, hk, rfl, hbw⟩ := hrel
              have HBW := Lib.hid hbw
              by_cases hkn : k < n6
              · have j1 : (k : Int) < (n6 : Int) := by omega
                have j2 : (0 : Int) ≤ (k : Int) := Int.natCast_nonneg _
                have j3 : (k : Int) ≤ (c6 : Int) := by omega
                have HKN := Lib.hid hkn
                have HKK := Lib.hid hk
                obtain ⟨q9, o9, hA9, hq9, hcell⟩ := HR6.out.at (by rw [← HN6.out]; omega)
                have HCE := Lib.hid (fun (i : Nat) (hi : i < ol6.length) (w' : World) (hb : Below wc.heap.size wc w') => And.intro ((hb.cell (p := ⟨q9, o9 + i * 3, none⟩) hq9).trans (hcell i hi).1) (And.intro ((hb.cell (p := ⟨q9, o9 + i * 3 + 1, none⟩) hq9).trans (hcell i hi).2.1) ((hb.cell (p := ⟨q9, o9 + i * 3 + 2, none⟩) hq9).trans (hcell i hi).2.2)))
                subst hA9
                clear hcell hbw hk hkn
                go_wp2
                go_loopg [61] k (fun gg s61 wy => ∃ j : Nat, j + gg = k ∧ s61 = .int .i64 (j : Int) ∧ Below wc.heap.size wc wy)
                case atStart => exact ⟨0, by omega, rfl, HBW.out⟩
                case round =>
                  obtain ⟨j, hj, rfl, hby⟩ := hrel
                  have HBY := Lib.hid hby
                  by_cases hjk : j < k
                  · have l1 : (j : Int) < (k : Int) := by omega
                    have l2 : (0 : Int) ≤ (j : Int) := Int.natCast_nonneg _
                    have l3 : (j : Int) < (n6 : Int) := by omega
                    have hko : k < ol6.length := by rw [← HN6.out]; exact HKN.out
                    have hjo : j < ol6.length := by omega
                    have HJJ := Lib.hid hj
                    have HJK := Lib.hid hjk
                    have HC := Lib.hid (fun (w' : World) (hb : Below wr.heap.size wr w') => parts_call HO6.out HALL.out HNO.out HR6.out (HBY.out.trans (hb.mono HBY.out.size)) hko hjo hjk)
                    have HS := Lib.hid (fun (w' : World) (hb : Below wr.heap.size wr w') => And.intro (HCE.out k hko w' (HBY.out.trans (hb.mono HBY.out.size))) (HCE.out j hjo w' (HBY.out.trans (hb.mono HBY.out.size))))
                    generalize ol6[k] = yk at *
                    generalize ol6[j] = yj at *
                    generalize yk.xs.length = nxk at *
                    generalize yk.bl.length = nbk at *
                    generalize yj.xs.length = nxj at *
                    generalize yj.bl.length = nbj at *
                    obtain ⟨⟨e0, e1, e2⟩, e3, e4, e5⟩ := HS.out wr (Below.refl _ _)
                    have HKS := Lib.hid (fun (w' : World) (hb : Below wr.heap.size wr w') => show w'.cell? ⟨q9, o9 + k * 3, none⟩ = some (.slice yk.A nxk yk.c) ∧ w'.cell? ⟨q9, o9 + k * 3 + 1, none⟩ = some (.bool yk.b) ∧ w'.cell? ⟨q9, o9 + k * 3 + 2, none⟩ = some (.slice yk.H nbk yk.e) ∧ w'.cell? ⟨q9, o9 + j * 3, none⟩ = some (.slice yj.A nxj yj.c) ∧ w'.cell? ⟨q9, o9 + j * 3 + 1, none⟩ = some (.bool yj.b) ∧ w'.cell? ⟨q9, o9 + j * 3 + 2, none⟩ = some (.slice yj.H nbj yj.e) from ⟨(HS.out w' hb).1.1, (HS.out w' hb).1.2.1, (HS.out w' hb).1.2.2, (HS.out w' hb).2.1, (HS.out w' hb).2.2.1, (HS.out w' hb).2.2.2⟩)
                    have HZB : Hid ((wr.alloc (regObj none 0 0 false none 0 0)).cell? ⟨wr.heap.size, 0, none⟩ = some (.slice none 0 0) ∧ (wr.alloc (regObj none 0 0 false none 0 0)).cell? ⟨wr.heap.size, 1, none⟩ = some (.bool false) ∧ (wr.alloc (regObj none 0 0 false none 0 0)).cell? ⟨wr.heap.size, 2, none⟩ = some (.slice none 0 0) ∧ ∀ i, (wr.alloc (regObj none 0 0 false none 0 0)).frozen? ⟨wr.heap.size, i, none⟩ = false) := Lib.hid ⟨cells_new _ _ _ 0 _ rfl, cells_new _ _ _ 1 _ rfl, cells_new _ _ _ 2 _ rfl, fun i => by simp [regObj]⟩
                    clear hj hjk hko hjo hby
                    go_upto_region 15 with fail
                    set_option maxRecDepth 100000 in
                    go_region_held3 (fun w' => w'.cell? ⟨q9, o9 + k * 3, none⟩ = some (.slice yk.A nxk yk.c) ∧ w'.cell? ⟨q9, o9 + k * 3 + 1, none⟩ = some (.bool yk.b) ∧ w'.cell? ⟨q9, o9 + k * 3 + 2, none⟩ = some (.slice yk.H nbk yk.e) ∧ w'.cell? ⟨q9, o9 + j * 3, none⟩ = some (.slice yj.A nxj yj.c) ∧ w'.cell? ⟨q9, o9 + j * 3 + 1, none⟩ = some (.bool yj.b) ∧ w'.cell? ⟨q9, o9 + j * 3 + 2, none⟩ = some (.slice yj.H nbj yj.e))
                      (first | exact HKS.out _ b5_ | exact HKS.out _ (b5_.trans (((Below.refl _ _).alloc (Nat.le_refl _) _).mono b5_.size)) | exact HKS.out _ (((b5_.setCell (by simp) _).setCell (by simp) _).setCell (by simp) _) | exact HKS.out _ (below_drew (Below.refl _ _)) | exact HKS.out _ (Below.refl _ _) | exact HKS.out _ ((Below.refl _ _).alloc (Nat.le_refl _) _) | exact HKS.out _ (below_drew ((Below.refl _ _).alloc (Nat.le_refl _) _)) | go_keep)
                      (first
                        | (go_at_call 15; with_reducible refine (HC.out _ (below_drew (Below.refl _ _))).mono ?_; intro e w5 hh; unfold GivesNo at hh; obtain ⟨A5, n5, c5, b5, H5, m5, f5, z5, rfl, hb5⟩ := hh
                           have b5_ : Below wr.heap.size wr w5 := (below_drew (Below.refl _ _)).trans hb5)
                        | (go_at_call 15; with_reducible refine (HC.out _ (below_drew ((Below.refl _ _).alloc (Nat.le_refl _) (regObj none 0 0 false none 0 0)))).mono ?_; intro e w5 hh; unfold GivesNo at hh; obtain ⟨A5, n5, c5, b5, H5, m5, f5, z5, rfl, hb5⟩ := hh
                           have b5_ : Below wr.heap.size wr w5 := (below_drew ((Below.refl _ _).alloc (Nat.le_refl _) _)).trans (hb5.mono (by simp))
                           have k0 := (hb5.cell (p := ⟨wr.heap.size, 0, none⟩) (by simp)).trans HZB.out.1
                           have k1 := (hb5.cell (p := ⟨wr.heap.size, 1, none⟩) (by simp)).trans HZB.out.2.1
                           have k2 := (hb5.cell (p := ⟨wr.heap.size, 2, none⟩) (by simp)).trans HZB.out.2.2.1
                           have k3 := (hb5.frozen (p := ⟨wr.heap.size, 0, none⟩) (by simp)).trans (HZB.out.2.2.2 0)
                           have k4 := (hb5.frozen (p := ⟨wr.heap.size, 1, none⟩) (by simp)).trans (HZB.out.2.2.2 1)
                           have k5 := (hb5.frozen (p := ⟨wr.heap.size, 2, none⟩) (by simp)).trans (HZB.out.2.2.2 2)))
                    all_goals
                      go_wp2
                      go_roundg (k - (j + 1))
                      case measure => go_light; have := HJJ.out; have := HJK.out; omega
                      case rel =>
                        go_light
                        exact ⟨j + 1, by have := HJJ.out; have := HJK.out; omega, by go_num, HBY.out.trans ((by first | exact b5_.trans (((Below.refl _ _).alloc (Nat.le_refl _) _).mono b5_.size) | exact (((b5_.setCell (by simp) _).setCell (by simp) _).setCell (by simp) _) : Below wr.heap.size wr _).mono HBY.out.size)⟩
                  · have l1 : ¬ (j : Int) < (k : Int) := by omega
                    clear hj hjk
                    go_wp2
                    go_roundg (n6 - (k + 1))
                    case measure => go_light; have := HKN.out; have := HKK.out; omega
                    case rel =>
                      go_light
                      exact ⟨k + 1, by have := HKN.out; have := HKK.out; omega, by go_num, HBY.out⟩
              · have j1 : ¬ (k : Int) < (n6 : Int) := by omega
                have hxw := HXC.out.trans (hbw.mono HXC.out.size)
                have HXW := Lib.hid hxw
                obtain ⟨d00, d01, d02, d0l⟩ := HB0.out _ hxw
                have HEN : Hid (em = decide (n6 = 0)) := Lib.hid (by rw [HEM.out, parts_len HO6.out, HN6.out])
                clear hxw hbw hk hkn
                cases em with
                | false =>
                  have i9 : ((n6 : Int) == 0) = false := by
                    rw [beq_eq_false_iff_ne]
                    intro h9
                    have h8 : n6 = 0 := by omega
                    have h7 := HEN.out
                    rw [decide_eq_true h8] at h7
                    cases h7
                  go_wp2_with fail
                  with_reducible refine (HE0.out _ HXW.out).mono ?_
                  rintro en w5 ⟨rfl, hb5⟩
                  have HW5 := Lib.hid (HXW.out.trans (hb5.mono HXW.out.size))
                  clear hb5 d00 d01 d02
                  go_wp2_with fail
                  with_reducible refine (HAw.out _).mono ?_
                  rintro en w6 ⟨rfl, hb6⟩
                  have HW6 := Lib.hid (HW5.out.trans (hb6.mono HW5.out.size))
                  clear hb6
                  go_wp2
                  go_ret
                  exact ⟨rfl, HAL.out.trans (HW6.out.mono HAL.out.size)⟩
                | true =>
                  have i9 : ((n6 : Int) == 0) = true := by
                    have h8 : n6 = 0 := of_decide_eq_true HEN.out.symm
                    rw [h8]
                    rfl
                  go_wp2_with fail
                  with_reducible refine (HE0.out _ HXW.out).mono ?_
                  rintro en w5 ⟨rfl, hb5⟩
                  have HW5 := Lib.hid (HXW.out.trans (hb5.mono HXW.out.size))
                  clear hb5 d00 d01 d02
                  go_wp2_with fail
                  with_reducible refine (HAw.out _).mono ?_
                  rintro en w6 ⟨rfl, hb6⟩
                  have HW6 := Lib.hid (HW5.out.trans (hb6.mono HW5.out.size))
                  clear hb6
                  go_wp2
                  go_ret
                  exact ⟨rfl, HAL.out.trans (HW6.out.mono HAL.out.size)⟩

end Go.Proofs.YtembmegllpkmfaaGreatDoor.regionParts
