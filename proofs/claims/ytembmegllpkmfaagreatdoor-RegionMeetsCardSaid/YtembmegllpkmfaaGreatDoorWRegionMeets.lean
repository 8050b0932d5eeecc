/- RegionMeets returns true at every two regions (the card: the variables that it lists hold what the program text lays). Conditions: none of its own. -/
import Derived.Test.YtembmegllpkmfaaGreatDoorCards
import Derived.Test.YtembmegllpkmfaaGreatDoorTie
import Derived.WalkKit
import Derived.ProofKit
import Derived.OpenShut
import Derived.ShutString
import Derived.Test.YtembmegllpkmfaaGreatDoorPatOpen
import Derived.Test.YtembmegllpkmfaaGreatDoorRegOpen
import Derived.Test.YtembmegllpkmfaaGreatDoorRegAwake
import Derived.Test.YtembmegllpkmfaaGreatDoorRegRMeet
namespace Go.Proofs.YtembmegllpkmfaaGreatDoor.regionMeets
open Go.ChangeShapes Go.WideShapes Go.ChangeAt Go.RowKit
open Go.ChangeMaps (open_string shut_string)
set_option linter.unusedVariables false

set_option maxHeartbeats 8000000 in
theorem walk (w : World) (A0 : Option Addr) (xs0 : List ByteArray) (c0 : Nat) (b0 : Bool) (K0 : Option Addr) (bl0 : List BindV) (e0 : Nat) (hg0 : RegR w A0 xs0 c0 b0 K0 bl0 e0 ⟨⟨bs xs0, b0⟩, bl0.map BindV.pat⟩) (hz0 : ∀ x ∈ xs0, x.size ≤ 140737488355000) (hy0 : ∀ x ∈ bl0, ∀ y ∈ x.xs, y.size ≤ 140737488355000) (hx0 : xs0.length ≤ 140737488355328) (hl0 : ∀ x ∈ bl0, x.xs.length ≤ 140737488355328) (A1 : Option Addr) (xs1 : List ByteArray) (c1 : Nat) (b1 : Bool) (K1 : Option Addr) (bl1 : List BindV) (e1 : Nat) (hg1 : RegR w A1 xs1 c1 b1 K1 bl1 e1 ⟨⟨bs xs1, b1⟩, bl1.map BindV.pat⟩) (hz1 : ∀ x ∈ xs1, x.size ≤ 140737488355000) (hy1 : ∀ x ∈ bl1, ∀ y ∈ x.xs, y.size ≤ 140737488355000) (hx1 : xs1.length ≤ 140737488355328) (hl1 : ∀ x ∈ bl1, x.xs.length ≤ 140737488355328) (hm : MaxL w) :
    Calls Tryz.prog 4 #[regV A0 xs0.length c0 b0 K0 bl0.length e0, regV A1 xs1.length c1 b1 K1 bl1.length e1] w fun e w' => e = .returned (.bool true) ∧ Below w.heap.size w w' := by
  obtain ⟨W0, hW0⟩ : ∃ W0, W0 = (w.alloc (regObj A0 xs0.length c0 b0 K0 bl0.length e0)).alloc (regObj A1 xs1.length c1 b1 K1 bl1.length e1) := ⟨_, rfl⟩
  have hal : Below w.heap.size w W0 := by rw [hW0]; exact ((Below.refl _ _).alloc (Nat.le_refl _) _).alloc (by simp) _
  have HX0 := Lib.hid (Below.refl W0.heap.size W0)
  have HAL := Lib.hid hal
  have hgb0 : GBox W0 w.heap.size A0 xs0.length c0 b0 K0 bl0.length e0 := by rw [hW0]; exact (GBox.new ..).keep ((Below.refl _ _).alloc (Nat.le_refl _) _)
  have hgb1 : GBox W0 (w.heap.size + 1) A1 xs1.length c1 b1 K1 bl1.length e1 := by
    have h := GBox.new (w.alloc (regObj A0 xs0.length c0 b0 K0 bl0.length e0)) A1 xs1.length c1 b1 K1 bl1.length e1
    rw [hW0]
    simpa using h
  have HB0 := Lib.hid (fun (w' : World) (hb : Below W0.heap.size W0 w') => hgb0.keep hb)
  have HB1 := Lib.hid (fun (w' : World) (hb : Below W0.heap.size W0 w') => hgb1.keep hb)
  have hm0 := hm.keep hal hm.size
  have HMX := Lib.hid (fun (w' : World) (hb : Below W0.heap.size W0 w') => hm0.keep hb hm0.size)
  have HAw := Lib.hid (fun (w' : World) => awake5_any w')
  have HSm0 := Lib.hid (fun (w' : World) (hb : Below W0.heap.size W0 w') => small5_any A0 xs0 c0 b0 K0 bl0 e0 _ w' (hg0.keep (hal.trans (hb.mono hal.size))) hx0 hl0)
  have HSm1 := Lib.hid (fun (w' : World) (hb : Below W0.heap.size W0 w') => small5_any A1 xs1 c1 b1 K1 bl1 e1 _ w' (hg1.keep (hal.trans (hb.mono hal.size))) hx1 hl1)
  generalize hs0 : smallG xs0 bl0 = sm0 at HSm0
  cases sm0 with
  | false =>
    clear hg0 hz0 hy0 hx0 hl0
    clear hg1 hz1 hy1 hx1 hl1
    clear hs0
    generalize xs0.length = nx0 at *
    generalize bl0.length = nb0 at *
    generalize xs1.length = nx1 at *
    generalize bl1.length = nb1 at *
    obtain ⟨k0_0, k1_0, k2_0, kl_0⟩ := hgb0
    obtain ⟨k0_1, k1_1, k2_1, kl_1⟩ := hgb1
    subst hW0
    clear hal hm0
    go_enter Tryz.func4, Tryz.ntmps4
    go_wp2_with fail
    with_reducible refine (HSm0.out _ HX0.out).mono ?_
    rintro en u1 ⟨rfl, hb1⟩
    have hX1 := HX0.out.trans (hb1.mono HX0.out.size)
    have HX1 := Lib.hid hX1
    obtain ⟨k0_HB01, k1_HB01, k2_HB01, kl_HB01⟩ := HB0.out _ hX1
    obtain ⟨k0_HB11, k1_HB11, k2_HB11, kl_HB11⟩ := HB1.out _ hX1
    have z1 := hX1.size
    simp only [World.alloc, Array.size_push] at z1
    clear hb1 hX1 k0_0 k1_0 k2_0 k0_1 k1_1 k2_1 kl_0 kl_1
    go_wp2_with fail
    with_reducible refine (HAw.out _).mono ?_
    rintro en u2 ⟨rfl, hb2⟩
    have hX2 := HX1.out.trans (hb2.mono HX1.out.size)
    have HX2 := Lib.hid hX2
    obtain ⟨k0_HB02, k1_HB02, k2_HB02, kl_HB02⟩ := HB0.out _ hX2
    obtain ⟨k0_HB12, k1_HB12, k2_HB12, kl_HB12⟩ := HB1.out _ hX2
    have z2 := hX2.size
    simp only [World.alloc, Array.size_push] at z2
    clear hb2 hX2 k0_HB01 k1_HB01 k2_HB01 kl_HB01 k0_HB11 k1_HB11 k2_HB11 kl_HB11
    go_wp2
    go_ret
    exact ⟨rfl, HAL.out.trans (HX2.out.mono HAL.out.size)⟩
  | true =>
    have sz0 := small_szG (b := b0) hs0
    obtain ⟨f0, f0a, f0b, f0c, f0d⟩ := smallG_facts hs0
    clear hs0
    generalize hs1 : smallG xs1 bl1 = sm1 at HSm1
    cases sm1 with
    | false =>
      clear hg0 hz0 hy0 hx0 hl0
      clear hg1 hz1 hy1 hx1 hl1
      clear hs1 f0 f0a f0b f0c f0d sz0
      generalize xs0.length = nx0 at *
      generalize bl0.length = nb0 at *
      generalize xs1.length = nx1 at *
      generalize bl1.length = nb1 at *
      obtain ⟨k0_0, k1_0, k2_0, kl_0⟩ := hgb0
      obtain ⟨k0_1, k1_1, k2_1, kl_1⟩ := hgb1
      subst hW0
      clear hal hm0
      go_enter Tryz.func4, Tryz.ntmps4
      go_wp2_with fail
      with_reducible refine (HSm0.out _ HX0.out).mono ?_
      rintro en u1 ⟨rfl, hb1⟩
      have hX1 := HX0.out.trans (hb1.mono HX0.out.size)
      have HX1 := Lib.hid hX1
      obtain ⟨k0_HB01, k1_HB01, k2_HB01, kl_HB01⟩ := HB0.out _ hX1
      obtain ⟨k0_HB11, k1_HB11, k2_HB11, kl_HB11⟩ := HB1.out _ hX1
      have z1 := hX1.size
      simp only [World.alloc, Array.size_push] at z1
      clear hb1 hX1 k0_0 k1_0 k2_0 k0_1 k1_1 k2_1 kl_0 kl_1
      go_wp2_with fail
      with_reducible refine (HSm1.out _ HX1.out).mono ?_
      rintro en u2 ⟨rfl, hb2⟩
      have hX2 := HX1.out.trans (hb2.mono HX1.out.size)
      have HX2 := Lib.hid hX2
      obtain ⟨k0_HB02, k1_HB02, k2_HB02, kl_HB02⟩ := HB0.out _ hX2
      obtain ⟨k0_HB12, k1_HB12, k2_HB12, kl_HB12⟩ := HB1.out _ hX2
      have z2 := hX2.size
      simp only [World.alloc, Array.size_push] at z2
      clear hb2 hX2 k0_HB01 k1_HB01 k2_HB01 kl_HB01 k0_HB11 k1_HB11 k2_HB11 kl_HB11
      go_wp2_with fail
      with_reducible refine (HAw.out _).mono ?_
      rintro en u3 ⟨rfl, hb3⟩
      have hX3 := HX2.out.trans (hb3.mono HX2.out.size)
      have HX3 := Lib.hid hX3
      obtain ⟨k0_HB03, k1_HB03, k2_HB03, kl_HB03⟩ := HB0.out _ hX3
      obtain ⟨k0_HB13, k1_HB13, k2_HB13, kl_HB13⟩ := HB1.out _ hX3
      have z3 := hX3.size
      simp only [World.alloc, Array.size_push] at z3
      clear hb3 hX3 k0_HB02 k1_HB02 k2_HB02 kl_HB02 k0_HB12 k1_HB12 k2_HB12 kl_HB12
      go_wp2
      go_ret
      exact ⟨rfl, HAL.out.trans (HX3.out.mono HAL.out.size)⟩
    | true =>
      have sz1 := small_szG (b := b1) hs1
      obtain ⟨f1, f1a, f1b, f1c, f1d⟩ := smallG_facts hs1
      clear hs1
      obtain ⟨g0, hgg0⟩ : ∃ g : Pt.Rg.Reg, g = ⟨⟨bs xs0, b0⟩, bl0.map BindV.pat⟩ := ⟨_, rfl⟩
      rw [← hgg0] at hg0 sz0
      clear hgg0
      obtain ⟨g1, hgg1⟩ : ∃ g : Pt.Rg.Reg, g = ⟨⟨bs xs1, b1⟩, bl1.map BindV.pat⟩ := ⟨_, rfl⟩
      rw [← hgg1] at hg1 sz1
      clear hgg1
      obtain ⟨xg, h_xg⟩ : ∃ x, x = ((Pt.Rg.meetR g0 g1).1.getD zeroG) := ⟨_, rfl⟩
      obtain ⟨j, h_j⟩ : ∃ x, x = ((Pt.Rg.meetR g0 g1).1.isSome) := ⟨_, rfl⟩
      obtain ⟨n, h_n⟩ : ∃ x, x = ((Pt.Rg.meetR g0 g1).2) := ⟨_, rfl⟩
      have HM1 := Lib.hid (fun (w' : World) (hb : Below W0.heap.size W0 w') => show Calls Tryz.prog 15 #[regV A0 xs0.length c0 b0 K0 bl0.length e0, regV A1 xs1.length c1 b1 K1 bl1.length e1] w' (GivesMJ w' xg j n) from by rw [h_xg, h_j, h_n]; exact meet1_any A0 A1 xs0 xs1 c0 c1 b0 b1 K0 K1 bl0 bl1 e0 e1 g0 g1 w' (hg0.keep (hal.trans (hb.mono hal.size))) (hg1.keep (hal.trans (hb.mono hal.size))) (sz0.more (by decide)) (sz1.more (by decide)))
      have HM2 := Lib.hid (fun (w' : World) (hb : Below W0.heap.size W0 w') => show Calls Tryz.prog 16 #[regV A0 xs0.length c0 b0 K0 bl0.length e0, regV A1 xs1.length c1 b1 K1 bl1.length e1] w' (GivesMJ w' xg j n) from by rw [h_xg, h_j, h_n]; exact gmeet_any A0 A1 xs0 xs1 c0 c1 b0 b1 K0 K1 bl0 bl1 e0 e1 g0 g1 w' (hg0.keep (hal.trans (hb.mono hal.size))) (hg1.keep (hal.trans (hb.mono hal.size))) (sz0.more (by decide)) (sz1.more (by decide)))
      have HSS := Lib.hid (fun (A : Option Addr) (xs : List ByteArray) (c : Nat) (b : Bool) (H : Option Addr) (bl : List BindV) (e : Nat) (B : Option Addr) (ys : List ByteArray) (d : Nat) (f : Bool) (L : Option Addr) (cl : List BindV) (e2 : Nat) (h : Pt.Rg.Reg) (w' : World) (hr : RegR w' A xs c b H bl e h) (hk : RegR w' B ys d f L cl e2 h) => same_regs A xs c b H bl e B ys d f L cl e2 h w' hr hk)
      have i7 : ((n : Int) == (n : Int)) = true := by simp
      clear h_xg h_j h_n
      clear hg0 hz0 hy0 hx0 hl0
      clear hg1 hz1 hy1 hx1 hl1
      clear sz0 f0 f0a f0b f0c f0d sz1 f1 f1a f1b f1c f1d
      generalize xs0.length = nx0 at *
      generalize bl0.length = nb0 at *
      generalize xs1.length = nx1 at *
      generalize bl1.length = nb1 at *
      obtain ⟨k0_0, k1_0, k2_0, kl_0⟩ := hgb0
      obtain ⟨k0_1, k1_1, k2_1, kl_1⟩ := hgb1
      subst hW0
      clear hal hm0
      go_enter Tryz.func4, Tryz.ntmps4
      go_wp2_with fail
      with_reducible refine (HSm0.out _ HX0.out).mono ?_
      rintro en u1 ⟨rfl, hb1⟩
      have hX1 := HX0.out.trans (hb1.mono HX0.out.size)
      have HX1 := Lib.hid hX1
      obtain ⟨k0_HB01, k1_HB01, k2_HB01, kl_HB01⟩ := HB0.out _ hX1
      obtain ⟨k0_HB11, k1_HB11, k2_HB11, kl_HB11⟩ := HB1.out _ hX1
      have z1 := hX1.size
      simp only [World.alloc, Array.size_push] at z1
      clear hb1 hX1 k0_0 k1_0 k2_0 k0_1 k1_1 k2_1 kl_0 kl_1
      go_wp2_with fail
      with_reducible refine (HSm1.out _ HX1.out).mono ?_
      rintro en u2 ⟨rfl, hb2⟩
      have hX2 := HX1.out.trans (hb2.mono HX1.out.size)
      have HX2 := Lib.hid hX2
      obtain ⟨k0_HB02, k1_HB02, k2_HB02, kl_HB02⟩ := HB0.out _ hX2
      obtain ⟨k0_HB12, k1_HB12, k2_HB12, kl_HB12⟩ := HB1.out _ hX2
      have z2 := hX2.size
      simp only [World.alloc, Array.size_push] at z2
      clear hb2 hX2 k0_HB01 k1_HB01 k2_HB01 kl_HB01 k0_HB11 k1_HB11 k2_HB11 kl_HB11
      go_wp2_with fail
      with_reducible refine (HM1.out _ HX2.out).mono ?_
      rintro en u3 ⟨A9, xs9, c9, b9, K9, bl9, e9, rfl, hr9, hb3⟩
      have hX3 := HX2.out.trans (hb3.mono HX2.out.size)
      have HX3 := Lib.hid hX3
      obtain ⟨k0_HB03, k1_HB03, k2_HB03, kl_HB03⟩ := HB0.out _ hX3
      obtain ⟨k0_HB13, k1_HB13, k2_HB13, kl_HB13⟩ := HB1.out _ hX3
      have z3 := hX3.size
      simp only [World.alloc, Array.size_push] at z3
      have HR9 := Lib.hid (fun (w' : World) (hb : Below u3.heap.size u3 w') => hr9.keep hb)
      have HSB9 := Lib.hid (fun (B : Option Addr) (ys : List ByteArray) (d : Nat) (f : Bool) (L : Option Addr) (cl : List BindV) (e2 : Nat) (w' : World) (hb : Below u3.heap.size u3 w') (hk : RegR w' B ys d f L cl e2 xg) => HSS.out _ _ _ _ _ _ _ B ys d f L cl e2 xg w' (hr9.keep hb) hk)
      clear hr9
      generalize xs9.length = nx9 at *
      generalize bl9.length = nb9 at *
      have HU0 := Lib.hid (Below.refl u3.heap.size u3)
      clear hb3 hX3 k0_HB02 k1_HB02 k2_HB02 kl_HB02 k0_HB12 k1_HB12 k2_HB12 kl_HB12
      have ha3Y : Below (World.heap u3).size u3 (World.alloc u3 (regObj A9 nx9 c9 b9 K9 nb9 e9)) := (Below.refl _ _).alloc (Nat.le_refl _) _
      have hXa3Y := HX3.out.trans (ha3Y.mono HX3.out.size)
      have HXa3Y := Lib.hid hXa3Y
      obtain ⟨k0_HB0a3Y, k1_HB0a3Y, k2_HB0a3Y, kl_HB0a3Y⟩ := HB0.out _ hXa3Y
      obtain ⟨k0_HB1a3Y, k1_HB1a3Y, k2_HB1a3Y, kl_HB1a3Y⟩ := HB1.out _ hXa3Y
      have hUa3Y := HU0.out.trans (ha3Y.mono HU0.out.size)
      have HUa3Y := Lib.hid hUa3Y
      have za3Y := hXa3Y.size
      simp only [World.alloc, Array.size_push] at za3Y
      have HBy := Lib.hid (fun (w' : World) (hb : Below (World.heap (World.alloc u3 (regObj A9 nx9 c9 b9 K9 nb9 e9))).size (World.alloc u3 (regObj A9 nx9 c9 b9 K9 nb9 e9)) w') => (GBox.new ..).keep hb)
      have HY0 := Lib.hid (Below.refl (World.heap (World.alloc u3 (regObj A9 nx9 c9 b9 K9 nb9 e9))).size (World.alloc u3 (regObj A9 nx9 c9 b9 K9 nb9 e9)))
      obtain ⟨k0_HBya3Y, k1_HBya3Y, k2_HBya3Y, kl_HBya3Y⟩ := HBy.out _ HY0.out
      clear ha3Y hXa3Y hUa3Y k0_HB03 k1_HB03 k2_HB03 kl_HB03 k0_HB13 k1_HB13 k2_HB13 kl_HB13
      go_wp2_with fail
      with_reducible refine (HM2.out _ HXa3Y.out).mono ?_
      rintro en u4 ⟨A8, xs8, c8, b8, K8, bl8, e8, rfl, hr8, hb4⟩
      have hX4 := HXa3Y.out.trans (hb4.mono HXa3Y.out.size)
      have HX4 := Lib.hid hX4
      obtain ⟨k0_HB04, k1_HB04, k2_HB04, kl_HB04⟩ := HB0.out _ hX4
      obtain ⟨k0_HB14, k1_HB14, k2_HB14, kl_HB14⟩ := HB1.out _ hX4
      have hU4 := HUa3Y.out.trans (hb4.mono HUa3Y.out.size)
      have HU4 := Lib.hid hU4
      have hY4 := HY0.out.trans (hb4.mono HY0.out.size)
      have HY4 := Lib.hid hY4
      obtain ⟨k0_HBy4, k1_HBy4, k2_HBy4, kl_HBy4⟩ := HBy.out _ hY4
      have z4 := hX4.size
      simp only [World.alloc, Array.size_push] at z4
      have HR8 := Lib.hid (fun (w' : World) (hb : Below u4.heap.size u4 w') => hr8.keep hb)
      have HSB8 := Lib.hid (fun (B : Option Addr) (ys : List ByteArray) (d : Nat) (f : Bool) (L : Option Addr) (cl : List BindV) (e2 : Nat) (w' : World) (hb : Below u4.heap.size u4 w') (hk : RegR w' B ys d f L cl e2 xg) => HSS.out _ _ _ _ _ _ _ B ys d f L cl e2 xg w' (hr8.keep hb) hk)
      have HSA := Lib.hid (fun (w' : World) (hu : Below _ _ w') (ht : Below _ _ w') => HSB9.out _ _ _ _ _ _ _ w' hu (HR8.out w' ht))
      clear hr8
      generalize xs8.length = nx8 at *
      generalize bl8.length = nb8 at *
      have HT0 := Lib.hid (Below.refl u4.heap.size u4)
      clear hb4 hX4 hU4 hY4 k0_HB0a3Y k1_HB0a3Y k2_HB0a3Y kl_HB0a3Y k0_HB1a3Y k1_HB1a3Y k2_HB1a3Y kl_HB1a3Y k0_HBya3Y k1_HBya3Y k2_HBya3Y kl_HBya3Y
      have ha4Z : Below (World.heap u4).size u4 (World.alloc u4 (regObj A8 nx8 c8 b8 K8 nb8 e8)) := (Below.refl _ _).alloc (Nat.le_refl _) _
      have hXa4Z := HX4.out.trans (ha4Z.mono HX4.out.size)
      have HXa4Z := Lib.hid hXa4Z
      obtain ⟨k0_HB0a4Z, k1_HB0a4Z, k2_HB0a4Z, kl_HB0a4Z⟩ := HB0.out _ hXa4Z
      obtain ⟨k0_HB1a4Z, k1_HB1a4Z, k2_HB1a4Z, kl_HB1a4Z⟩ := HB1.out _ hXa4Z
      have hUa4Z := HU4.out.trans (ha4Z.mono HU4.out.size)
      have HUa4Z := Lib.hid hUa4Z
      have hYa4Z := HY4.out.trans (ha4Z.mono HY4.out.size)
      have HYa4Z := Lib.hid hYa4Z
      obtain ⟨k0_HBya4Z, k1_HBya4Z, k2_HBya4Z, kl_HBya4Z⟩ := HBy.out _ hYa4Z
      have hTa4Z := HT0.out.trans (ha4Z.mono HT0.out.size)
      have HTa4Z := Lib.hid hTa4Z
      have za4Z := hXa4Z.size
      simp only [World.alloc, Array.size_push] at za4Z
      have HBz := Lib.hid (fun (w' : World) (hb : Below (World.heap (World.alloc u4 (regObj A8 nx8 c8 b8 K8 nb8 e8))).size (World.alloc u4 (regObj A8 nx8 c8 b8 K8 nb8 e8)) w') => (GBox.new ..).keep hb)
      have HZ0 := Lib.hid (Below.refl (World.heap (World.alloc u4 (regObj A8 nx8 c8 b8 K8 nb8 e8))).size (World.alloc u4 (regObj A8 nx8 c8 b8 K8 nb8 e8)))
      obtain ⟨k0_HBza4Z, k1_HBza4Z, k2_HBza4Z, kl_HBza4Z⟩ := HBz.out _ HZ0.out
      clear ha4Z hXa4Z hUa4Z hYa4Z hTa4Z k0_HB04 k1_HB04 k2_HB04 kl_HB04 k0_HB14 k1_HB14 k2_HB14 kl_HB14 k0_HBy4 k1_HBy4 k2_HBy4 kl_HBy4
      cases j with
      | false =>
        go_wp2_with fail
        with_reducible refine (HSA.out _ HUa4Z.out HTa4Z.out).mono ?_
        rintro en u5 ⟨rfl, hb5⟩
        have hX5 := HXa4Z.out.trans (hb5.mono HXa4Z.out.size)
        have HX5 := Lib.hid hX5
        obtain ⟨k0_HB05, k1_HB05, k2_HB05, kl_HB05⟩ := HB0.out _ hX5
        obtain ⟨k0_HB15, k1_HB15, k2_HB15, kl_HB15⟩ := HB1.out _ hX5
        have hU5 := HUa4Z.out.trans (hb5.mono HUa4Z.out.size)
        have HU5 := Lib.hid hU5
        have hY5 := HYa4Z.out.trans (hb5.mono HYa4Z.out.size)
        have HY5 := Lib.hid hY5
        obtain ⟨k0_HBy5, k1_HBy5, k2_HBy5, kl_HBy5⟩ := HBy.out _ hY5
        have hT5 := HTa4Z.out.trans (hb5.mono HTa4Z.out.size)
        have HT5 := Lib.hid hT5
        have hZ5 := HZ0.out.trans (hb5.mono HZ0.out.size)
        have HZ5 := Lib.hid hZ5
        obtain ⟨k0_HBz5, k1_HBz5, k2_HBz5, kl_HBz5⟩ := HBz.out _ hZ5
        have z5 := hX5.size
        simp only [World.alloc, Array.size_push] at z5
        clear hb5 hX5 hU5 hY5 hT5 hZ5 k0_HB0a4Z k1_HB0a4Z k2_HB0a4Z kl_HB0a4Z k0_HB1a4Z k1_HB1a4Z k2_HB1a4Z kl_HB1a4Z k0_HBya4Z k1_HBya4Z k2_HBya4Z kl_HBya4Z k0_HBza4Z k1_HBza4Z k2_HBza4Z kl_HBza4Z
        go_wp2_with fail
        with_reducible refine (HAw.out _).mono ?_
        rintro en u6 ⟨rfl, hb6⟩
        have hX6 := HX5.out.trans (hb6.mono HX5.out.size)
        have HX6 := Lib.hid hX6
        obtain ⟨k0_HB06, k1_HB06, k2_HB06, kl_HB06⟩ := HB0.out _ hX6
        obtain ⟨k0_HB16, k1_HB16, k2_HB16, kl_HB16⟩ := HB1.out _ hX6
        have hU6 := HU5.out.trans (hb6.mono HU5.out.size)
        have HU6 := Lib.hid hU6
        have hY6 := HY5.out.trans (hb6.mono HY5.out.size)
        have HY6 := Lib.hid hY6
        obtain ⟨k0_HBy6, k1_HBy6, k2_HBy6, kl_HBy6⟩ := HBy.out _ hY6
        have hT6 := HT5.out.trans (hb6.mono HT5.out.size)
        have HT6 := Lib.hid hT6
        have hZ6 := HZ5.out.trans (hb6.mono HZ5.out.size)
        have HZ6 := Lib.hid hZ6
        obtain ⟨k0_HBz6, k1_HBz6, k2_HBz6, kl_HBz6⟩ := HBz.out _ hZ6
        have z6 := hX6.size
        simp only [World.alloc, Array.size_push] at z6
        clear hb6 hX6 hU6 hY6 hT6 hZ6 k0_HB05 k1_HB05 k2_HB05 kl_HB05 k0_HB15 k1_HB15 k2_HB15 kl_HB15 k0_HBy5 k1_HBy5 k2_HBy5 kl_HBy5 k0_HBz5 k1_HBz5 k2_HBz5 kl_HBz5
        go_wp2
        go_ret
        exact ⟨rfl, HAL.out.trans (HX6.out.mono HAL.out.size)⟩
      | true =>
        go_wp2_with fail
        with_reducible refine (HSA.out _ HUa4Z.out HTa4Z.out).mono ?_
        rintro en u5 ⟨rfl, hb5⟩
        have hX5 := HXa4Z.out.trans (hb5.mono HXa4Z.out.size)
        have HX5 := Lib.hid hX5
        obtain ⟨k0_HB05, k1_HB05, k2_HB05, kl_HB05⟩ := HB0.out _ hX5
        obtain ⟨k0_HB15, k1_HB15, k2_HB15, kl_HB15⟩ := HB1.out _ hX5
        have hU5 := HUa4Z.out.trans (hb5.mono HUa4Z.out.size)
        have HU5 := Lib.hid hU5
        have hY5 := HYa4Z.out.trans (hb5.mono HYa4Z.out.size)
        have HY5 := Lib.hid hY5
        obtain ⟨k0_HBy5, k1_HBy5, k2_HBy5, kl_HBy5⟩ := HBy.out _ hY5
        have hT5 := HTa4Z.out.trans (hb5.mono HTa4Z.out.size)
        have HT5 := Lib.hid hT5
        have hZ5 := HZ0.out.trans (hb5.mono HZ0.out.size)
        have HZ5 := Lib.hid hZ5
        obtain ⟨k0_HBz5, k1_HBz5, k2_HBz5, kl_HBz5⟩ := HBz.out _ hZ5
        have z5 := hX5.size
        simp only [World.alloc, Array.size_push] at z5
        clear hb5 hX5 hU5 hY5 hT5 hZ5 k0_HB0a4Z k1_HB0a4Z k2_HB0a4Z kl_HB0a4Z k0_HB1a4Z k1_HB1a4Z k2_HB1a4Z kl_HB1a4Z k0_HBya4Z k1_HBya4Z k2_HBya4Z kl_HBya4Z k0_HBza4Z k1_HBza4Z k2_HBza4Z kl_HBza4Z
        go_wp2_with fail
        with_reducible refine (HAw.out _).mono ?_
        rintro en u6 ⟨rfl, hb6⟩
        have hX6 := HX5.out.trans (hb6.mono HX5.out.size)
        have HX6 := Lib.hid hX6
        obtain ⟨k0_HB06, k1_HB06, k2_HB06, kl_HB06⟩ := HB0.out _ hX6
        obtain ⟨k0_HB16, k1_HB16, k2_HB16, kl_HB16⟩ := HB1.out _ hX6
        have hU6 := HU5.out.trans (hb6.mono HU5.out.size)
        have HU6 := Lib.hid hU6
        have hY6 := HY5.out.trans (hb6.mono HY5.out.size)
        have HY6 := Lib.hid hY6
        obtain ⟨k0_HBy6, k1_HBy6, k2_HBy6, kl_HBy6⟩ := HBy.out _ hY6
        have hT6 := HT5.out.trans (hb6.mono HT5.out.size)
        have HT6 := Lib.hid hT6
        have hZ6 := HZ5.out.trans (hb6.mono HZ5.out.size)
        have HZ6 := Lib.hid hZ6
        obtain ⟨k0_HBz6, k1_HBz6, k2_HBz6, kl_HBz6⟩ := HBz.out _ hZ6
        have z6 := hX6.size
        simp only [World.alloc, Array.size_push] at z6
        clear hb6 hX6 hU6 hY6 hT6 hZ6 k0_HB05 k1_HB05 k2_HB05 kl_HB05 k0_HB15 k1_HB15 k2_HB15 kl_HB15 k0_HBy5 k1_HBy5 k2_HBy5 kl_HBy5 k0_HBz5 k1_HBz5 k2_HBz5 kl_HBz5
        go_wp2
        go_ret
        exact ⟨rfl, HAL.out.trans (HX6.out.mono HAL.out.size)⟩

end Go.Proofs.YtembmegllpkmfaaGreatDoor.regionMeets
