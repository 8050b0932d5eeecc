/- RegionKeeps returns true at every region and every string (the card: the variables that it lists hold what the program text lays). Conditions: none of its own. -/
import Derived.Test.YtpdkecchpidhdaaGreatDoorCards
import Derived.Test.YtpdkecchpidhdaaGreatDoorTie
import Derived.WalkKit
import Derived.ProofKit
import Derived.OpenShut
import Derived.ShutString
import Derived.Test.YtpdkecchpidhdaaGreatDoorPatOpen
import Derived.Test.YtpdkecchpidhdaaGreatDoorRegOpen
import Derived.Test.YtpdkecchpidhdaaGreatDoorRegAwake
import Derived.Test.YtpdkecchpidhdaaGreatDoorRegShort
namespace Go.Proofs.YtpdkecchpidhdaaGreatDoor.regionKeeps
open Go.ChangeShapes Go.WideShapes Go.ChangeAt Go.RowKit
open Go.ChangeMaps (open_string shut_string)
set_option linter.unusedVariables false

set_option maxHeartbeats 8000000 in
theorem walk (w : World) (A0 : Option Addr) (xs0 : List ByteArray) (c0 : Nat) (b0 : Bool) (K0 : Option Addr) (bl0 : List BindV) (e0 : Nat) (hg0 : RegR w A0 xs0 c0 b0 K0 bl0 e0 ⟨⟨bs xs0, b0⟩, bl0.map BindV.pat⟩) (hz0 : ∀ x ∈ xs0, x.size ≤ 140737488355000) (hy0 : ∀ x ∈ bl0, ∀ y ∈ x.xs, y.size ≤ 140737488355000) (hx0 : xs0.length ≤ 140737488355328) (hl0 : ∀ x ∈ bl0, x.xs.length ≤ 140737488355328) (s1 : ByteArray) (w1 : s1.size ≤ maxLen) (hm : MaxL w) :
    Calls Tryz.prog 7 #[regV A0 xs0.length c0 b0 K0 bl0.length e0, .string s1] w fun e w' => e = .returned (.bool true) ∧ Below w.heap.size w w' := by
  obtain ⟨W0, hW0⟩ : ∃ W0, W0 = w.alloc (regObj A0 xs0.length c0 b0 K0 bl0.length e0) := ⟨_, rfl⟩
  have hal : Below w.heap.size w W0 := by rw [hW0]; exact (Below.refl _ _).alloc (Nat.le_refl _) _
  have HX0 := Lib.hid (Below.refl W0.heap.size W0)
  have HAL := Lib.hid hal
  have hgb0 : GBox W0 w.heap.size A0 xs0.length c0 b0 K0 bl0.length e0 := by rw [hW0]; exact GBox.new ..
  have HB0 := Lib.hid (fun (w' : World) (hb : Below W0.heap.size W0 w') => hgb0.keep hb)
  have hm0 := hm.keep hal hm.size
  have HMX := Lib.hid (fun (w' : World) (hb : Below W0.heap.size W0 w') => hm0.keep hb hm0.size)
  have HAw := Lib.hid (fun (w' : World) => awake5_any w')
  have HSm0 := Lib.hid (fun (w' : World) (hb : Below W0.heap.size W0 w') => small5_any A0 xs0 c0 b0 K0 bl0 e0 _ w' (hg0.keep (hal.trans (hb.mono hal.size))) hx0 hl0)
  generalize hs0 : smallG xs0 bl0 = sm0 at HSm0
  cases sm0 with
  | false =>
    clear hg0 hz0 hy0 hx0 hl0
    clear hs0
    generalize xs0.length = nx0 at *
    generalize bl0.length = nb0 at *
    obtain ⟨k0_, k1_, k2_, kl_⟩ := hgb0
    subst hW0
    clear hal hm0
    go_enter Tryz.func7, Tryz.ntmps7
    go_wp2_with fail
    with_reducible refine (HSm0.out _ HX0.out).mono ?_
    rintro en u1 ⟨rfl, hb1⟩
    have hX1 := HX0.out.trans (hb1.mono HX0.out.size)
    have HX1 := Lib.hid hX1
    obtain ⟨k0_HB01, k1_HB01, k2_HB01, kl_HB01⟩ := HB0.out _ hX1
    have z1 := hX1.size
    simp only [World.alloc, Array.size_push] at z1
    clear hb1 hX1 k0_ k1_ k2_ kl_
    go_wp2_with fail
    with_reducible refine (HAw.out _).mono ?_
    rintro en u2 ⟨rfl, hb2⟩
    have hX2 := HX1.out.trans (hb2.mono HX1.out.size)
    have HX2 := Lib.hid hX2
    obtain ⟨k0_HB02, k1_HB02, k2_HB02, kl_HB02⟩ := HB0.out _ hX2
    have z2 := hX2.size
    simp only [World.alloc, Array.size_push] at z2
    clear hb2 hX2 k0_HB01 k1_HB01 k2_HB01 kl_HB01
    go_wp2
    go_ret
    exact ⟨rfl, HAL.out.trans (HX2.out.mono HAL.out.size)⟩
  | true =>
    have sz0 := small_szG (b := b0) hs0
    obtain ⟨f0, f0a, f0b, f0c, f0d⟩ := smallG_facts hs0
    clear hs0
    by_cases h300 : s1.size ≤ 300
    rotate_left
    · have i3 : (300 : Int) < (s1.size : Int) := by omega
      clear hg0 hz0 hy0 hx0 hl0
      clear sz0 f0 f0a f0b f0c f0d
      clear h300
      generalize xs0.length = nx0 at *
      generalize bl0.length = nb0 at *
      obtain ⟨k0_, k1_, k2_, kl_⟩ := hgb0
      subst hW0
      clear hal hm0
      go_enter Tryz.func7, Tryz.ntmps7
      go_wp2_with fail
      with_reducible refine (HSm0.out _ HX0.out).mono ?_
      rintro en u1 ⟨rfl, hb1⟩
      have hX1 := HX0.out.trans (hb1.mono HX0.out.size)
      have HX1 := Lib.hid hX1
      obtain ⟨k0_HB01, k1_HB01, k2_HB01, kl_HB01⟩ := HB0.out _ hX1
      have z1 := hX1.size
      simp only [World.alloc, Array.size_push] at z1
      clear hb1 hX1 k0_ k1_ k2_ kl_
      go_wp2_with fail
      with_reducible refine (HAw.out _).mono ?_
      rintro en u2 ⟨rfl, hb2⟩
      have hX2 := HX1.out.trans (hb2.mono HX1.out.size)
      have HX2 := Lib.hid hX2
      obtain ⟨k0_HB02, k1_HB02, k2_HB02, kl_HB02⟩ := HB0.out _ hX2
      have z2 := hX2.size
      simp only [World.alloc, Array.size_push] at z2
      clear hb2 hX2 k0_HB01 k1_HB01 k2_HB01 kl_HB01
      go_wp2
      go_ret
      exact ⟨rfl, HAL.out.trans (HX2.out.mono HAL.out.size)⟩
    have i3 : ¬ (300 : Int) < (s1.size : Int) := by omega
    have h4 : s1.size < 4294967281 := by omega
    clear h300
    obtain ⟨g0, hgg0⟩ : ∃ g : Pt.Rg.Reg, g = ⟨⟨bs xs0, b0⟩, bl0.map BindV.pat⟩ := ⟨_, rfl⟩
    rw [← hgg0] at hg0 sz0
    clear hgg0
    have HSI := Lib.hid (fun (w' : World) (hb : Below W0.heap.size W0 w') => simplify_any A0 xs0 c0 b0 K0 bl0 e0 g0 w' (hg0.keep (hal.trans (hb.mono hal.size))) (sz0.short (by decide)))
    have HC := Lib.hid (fun (w' : World) (hb : Below W0.heap.size W0 w') => gcheck_any A0 xs0 c0 b0 K0 bl0 e0 g0 w' (hg0.keep (hal.trans (hb.mono hal.size))))
    have HH := Lib.hid (fun (w' : World) (hb : Below W0.heap.size W0 w') => ghas_any A0 xs0 c0 b0 K0 bl0 e0 g0 s1 w' (hg0.keep (hal.trans (hb.mono hal.size))) h4 (hm0.keep hb hm0.size))
    by_cases hk : Pt.Rg.gcheck g0 = 0
    rotate_left
    · rw [if_neg hk] at HSI
      generalize Pt.Rg.gcheck g0 = k at *
      have i1 : ((k : Int) == 0) = false := by rw [beq_eq_false_iff_ne]; omega
      have i2 : ((k : Int) != 0) = true := by rw [bne, i1]; rfl
      clear hk
      clear hg0 hz0 hy0 hx0 hl0
      clear sz0 f0 f0a f0b f0c f0d h4
      generalize xs0.length = nx0 at *
      generalize bl0.length = nb0 at *
      obtain ⟨k0_, k1_, k2_, kl_⟩ := hgb0
      subst hW0
      clear hal hm0
      go_enter Tryz.func7, Tryz.ntmps7
      go_wp2_with fail
      with_reducible refine (HSm0.out _ HX0.out).mono ?_
      rintro en u1 ⟨rfl, hb1⟩
      have hX1 := HX0.out.trans (hb1.mono HX0.out.size)
      have HX1 := Lib.hid hX1
      obtain ⟨k0_HB01, k1_HB01, k2_HB01, kl_HB01⟩ := HB0.out _ hX1
      have z1 := hX1.size
      simp only [World.alloc, Array.size_push] at z1
      clear hb1 hX1 k0_ k1_ k2_ kl_
      go_wp2_with fail
      with_reducible refine (HSI.out _ HX1.out).mono ?_
      rintro en u2 ⟨A9, xs9, c9, b9, K9, bl9, e9, rfl, hr9, hb2, _, _, _⟩
      have hX2 := HX1.out.trans (hb2.mono HX1.out.size)
      have HX2 := Lib.hid hX2
      obtain ⟨k0_HB02, k1_HB02, k2_HB02, kl_HB02⟩ := HB0.out _ hX2
      have z2 := hX2.size
      simp only [World.alloc, Array.size_push] at z2
      have HR9 := Lib.hid hr9
      clear hr9
      generalize xs9.length = nx9 at *
      generalize bl9.length = nb9 at *
      clear hb2 hX2 k0_HB01 k1_HB01 k2_HB01 kl_HB01
      have ha2Y : Below (World.heap u2).size u2 (World.alloc u2 (regObj A9 nx9 c9 b9 K9 nb9 e9)) := (Below.refl _ _).alloc (Nat.le_refl _) _
      have hXa2Y := HX2.out.trans (ha2Y.mono HX2.out.size)
      have HXa2Y := Lib.hid hXa2Y
      obtain ⟨k0_HB0a2Y, k1_HB0a2Y, k2_HB0a2Y, kl_HB0a2Y⟩ := HB0.out _ hXa2Y
      have za2Y := hXa2Y.size
      simp only [World.alloc, Array.size_push] at za2Y
      have HY9 := Lib.hid (fun (w' : World) (hb : Below (World.heap (World.alloc u2 (regObj A9 nx9 c9 b9 K9 nb9 e9))).size (World.alloc u2 (regObj A9 nx9 c9 b9 K9 nb9 e9)) w') => (GBox.new ..).keep hb)
      have HY0 := Lib.hid (Below.refl (World.heap (World.alloc u2 (regObj A9 nx9 c9 b9 K9 nb9 e9))).size (World.alloc u2 (regObj A9 nx9 c9 b9 K9 nb9 e9)))
      obtain ⟨k0_HY9a2Y, k1_HY9a2Y, k2_HY9a2Y, kl_HY9a2Y⟩ := HY9.out _ HY0.out
      clear ha2Y hXa2Y k0_HB02 k1_HB02 k2_HB02 kl_HB02
      go_wp2_with fail
      with_reducible refine (HC.out _ HXa2Y.out).mono ?_
      rintro en u3 ⟨rfl, hb3⟩
      have hX3 := HXa2Y.out.trans (hb3.mono HXa2Y.out.size)
      have HX3 := Lib.hid hX3
      obtain ⟨k0_HB03, k1_HB03, k2_HB03, kl_HB03⟩ := HB0.out _ hX3
      have hY3 := HY0.out.trans (hb3.mono HY0.out.size)
      have HY3 := Lib.hid hY3
      obtain ⟨k0_HY93, k1_HY93, k2_HY93, kl_HY93⟩ := HY9.out _ hY3
      have z3 := hX3.size
      simp only [World.alloc, Array.size_push] at z3
      clear hb3 hX3 hY3 k0_HB0a2Y k1_HB0a2Y k2_HB0a2Y kl_HB0a2Y k0_HY9a2Y k1_HY9a2Y k2_HY9a2Y kl_HY9a2Y
      go_wp2_with fail
      with_reducible refine (HAw.out _).mono ?_
      rintro en u4 ⟨rfl, hb4⟩
      have hX4 := HX3.out.trans (hb4.mono HX3.out.size)
      have HX4 := Lib.hid hX4
      obtain ⟨k0_HB04, k1_HB04, k2_HB04, kl_HB04⟩ := HB0.out _ hX4
      have hY4 := HY3.out.trans (hb4.mono HY3.out.size)
      have HY4 := Lib.hid hY4
      obtain ⟨k0_HY94, k1_HY94, k2_HY94, kl_HY94⟩ := HY9.out _ hY4
      have z4 := hX4.size
      simp only [World.alloc, Array.size_push] at z4
      clear hb4 hX4 hY4 k0_HB03 k1_HB03 k2_HB03 kl_HB03 k0_HY93 k1_HY93 k2_HY93 kl_HY93
      go_wp2
      go_ret
      exact ⟨rfl, HAL.out.trans (HX4.out.mono HAL.out.size)⟩
    rw [if_pos hk] at HSI
    have hks := simp_check hk
    have hle : g0.simp.holes.length ≤ bl0.length := by rw [← reg_len hg0]; exact simp_holes_len g0
    have HSJ := Lib.hid (fun (A : Option Addr) (xs : List ByteArray) (c : Nat) (b : Bool) (H : Option Addr) (bl : List BindV) (e : Nat) (w' : World) (hr : RegR w' A xs c b H bl e g0.simp) => show Calls Tryz.prog 17 #[regV A xs.length c b H bl.length e] w' (GivesGN w' g0.simp 0) from by
        have h := simplify_any A xs c b H bl e g0.simp w' hr (sz0.simp.short (by decide))
        rw [if_pos hks, hks, simp_simp] at h
        exact h)
    have HHS := Lib.hid (fun (A : Option Addr) (xs : List ByteArray) (c : Nat) (b : Bool) (H : Option Addr) (bl : List BindV) (e : Nat) (w' : World) (hr : RegR w' A xs c b H bl e g0.simp) (hb : Below W0.heap.size W0 w') => show Calls Tryz.prog 29 #[regV A xs.length c b H bl.length e, .string s1] w' (GivesBB w' (g0.has s1.data.toList)) from by
        have h := ghas_any A xs c b H bl e g0.simp s1 w' hr h4 (hm0.keep hb hm0.size)
        rw [hks, Pt.Rg.Reg.simp_has, decide_eq_true rfl, Bool.true_and] at h
        exact h)
    have HLE := Lib.hid (fun (A : Option Addr) (xs : List ByteArray) (c : Nat) (b : Bool) (H : Option Addr) (bl : List BindV) (e : Nat) (w' : World) (hr : RegR w' A xs c b H bl e g0.simp) => show (bl.length : Int) ≤ (bl0.length : Int) from by have := reg_len hr; omega)
    have HSS := Lib.hid (fun (A : Option Addr) (xs : List ByteArray) (c : Nat) (b : Bool) (H : Option Addr) (bl : List BindV) (e : Nat) (B : Option Addr) (ys : List ByteArray) (d : Nat) (f : Bool) (L : Option Addr) (cl : List BindV) (e2 : Nat) (w' : World) (hr : RegR w' A xs c b H bl e g0.simp) (hk : RegR w' B ys d f L cl e2 g0.simp) => same_regs A xs c b H bl e B ys d f L cl e2 g0.simp w' hr hk)
    rw [hk, decide_eq_true rfl, Bool.true_and] at HH
    rw [hk] at HSI HC
    clear hk hks hle
    generalize g0.has s1.data.toList = r at *
    generalize g0.simp = gs at *
    clear hg0 hz0 hy0 hx0 hl0
    clear sz0 f0 f0a f0b f0c f0d h4
    generalize xs0.length = nx0 at *
    generalize bl0.length = nb0 at *
    obtain ⟨k0_, k1_, k2_, kl_⟩ := hgb0
    subst hW0
    clear hal hm0
    go_enter Tryz.func7, Tryz.ntmps7
    go_wp2_with fail
    with_reducible refine (HSm0.out _ HX0.out).mono ?_
    rintro en u1 ⟨rfl, hb1⟩
    have hX1 := HX0.out.trans (hb1.mono HX0.out.size)
    have HX1 := Lib.hid hX1
    obtain ⟨k0_HB01, k1_HB01, k2_HB01, kl_HB01⟩ := HB0.out _ hX1
    have z1 := hX1.size
    simp only [World.alloc, Array.size_push] at z1
    clear hb1 hX1 k0_ k1_ k2_ kl_
    go_wp2_with fail
    with_reducible refine (HSI.out _ HX1.out).mono ?_
    rintro en u2 ⟨A9, xs9, c9, b9, K9, bl9, e9, rfl, hr9, hb2, _, _, _⟩
    have hX2 := HX1.out.trans (hb2.mono HX1.out.size)
    have HX2 := Lib.hid hX2
    obtain ⟨k0_HB02, k1_HB02, k2_HB02, kl_HB02⟩ := HB0.out _ hX2
    have z2 := hX2.size
    simp only [World.alloc, Array.size_push] at z2
    have i7 := HLE.out _ _ _ _ _ _ _ _ hr9
    have HR9 := Lib.hid (fun (w' : World) (hb : Below u2.heap.size u2 w') => hr9.keep hb)
    have HJ9 := Lib.hid (fun (w' : World) (hb : Below u2.heap.size u2 w') => HSJ.out _ _ _ _ _ _ _ w' (hr9.keep hb))
    have HH9 := Lib.hid (fun (w' : World) (hb : Below u2.heap.size u2 w') (hb0 : Below _ _ w') => HHS.out _ _ _ _ _ _ _ w' (hr9.keep hb) hb0)
    have HS9 := Lib.hid (fun (B : Option Addr) (ys : List ByteArray) (d : Nat) (f : Bool) (L : Option Addr) (cl : List BindV) (e2 : Nat) (w' : World) (hb : Below u2.heap.size u2 w') (hk : RegR w' B ys d f L cl e2 gs) => HSS.out _ _ _ _ _ _ _ B ys d f L cl e2 w' (hr9.keep hb) hk)
    clear hr9
    generalize xs9.length = nx9 at *
    generalize bl9.length = nb9 at *
    have HU0 := Lib.hid (Below.refl u2.heap.size u2)
    clear hb2 hX2 k0_HB01 k1_HB01 k2_HB01 kl_HB01
    have ha2Y : Below (World.heap u2).size u2 (World.alloc u2 (regObj A9 nx9 c9 b9 K9 nb9 e9)) := (Below.refl _ _).alloc (Nat.le_refl _) _
    have hXa2Y := HX2.out.trans (ha2Y.mono HX2.out.size)
    have HXa2Y := Lib.hid hXa2Y
    obtain ⟨k0_HB0a2Y, k1_HB0a2Y, k2_HB0a2Y, kl_HB0a2Y⟩ := HB0.out _ hXa2Y
    have hUa2Y := HU0.out.trans (ha2Y.mono HU0.out.size)
    have HUa2Y := Lib.hid hUa2Y
    have za2Y := hXa2Y.size
    simp only [World.alloc, Array.size_push] at za2Y
    have HY9 := Lib.hid (fun (w' : World) (hb : Below (World.heap (World.alloc u2 (regObj A9 nx9 c9 b9 K9 nb9 e9))).size (World.alloc u2 (regObj A9 nx9 c9 b9 K9 nb9 e9)) w') => (GBox.new ..).keep hb)
    have HY0 := Lib.hid (Below.refl (World.heap (World.alloc u2 (regObj A9 nx9 c9 b9 K9 nb9 e9))).size (World.alloc u2 (regObj A9 nx9 c9 b9 K9 nb9 e9)))
    obtain ⟨k0_HY9a2Y, k1_HY9a2Y, k2_HY9a2Y, kl_HY9a2Y⟩ := HY9.out _ HY0.out
    clear ha2Y hXa2Y hUa2Y k0_HB02 k1_HB02 k2_HB02 kl_HB02
    go_wp2_with fail
    with_reducible refine (HJ9.out _ HUa2Y.out).mono ?_
    rintro en u3 ⟨A8, xs8, c8, b8, K8, bl8, e8, rfl, hr8, hb3, _, _, _⟩
    have hX3 := HXa2Y.out.trans (hb3.mono HXa2Y.out.size)
    have HX3 := Lib.hid hX3
    obtain ⟨k0_HB03, k1_HB03, k2_HB03, kl_HB03⟩ := HB0.out _ hX3
    have hU3 := HUa2Y.out.trans (hb3.mono HUa2Y.out.size)
    have HU3 := Lib.hid hU3
    have hY3 := HY0.out.trans (hb3.mono HY0.out.size)
    have HY3 := Lib.hid hY3
    obtain ⟨k0_HY93, k1_HY93, k2_HY93, kl_HY93⟩ := HY9.out _ hY3
    have z3 := hX3.size
    simp only [World.alloc, Array.size_push] at z3
    have HSame := Lib.hid (fun (w' : World) (hb : Below u3.heap.size u3 w') (hu : Below _ _ w') => HS9.out _ _ _ _ _ _ _ w' hu (hr8.keep hb))
    clear hr8
    generalize xs8.length = nx8 at *
    generalize bl8.length = nb8 at *
    have HT0 := Lib.hid (Below.refl u3.heap.size u3)
    clear hb3 hX3 hU3 hY3 k0_HB0a2Y k1_HB0a2Y k2_HB0a2Y kl_HB0a2Y k0_HY9a2Y k1_HY9a2Y k2_HY9a2Y kl_HY9a2Y
    have ha3Z : Below (World.heap u3).size u3 (World.alloc u3 (regObj A8 nx8 c8 b8 K8 nb8 e8)) := (Below.refl _ _).alloc (Nat.le_refl _) _
    have hXa3Z := HX3.out.trans (ha3Z.mono HX3.out.size)
    have HXa3Z := Lib.hid hXa3Z
    obtain ⟨k0_HB0a3Z, k1_HB0a3Z, k2_HB0a3Z, kl_HB0a3Z⟩ := HB0.out _ hXa3Z
    have hUa3Z := HU3.out.trans (ha3Z.mono HU3.out.size)
    have HUa3Z := Lib.hid hUa3Z
    have hYa3Z := HY3.out.trans (ha3Z.mono HY3.out.size)
    have HYa3Z := Lib.hid hYa3Z
    obtain ⟨k0_HY9a3Z, k1_HY9a3Z, k2_HY9a3Z, kl_HY9a3Z⟩ := HY9.out _ hYa3Z
    have hTa3Z := HT0.out.trans (ha3Z.mono HT0.out.size)
    have HTa3Z := Lib.hid hTa3Z
    have za3Z := hXa3Z.size
    simp only [World.alloc, Array.size_push] at za3Z
    have HZ9 := Lib.hid (fun (w' : World) (hb : Below (World.heap (World.alloc u3 (regObj A8 nx8 c8 b8 K8 nb8 e8))).size (World.alloc u3 (regObj A8 nx8 c8 b8 K8 nb8 e8)) w') => (GBox.new ..).keep hb)
    have HZ0 := Lib.hid (Below.refl (World.heap (World.alloc u3 (regObj A8 nx8 c8 b8 K8 nb8 e8))).size (World.alloc u3 (regObj A8 nx8 c8 b8 K8 nb8 e8)))
    obtain ⟨k0_HZ9a3Z, k1_HZ9a3Z, k2_HZ9a3Z, kl_HZ9a3Z⟩ := HZ9.out _ HZ0.out
    clear ha3Z hXa3Z hUa3Z hYa3Z hTa3Z k0_HB03 k1_HB03 k2_HB03 kl_HB03 k0_HY93 k1_HY93 k2_HY93 kl_HY93
    have hke := fun (w' : World) (hb : Below (World.heap (World.alloc u3 (regObj A8 nx8 c8 b8 K8 nb8 e8))).size (World.alloc u3 (regObj A8 nx8 c8 b8 K8 nb8 e8)) w') => And.intro (HB0.out w' (HXa3Z.out.trans (hb.mono HXa3Z.out.size))) (And.intro (HY9.out w' (HYa3Z.out.trans (hb.mono HYa3Z.out.size))) (HZ9.out w' hb))
    have HKE := Lib.hid (fun (w' : World) (hb : Below (World.heap (World.alloc u3 (regObj A8 nx8 c8 b8 K8 nb8 e8))).size (World.alloc u3 (regObj A8 nx8 c8 b8 K8 nb8 e8)) w') => show w'.cell? ⟨w.heap.size, 0, none⟩ = some (.slice A0 nx0 c0) ∧ w'.cell? ⟨w.heap.size, 1, none⟩ = some (.bool b0) ∧ w'.cell? ⟨w.heap.size, 2, none⟩ = some (.slice K0 nb0 e0) ∧ w'.cell? ⟨u2.heap.size, 0, none⟩ = some (.slice A9 nx9 c9) ∧ w'.cell? ⟨u2.heap.size, 1, none⟩ = some (.bool b9) ∧ w'.cell? ⟨u2.heap.size, 2, none⟩ = some (.slice K9 nb9 e9) ∧ w'.cell? ⟨u3.heap.size, 0, none⟩ = some (.slice A8 nx8 c8) ∧ w'.cell? ⟨u3.heap.size, 1, none⟩ = some (.bool b8) ∧ w'.cell? ⟨u3.heap.size, 2, none⟩ = some (.slice K8 nb8 e8) from ⟨(hke w' hb).1.c0, (hke w' hb).1.c1, (hke w' hb).1.c2, (hke w' hb).2.1.c0, (hke w' hb).2.1.c1, (hke w' hb).2.1.c2, (hke w' hb).2.2.c0, (hke w' hb).2.2.c1, (hke w' hb).2.2.c2⟩)
    clear hke
    go_upto_region 7 with fail
    generalize hV : World.alloc u3 (regObj A8 nx8 c8 b8 K8 nb8 e8) = V at *
    have G1 := Lib.hid (fun (w' : World) (hb : Below V.heap.size V w') => HSame.out w' (HTa3Z.out.trans (hb.mono HTa3Z.out.size)) (HUa3Z.out.trans (hb.mono HUa3Z.out.size)))
    have G2 := Lib.hid (fun (w' : World) (hb : Below V.heap.size V w') => HH9.out w' (HUa3Z.out.trans (hb.mono HUa3Z.out.size)) (HXa3Z.out.trans (hb.mono HXa3Z.out.size)))
    have G3 := Lib.hid (fun (w' : World) (hb : Below V.heap.size V w') => HH.out w' (HXa3Z.out.trans (hb.mono HXa3Z.out.size)))
    cases r
    all_goals
      set_option maxRecDepth 100000 in
      go_region_held3 (fun w' => w'.cell? ⟨w.heap.size, 0, none⟩ = some (.slice A0 nx0 c0) ∧ w'.cell? ⟨w.heap.size, 1, none⟩ = some (.bool b0) ∧ w'.cell? ⟨w.heap.size, 2, none⟩ = some (.slice K0 nb0 e0) ∧ w'.cell? ⟨u2.heap.size, 0, none⟩ = some (.slice A9 nx9 c9) ∧ w'.cell? ⟨u2.heap.size, 1, none⟩ = some (.bool b9) ∧ w'.cell? ⟨u2.heap.size, 2, none⟩ = some (.slice K9 nb9 e9) ∧ w'.cell? ⟨u3.heap.size, 0, none⟩ = some (.slice A8 nx8 c8) ∧ w'.cell? ⟨u3.heap.size, 1, none⟩ = some (.bool b8) ∧ w'.cell? ⟨u3.heap.size, 2, none⟩ = some (.slice K8 nb8 e8))
        (first | exact HKE.out _ b8_ | exact HKE.out _ b7_ | exact HKE.out _ b6_ | exact HKE.out _ b5_ | exact HKE.out _ (below_drew (Below.refl _ _)) | exact HKE.out _ (Below.refl _ _) | go_keep)
        (first
          | (go_at_call 16; with_reducible refine (HAw.out _).mono ?_; intro e w8 hh; unfold GivesBB at hh; obtain ⟨rfl, hb8⟩ := hh
             have b8_ : Below V.heap.size V w8 := b7_.trans (hb8.mono b7_.size))
          | (go_at_call 29; have hcc := G3.out _ b6_; with_reducible refine hcc.mono ?_; intro e w7 hh; unfold GivesBB at hh; obtain ⟨rfl, hb7⟩ := hh
             have b7_ : Below V.heap.size V w7 := b6_.trans (hb7.mono b6_.size))
          | (go_at_call 29; have hcc := G2.out _ b5_; with_reducible refine hcc.mono ?_; intro e w6 hh; unfold GivesBB at hh; obtain ⟨rfl, hb6⟩ := hh
             have b6_ : Below V.heap.size V w6 := b5_.trans (hb6.mono b5_.size))
          | (go_at_call 19; have hcc := G1.out _ (below_drew (Below.refl _ _)); with_reducible refine hcc.mono ?_; intro e w5 hh; unfold GivesBB at hh; obtain ⟨rfl, hb5⟩ := hh
             have b5_ : Below V.heap.size V w5 := (below_drew (Below.refl _ _)).trans hb5))
      go_wp2
      go_ret
      exact ⟨rfl, HAL.out.trans ((HXa3Z.out.trans (b8_.mono HXa3Z.out.size)).mono HAL.out.size)⟩

end Go.Proofs.YtpdkecchpidhdaaGreatDoor.regionKeeps
