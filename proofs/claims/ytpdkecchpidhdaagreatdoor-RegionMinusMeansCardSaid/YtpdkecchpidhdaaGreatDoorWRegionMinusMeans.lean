/- RegionMinusMeans returns true at every two regions and every string (the card: the variables that it lists hold what the program text lays). Conditions: none of its own. -/
import Derived.Test.YtpdkecchpidhdaaGreatDoorCards
import Derived.Test.YtpdkecchpidhdaaGreatDoorTie
import Derived.WalkKit
import Derived.ProofKit
import Derived.OpenShut
import Derived.ShutString
import Derived.Test.YtpdkecchpidhdaaGreatDoorPatOpen
import Derived.Test.YtpdkecchpidhdaaGreatDoorRegOpen
import Derived.Test.YtpdkecchpidhdaaGreatDoorRegAwake
import Derived.Test.YtpdkecchpidhdaaGreatDoorRegMinusL
namespace Go.Proofs.YtpdkecchpidhdaaGreatDoor.regionMinusMeans
open Go.ChangeShapes Go.WideShapes Go.ChangeAt Go.RowKit
open Go.ChangeMaps (open_string shut_string)
set_option linter.unusedVariables false

set_option maxHeartbeats 8000000 in
theorem walk (w : World) (A0 : Option Addr) (xs0 : List ByteArray) (c0 : Nat) (b0 : Bool) (K0 : Option Addr) (bl0 : List BindV) (e0 : Nat) (hg0 : RegR w A0 xs0 c0 b0 K0 bl0 e0 ⟨⟨bs xs0, b0⟩, bl0.map BindV.pat⟩) (hz0 : ∀ x ∈ xs0, x.size ≤ 140737488355000) (hy0 : ∀ x ∈ bl0, ∀ y ∈ x.xs, y.size ≤ 140737488355000) (hx0 : xs0.length ≤ 140737488355328) (hl0 : ∀ x ∈ bl0, x.xs.length ≤ 140737488355328) (A1 : Option Addr) (xs1 : List ByteArray) (c1 : Nat) (b1 : Bool) (K1 : Option Addr) (bl1 : List BindV) (e1 : Nat) (hg1 : RegR w A1 xs1 c1 b1 K1 bl1 e1 ⟨⟨bs xs1, b1⟩, bl1.map BindV.pat⟩) (hz1 : ∀ x ∈ xs1, x.size ≤ 140737488355000) (hy1 : ∀ x ∈ bl1, ∀ y ∈ x.xs, y.size ≤ 140737488355000) (hx1 : xs1.length ≤ 140737488355328) (hl1 : ∀ x ∈ bl1, x.xs.length ≤ 140737488355328) (s2 : ByteArray) (w2 : s2.size ≤ maxLen) (hm : MaxL w) :
    Calls Tryz.prog 10 #[regV A0 xs0.length c0 b0 K0 bl0.length e0, regV A1 xs1.length c1 b1 K1 bl1.length e1, .string s2] w fun e w' => e = .returned (.bool true) ∧ Below w.heap.size w w' := by
  obtain ⟨W0, hW0⟩ : ∃ W0, W0 = (w.alloc (regObj A0 xs0.length c0 b0 K0 bl0.length e0)).alloc (regObj A1 xs1.length c1 b1 K1 bl1.length e1) := ⟨_, rfl⟩
  have hal : Below w.heap.size w W0 := by rw [hW0]; exact ((Below.refl _ _).alloc (Nat.le_refl _) _).alloc (by simp) _
  have HX0 := Lib.hid (Below.refl W0.heap.size W0)
  have HAL := Lib.hid hal
  have hgb0 : GBox W0 w.heap.size A0 xs0.length c0 b0 K0 bl0.length e0 := by rw [hW0]; exact (GBox.new ..).keep ((Below.refl _ _).alloc (Nat.le_refl _) _)
  have hgb1 : GBox W0 (w.heap.size + 1) A1 xs1.length c1 b1 K1 bl1.length e1 := by
    have h := GBox.new (w.alloc (regObj A0 xs0.length c0 b0 K0 bl0.length e0)) A1 xs1.length c1 b1 K1 bl1.length e1
    rw [hW0]
    simpa using h
  have HB0 := Lib.hid (fun (w' : World) (hb : Below W0.heap.size W0 w') => hgb0.keep hb)
  have HB1 := Lib.hid (fun (w' : World) (hb : Below W0.heap.size W0 w') => hgb1.keep hb)
  have hm0 := hm.keep hal hm.size
  have HMX := Lib.hid (fun (w' : World) (hb : Below W0.heap.size W0 w') => hm0.keep hb hm0.size)
  have HAw := Lib.hid (fun (w' : World) => awake5_any w')
  have HSm0 := Lib.hid (fun (w' : World) (hb : Below W0.heap.size W0 w') => small5_any A0 xs0 c0 b0 K0 bl0 e0 _ w' (hg0.keep (hal.trans (hb.mono hal.size))) hx0 hl0)
  have HSm1 := Lib.hid (fun (w' : World) (hb : Below W0.heap.size W0 w') => small5_any A1 xs1 c1 b1 K1 bl1 e1 _ w' (hg1.keep (hal.trans (hb.mono hal.size))) hx1 hl1)
  generalize hs0 : smallG xs0 bl0 = sm0 at HSm0
  cases sm0 with
  | false =>
    clear hg0 hz0 hy0 hx0 hl0
    clear hg1 hz1 hy1 hx1 hl1
    clear hs0
    generalize xs0.length = nx0 at *
    generalize bl0.length = nb0 at *
    generalize xs1.length = nx1 at *
    generalize bl1.length = nb1 at *
    obtain ⟨k0_0, k1_0, k2_0, kl_0⟩ := hgb0
    obtain ⟨k0_1, k1_1, k2_1, kl_1⟩ := hgb1
    subst hW0
    clear hal hm0
    go_enter Tryz.func10, Tryz.ntmps10
    go_wp2_with fail
    with_reducible refine (HSm0.out _ HX0.out).mono ?_
    rintro en u1 ⟨rfl, hb1⟩
    have hX1 := HX0.out.trans (hb1.mono HX0.out.size)
    have HX1 := Lib.hid hX1
    obtain ⟨k0_HB01, k1_HB01, k2_HB01, kl_HB01⟩ := HB0.out _ hX1
    obtain ⟨k0_HB11, k1_HB11, k2_HB11, kl_HB11⟩ := HB1.out _ hX1
    have z1 := hX1.size
    simp only [World.alloc, Array.size_push] at z1
    clear hb1 hX1 k0_0 k1_0 k2_0 k0_1 k1_1 k2_1 kl_0 kl_1
    go_wp2_with fail
    with_reducible refine (HAw.out _).mono ?_
    rintro en u2 ⟨rfl, hb2⟩
    have hX2 := HX1.out.trans (hb2.mono HX1.out.size)
    have HX2 := Lib.hid hX2
    obtain ⟨k0_HB02, k1_HB02, k2_HB02, kl_HB02⟩ := HB0.out _ hX2
    obtain ⟨k0_HB12, k1_HB12, k2_HB12, kl_HB12⟩ := HB1.out _ hX2
    have z2 := hX2.size
    simp only [World.alloc, Array.size_push] at z2
    clear hb2 hX2 k0_HB01 k1_HB01 k2_HB01 kl_HB01 k0_HB11 k1_HB11 k2_HB11 kl_HB11
    go_wp2
    go_ret
    exact ⟨rfl, HAL.out.trans (HX2.out.mono HAL.out.size)⟩
  | true =>
    have sz0 := small_szG (b := b0) hs0
    obtain ⟨f0, f0a, f0b, f0c, f0d⟩ := smallG_facts hs0
    clear hs0
    generalize hs1 : smallG xs1 bl1 = sm1 at HSm1
    cases sm1 with
    | false =>
      clear hg0 hz0 hy0 hx0 hl0
      clear hg1 hz1 hy1 hx1 hl1
      clear hs1 f0 f0a f0b f0c f0d sz0
      generalize xs0.length = nx0 at *
      generalize bl0.length = nb0 at *
      generalize xs1.length = nx1 at *
      generalize bl1.length = nb1 at *
      obtain ⟨k0_0, k1_0, k2_0, kl_0⟩ := hgb0
      obtain ⟨k0_1, k1_1, k2_1, kl_1⟩ := hgb1
      subst hW0
      clear hal hm0
      go_enter Tryz.func10, Tryz.ntmps10
      go_wp2_with fail
      with_reducible refine (HSm0.out _ HX0.out).mono ?_
      rintro en u1 ⟨rfl, hb1⟩
      have hX1 := HX0.out.trans (hb1.mono HX0.out.size)
      have HX1 := Lib.hid hX1
      obtain ⟨k0_HB01, k1_HB01, k2_HB01, kl_HB01⟩ := HB0.out _ hX1
      obtain ⟨k0_HB11, k1_HB11, k2_HB11, kl_HB11⟩ := HB1.out _ hX1
      have z1 := hX1.size
      simp only [World.alloc, Array.size_push] at z1
      clear hb1 hX1 k0_0 k1_0 k2_0 k0_1 k1_1 k2_1 kl_0 kl_1
      go_wp2_with fail
      with_reducible refine (HSm1.out _ HX1.out).mono ?_
      rintro en u2 ⟨rfl, hb2⟩
      have hX2 := HX1.out.trans (hb2.mono HX1.out.size)
      have HX2 := Lib.hid hX2
      obtain ⟨k0_HB02, k1_HB02, k2_HB02, kl_HB02⟩ := HB0.out _ hX2
      obtain ⟨k0_HB12, k1_HB12, k2_HB12, kl_HB12⟩ := HB1.out _ hX2
      have z2 := hX2.size
      simp only [World.alloc, Array.size_push] at z2
      clear hb2 hX2 k0_HB01 k1_HB01 k2_HB01 kl_HB01 k0_HB11 k1_HB11 k2_HB11 kl_HB11
      go_wp2_with fail
      with_reducible refine (HAw.out _).mono ?_
      rintro en u3 ⟨rfl, hb3⟩
      have hX3 := HX2.out.trans (hb3.mono HX2.out.size)
      have HX3 := Lib.hid hX3
      obtain ⟨k0_HB03, k1_HB03, k2_HB03, kl_HB03⟩ := HB0.out _ hX3
      obtain ⟨k0_HB13, k1_HB13, k2_HB13, kl_HB13⟩ := HB1.out _ hX3
      have z3 := hX3.size
      simp only [World.alloc, Array.size_push] at z3
      clear hb3 hX3 k0_HB02 k1_HB02 k2_HB02 kl_HB02 k0_HB12 k1_HB12 k2_HB12 kl_HB12
      go_wp2
      go_ret
      exact ⟨rfl, HAL.out.trans (HX3.out.mono HAL.out.size)⟩
    | true =>
      have sz1 := small_szG (b := b1) hs1
      obtain ⟨f1, f1a, f1b, f1c, f1d⟩ := smallG_facts hs1
      clear hs1
      by_cases h300 : s2.size ≤ 300
      rotate_left
      · have i3 : (300 : Int) < (s2.size : Int) := by omega
        clear hg0 hz0 hy0 hx0 hl0
        clear hg1 hz1 hy1 hx1 hl1
        clear sz0 f0 f0a f0b f0c f0d sz1 f1 f1a f1b f1c f1d
        clear h300
        generalize xs0.length = nx0 at *
        generalize bl0.length = nb0 at *
        generalize xs1.length = nx1 at *
        generalize bl1.length = nb1 at *
        obtain ⟨k0_0, k1_0, k2_0, kl_0⟩ := hgb0
        obtain ⟨k0_1, k1_1, k2_1, kl_1⟩ := hgb1
        subst hW0
        clear hal hm0
        go_enter Tryz.func10, Tryz.ntmps10
        go_wp2_with fail
        with_reducible refine (HSm0.out _ HX0.out).mono ?_
        rintro en u1 ⟨rfl, hb1⟩
        have hX1 := HX0.out.trans (hb1.mono HX0.out.size)
        have HX1 := Lib.hid hX1
        obtain ⟨k0_HB01, k1_HB01, k2_HB01, kl_HB01⟩ := HB0.out _ hX1
        obtain ⟨k0_HB11, k1_HB11, k2_HB11, kl_HB11⟩ := HB1.out _ hX1
        have z1 := hX1.size
        simp only [World.alloc, Array.size_push] at z1
        clear hb1 hX1 k0_0 k1_0 k2_0 k0_1 k1_1 k2_1 kl_0 kl_1
        go_wp2_with fail
        with_reducible refine (HSm1.out _ HX1.out).mono ?_
        rintro en u2 ⟨rfl, hb2⟩
        have hX2 := HX1.out.trans (hb2.mono HX1.out.size)
        have HX2 := Lib.hid hX2
        obtain ⟨k0_HB02, k1_HB02, k2_HB02, kl_HB02⟩ := HB0.out _ hX2
        obtain ⟨k0_HB12, k1_HB12, k2_HB12, kl_HB12⟩ := HB1.out _ hX2
        have z2 := hX2.size
        simp only [World.alloc, Array.size_push] at z2
        clear hb2 hX2 k0_HB01 k1_HB01 k2_HB01 kl_HB01 k0_HB11 k1_HB11 k2_HB11 kl_HB11
        go_wp2_with fail
        with_reducible refine (HAw.out _).mono ?_
        rintro en u3 ⟨rfl, hb3⟩
        have hX3 := HX2.out.trans (hb3.mono HX2.out.size)
        have HX3 := Lib.hid hX3
        obtain ⟨k0_HB03, k1_HB03, k2_HB03, kl_HB03⟩ := HB0.out _ hX3
        obtain ⟨k0_HB13, k1_HB13, k2_HB13, kl_HB13⟩ := HB1.out _ hX3
        have z3 := hX3.size
        simp only [World.alloc, Array.size_push] at z3
        clear hb3 hX3 k0_HB02 k1_HB02 k2_HB02 kl_HB02 k0_HB12 k1_HB12 k2_HB12 kl_HB12
        go_wp2
        go_ret
        exact ⟨rfl, HAL.out.trans (HX3.out.mono HAL.out.size)⟩
      have i3 : ¬ (300 : Int) < (s2.size : Int) := by omega
      have h4 : s2.size < 4294967281 := by omega
      clear h300
      obtain ⟨g0, hgg0⟩ : ∃ g : Pt.Rg.Reg, g = ⟨⟨bs xs0, b0⟩, bl0.map BindV.pat⟩ := ⟨_, rfl⟩
      rw [← hgg0] at hg0 sz0
      clear hgg0
      obtain ⟨g1, hgg1⟩ : ∃ g : Pt.Rg.Reg, g = ⟨⟨bs xs1, b1⟩, bl1.map BindV.pat⟩ := ⟨_, rfl⟩
      rw [← hgg1] at hg1 sz1
      clear hgg1
      obtain ⟨p0, h_p0⟩ : ∃ x, x = (decide (Pt.Rg.gcheck g0 = 0) && g0.has s2.data.toList) := ⟨_, rfl⟩
      obtain ⟨p1, h_p1⟩ : ∃ x, x = (decide (Pt.Rg.gcheck g1 = 0) && g1.has s2.data.toList) := ⟨_, rfl⟩
      have HH0 := Lib.hid (fun (w' : World) (hb : Below W0.heap.size W0 w') => show Calls Tryz.prog 29 #[regV A0 xs0.length c0 b0 K0 bl0.length e0, .string s2] w' (GivesBB w' p0) from by rw [h_p0]; exact ghas_any A0 xs0 c0 b0 K0 bl0 e0 g0 s2 w' (hg0.keep (hal.trans (hb.mono hal.size))) h4 (hm0.keep hb hm0.size))
      have HH1 := Lib.hid (fun (w' : World) (hb : Below W0.heap.size W0 w') => show Calls Tryz.prog 29 #[regV A1 xs1.length c1 b1 K1 bl1.length e1, .string s2] w' (GivesBB w' p1) from by rw [h_p1]; exact ghas_any A1 xs1 c1 b1 K1 bl1 e1 g1 s2 w' (hg1.keep (hal.trans (hb.mono hal.size))) h4 (hm0.keep hb hm0.size))
      have HMI := Lib.hid (fun (w' : World) (hb : Below W0.heap.size W0 w') => minus5_any A0 A1 xs0 xs1 c0 c1 b0 b1 K0 K1 bl0 bl1 e0 e1 g0 g1 w' (hg0.keep (hal.trans (hb.mono hal.size))) (hg1.keep (hal.trans (hb.mono hal.size))) (sz0.more2 (by decide)) (sz1.more2 (by decide)))
      rcases minus_pure g0 g1 s2.data.toList (sz0.more2 (by decide)) (sz1.more2 (by decide)) with ⟨n, hmn, hn0⟩ | ⟨r, hmr, hc0, hc1, hall, hcnt⟩
      · rw [hmn] at HMI
        have i1 : ((n : Int) == 0) = false := by rw [beq_eq_false_iff_ne]; omega
        have i2 : ((n : Int) != 0) = true := by rw [bne, i1]; rfl
        clear hmn hn0 h_p0 h_p1
        clear hg0 hz0 hy0 hx0 hl0
        clear hg1 hz1 hy1 hx1 hl1
        clear sz0 f0 f0a f0b f0c f0d sz1 f1 f1a f1b f1c f1d h4
        generalize xs0.length = nx0 at *
        generalize bl0.length = nb0 at *
        generalize xs1.length = nx1 at *
        generalize bl1.length = nb1 at *
        obtain ⟨k0_0, k1_0, k2_0, kl_0⟩ := hgb0
        obtain ⟨k0_1, k1_1, k2_1, kl_1⟩ := hgb1
        subst hW0
        clear hal hm0
        go_enter Tryz.func10, Tryz.ntmps10
        go_wp2_with fail
        with_reducible refine (HSm0.out _ HX0.out).mono ?_
        rintro en u1 ⟨rfl, hb1⟩
        have hX1 := HX0.out.trans (hb1.mono HX0.out.size)
        have HX1 := Lib.hid hX1
        obtain ⟨k0_HB01, k1_HB01, k2_HB01, kl_HB01⟩ := HB0.out _ hX1
        obtain ⟨k0_HB11, k1_HB11, k2_HB11, kl_HB11⟩ := HB1.out _ hX1
        have z1 := hX1.size
        simp only [World.alloc, Array.size_push] at z1
        clear hb1 hX1 k0_0 k1_0 k2_0 k0_1 k1_1 k2_1 kl_0 kl_1
        go_wp2_with fail
        with_reducible refine (HSm1.out _ HX1.out).mono ?_
        rintro en u2 ⟨rfl, hb2⟩
        have hX2 := HX1.out.trans (hb2.mono HX1.out.size)
        have HX2 := Lib.hid hX2
        obtain ⟨k0_HB02, k1_HB02, k2_HB02, kl_HB02⟩ := HB0.out _ hX2
        obtain ⟨k0_HB12, k1_HB12, k2_HB12, kl_HB12⟩ := HB1.out _ hX2
        have z2 := hX2.size
        simp only [World.alloc, Array.size_push] at z2
        clear hb2 hX2 k0_HB01 k1_HB01 k2_HB01 kl_HB01 k0_HB11 k1_HB11 k2_HB11 kl_HB11
        go_wp2_with fail
        with_reducible refine (HMI.out _ HX2.out).mono ?_
        rintro en u3 ⟨rfl, hb3⟩
        have hX3 := HX2.out.trans (hb3.mono HX2.out.size)
        have HX3 := Lib.hid hX3
        obtain ⟨k0_HB03, k1_HB03, k2_HB03, kl_HB03⟩ := HB0.out _ hX3
        obtain ⟨k0_HB13, k1_HB13, k2_HB13, kl_HB13⟩ := HB1.out _ hX3
        have z3 := hX3.size
        simp only [World.alloc, Array.size_push] at z3
        clear hb3 hX3 k0_HB02 k1_HB02 k2_HB02 kl_HB02 k0_HB12 k1_HB12 k2_HB12 kl_HB12
        go_wp2_with fail
        with_reducible refine (HAw.out _).mono ?_
        rintro en u4 ⟨rfl, hb4⟩
        have hX4 := HX3.out.trans (hb4.mono HX3.out.size)
        have HX4 := Lib.hid hX4
        obtain ⟨k0_HB04, k1_HB04, k2_HB04, kl_HB04⟩ := HB0.out _ hX4
        obtain ⟨k0_HB14, k1_HB14, k2_HB14, kl_HB14⟩ := HB1.out _ hX4
        have z4 := hX4.size
        simp only [World.alloc, Array.size_push] at z4
        clear hb4 hX4 k0_HB03 k1_HB03 k2_HB03 kl_HB03 k0_HB13 k1_HB13 k2_HB13 kl_HB13
        go_wp2
        go_ret
        exact ⟨rfl, HAL.out.trans (HX4.out.mono HAL.out.size)⟩
      · rw [hmr] at HMI
        rw [hc0, decide_eq_true rfl, Bool.true_and] at h_p0
        rw [hc1, decide_eq_true rfl, Bool.true_and] at h_p1
        rw [← h_p0, ← h_p1] at hcnt
        have HALL := Lib.hid hall
        have HCNT := Lib.hid hcnt
        have H4 := Lib.hid h4
        clear hmr hc0 hc1 hall hcnt h_p0 h_p1
        clear hg0 hz0 hy0 hx0 hl0
        clear hg1 hz1 hy1 hx1 hl1
        clear sz0 f0 f0a f0b f0c f0d sz1 f1 f1a f1b f1c f1d h4
        generalize xs0.length = nx0 at *
        generalize bl0.length = nb0 at *
        generalize xs1.length = nx1 at *
        generalize bl1.length = nb1 at *
        obtain ⟨k0_0, k1_0, k2_0, kl_0⟩ := hgb0
        obtain ⟨k0_1, k1_1, k2_1, kl_1⟩ := hgb1
        subst hW0
        clear hal hm0
        go_enter Tryz.func10, Tryz.ntmps10
        go_wp2_with fail
        with_reducible refine (HSm0.out _ HX0.out).mono ?_
        rintro en u1 ⟨rfl, hb1⟩
        have hX1 := HX0.out.trans (hb1.mono HX0.out.size)
        have HX1 := Lib.hid hX1
        obtain ⟨k0_HB01, k1_HB01, k2_HB01, kl_HB01⟩ := HB0.out _ hX1
        obtain ⟨k0_HB11, k1_HB11, k2_HB11, kl_HB11⟩ := HB1.out _ hX1
        have z1 := hX1.size
        simp only [World.alloc, Array.size_push] at z1
        clear hb1 hX1 k0_0 k1_0 k2_0 k0_1 k1_1 k2_1 kl_0 kl_1
        go_wp2_with fail
        with_reducible refine (HSm1.out _ HX1.out).mono ?_
        rintro en u2 ⟨rfl, hb2⟩
        have hX2 := HX1.out.trans (hb2.mono HX1.out.size)
        have HX2 := Lib.hid hX2
        obtain ⟨k0_HB02, k1_HB02, k2_HB02, kl_HB02⟩ := HB0.out _ hX2
        obtain ⟨k0_HB12, k1_HB12, k2_HB12, kl_HB12⟩ := HB1.out _ hX2
        have z2 := hX2.size
        simp only [World.alloc, Array.size_push] at z2
        clear hb2 hX2 k0_HB01 k1_HB01 k2_HB01 kl_HB01 k0_HB11 k1_HB11 k2_HB11 kl_HB11
        go_wp2_with fail
        with_reducible refine (HMI.out _ HX2.out).mono ?_
        rintro en u3 ⟨A9, ol, c9, rfl, hol, hown, hb3, hfr⟩
        have hX3 := HX2.out.trans (hb3.mono HX2.out.size)
        have HX3 := Lib.hid hX3
        obtain ⟨k0_HB03, k1_HB03, k2_HB03, kl_HB03⟩ := HB0.out _ hX3
        obtain ⟨k0_HB13, k1_HB13, k2_HB13, kl_HB13⟩ := HB1.out _ hX3
        have z3 := hX3.size
        simp only [World.alloc, Array.size_push] at z3
        have HOL := Lib.hid hol
        obtain ⟨A8, c8, hv8, hrd8, _⟩ := hown.rd
        injection hv8 with hA8 _ hc8
        subst hA8 hc8
        have HRD := Lib.hid hrd8
        obtain ⟨n9, hn9⟩ : ∃ n, n = ol.length := ⟨_, rfl⟩
        have HN9 := Lib.hid hn9
        have i3b : (n9 : Int) ≤ 9223372036854775807 := by have h1 := hrd8.le; have h2 := hrd8.cm; unfold maxLen at h2; omega
        rw [← hn9]
        clear hol hown hfr hrd8 hn9
        clear hb3 hX3 k0_HB02 k1_HB02 k2_HB02 kl_HB02 k0_HB12 k1_HB12 k2_HB12 kl_HB12
        go_wp2
        go_loopg [40, 9] n9 (fun gg s40 s9 wx => ∃ k q : Nat, k + gg = n9 ∧ s40 = .int .i64 (k : Int) ∧ s9 = .int .i64 (q : Int) ∧ q ≤ k ∧ Below u3.heap.size u3 wx ∧ Aside (q = ((ol.take k).filter fun x => x.reg.has s2.data.toList).length))
        case atStart => exact ⟨0, 0, by omega, rfl, rfl, Nat.le_refl _, Below.refl _ _, rfl⟩
        case round =>
          obtain ⟨k, q, hk, rfl, rfl, hqk, hbw, HA⟩ := hrel
          have hxw := HX3.out.trans (hbw.mono HX3.out.size)
          have HXW := Lib.hid hxw
          have HBW := Lib.hid hbw
          have HQ := Lib.hid HA.out
          obtain ⟨d00, d01, d02, d0l⟩ := HB0.out _ hxw
          obtain ⟨d10, d11, d12, d1l⟩ := HB1.out _ hxw
          by_cases hkn : k < n9
          · have j1 : (k : Int) < (n9 : Int) := by omega
            have hko : k < ol.length := by rw [← HN9.out]; exact hkn
            obtain ⟨q9, o9, hA9, hq9, hcell⟩ := (HRD.out.keep hbw).at (by omega)
            obtain ⟨f0, f1, f2⟩ := hcell k hko
            obtain ⟨W2, hW2⟩ : ∃ W2, W2 = wr.alloc (.cells #[.slice ol[k].A ol[k].xs.length ol[k].c, .bool ol[k].b, .slice ol[k].H ol[k].bl.length ol[k].e] 27) := ⟨_, rfl⟩
            have hal2 : Below wr.heap.size wr W2 := by rw [hW2]; exact (Below.refl _ _).alloc (Nat.le_refl _) _
            have HAL2 := Lib.hid hal2
            have hx2 := hxw.trans (hal2.mono hxw.size)
            have HX2 := Lib.hid hx2
            have hgb2 : GBox W2 wr.heap.size ol[k].A ol[k].xs.length ol[k].c ol[k].b ol[k].H ol[k].bl.length ol[k].e := by rw [hW2]; exact GBox.new ..
            have HB2 := Lib.hid (fun (w' : World) (hb : Below W2.heap.size W2 w') => hgb2.keep hb)
            have hR : RegV.R W2 ol[k] := (HRD.out.keep (hbw.trans (hal2.mono hbw.size))).parts _ (List.getElem_mem hko)
            obtain ⟨z1, z2, z3⟩ := HALL.out ol[k].reg (by rw [← HOL.out]; exact List.mem_map_of_mem (List.getElem_mem hko))
            have hH := ghas_any ol[k].A ol[k].xs ol[k].c ol[k].b ol[k].H ol[k].bl ol[k].e ol[k].reg s2 W2 hR H4.out (HMX.out _ hx2)
            rw [z1, decide_eq_true rfl, Bool.true_and] at hH
            have HTC := Lib.hid (take_count ol (fun x => x.reg.has s2.data.toList) k hko)
            have HC2 := Lib.hid (fun (w' : World) (hb : Below W2.heap.size W2 w') => show Calls Tryz.prog 21 #[regV ol[k].A ol[k].xs.length ol[k].c ol[k].b ol[k].H ol[k].bl.length ol[k].e] w' (GivesTBN w' false 0) from by
              have h := empty_any ol[k].A ol[k].xs ol[k].c ol[k].b ol[k].H ol[k].bl ol[k].e ol[k].reg w' (hR.keep hb) z3
              rw [z2, z1] at h
              exact h)
            generalize hv : ol[k].reg.has s2.data.toList = v at hH HTC
            have HC1 := Lib.hid hH
            obtain ⟨g0', g1', g2', gl'⟩ := hgb2
            generalize ol[k] = yk at *
            generalize yk.xs.length = nxk at *
            generalize yk.bl.length = nbk at *
            subst hA9
            clear hcell hR z1 z2 z3 hH hv hx2 hxw hal2 hbw HA g0' g1' g2' gl'
            go_wp2_with fail
            subst hW2
            with_reducible refine HC1.out.mono ?_
            rintro en w3 ⟨rfl, hb3⟩
            have HW3 := Lib.hid hb3
            obtain ⟨h20, h21, h22, h2l⟩ := HB2.out _ hb3
            clear hb3 f0 f1 f2 d00 d01 d02 d10 d11 d12
            cases v with
            | false =>
              go_wp2_with fail
              with_reducible refine (HC2.out _ HW3.out).mono ?_
              rintro en w4 ⟨rfl, hb4⟩
              have HW4 := Lib.hid hb4
              clear hb4 h20 h21 h22
              go_wp2
              go_roundg (n9 - (k + 1))
              case measure => go_light; omega
              case rel =>
                go_light
                exact ⟨k + 1, q, by omega, by go_num, rfl, by omega, HBW.out.trans ((HAL2.out.trans ((HW3.out.trans (HW4.out.mono HW3.out.size)).mono HAL2.out.size)).mono HBW.out.size), HQ.out.trans (HTC.out.trans (by simp)).symm⟩
            | true =>
              go_wp2_with fail
              with_reducible refine (HC2.out _ HW3.out).mono ?_
              rintro en w4 ⟨rfl, hb4⟩
              have HW4 := Lib.hid hb4
              clear hb4 h20 h21 h22
              go_wp2
              go_roundg (n9 - (k + 1))
              case measure => go_light; omega
              case rel =>
                go_light
                exact ⟨k + 1, q + 1, by omega, by go_num, by go_num, by omega, HBW.out.trans ((HAL2.out.trans ((HW3.out.trans (HW4.out.mono HW3.out.size)).mono HAL2.out.size)).mono HBW.out.size), (congrArg (· + 1) HQ.out).trans (HTC.out.trans (by simp)).symm⟩
          · have j1 : ¬ (k : Int) < (n9 : Int) := by omega
            have hqv : q = if p0 && !p1 then 1 else 0 := by
              have h1 := HCNT.out
              rw [← HOL.out, List.filter_map, List.length_map] at h1
              have h2 := HQ.out
              rw [List.take_of_length_le (by have := HN9.out; omega)] at h2
              exact h2.trans h1
            have HQV := Lib.hid hqv
            clear HA hbw hxw hk hkn hqk hqv
            cases p0 with
            | false =>
              have hq0 : q = 0 := HQV.out
              clear HQV HQ
              subst hq0
              go_wp2_with fail
              with_reducible refine (HH0.out _ HXW.out).mono ?_
              rintro en w5 ⟨rfl, hb5⟩
              have HW5 := Lib.hid (HXW.out.trans (hb5.mono HXW.out.size))
              clear hb5 d00 d01 d02 d10 d11 d12
              go_wp2_with fail
              with_reducible refine (HAw.out _).mono ?_
              rintro en w6 ⟨rfl, hb6⟩
              have HW6 := Lib.hid (HW5.out.trans (hb6.mono HW5.out.size))
              clear hb6
              go_wp2
              go_ret
              exact ⟨rfl, HAL.out.trans (HW6.out.mono HAL.out.size)⟩
            | true =>
              go_wp2_with fail
              with_reducible refine (HH0.out _ HXW.out).mono ?_
              rintro en w5 ⟨rfl, hb5⟩
              have hw5 := HXW.out.trans (hb5.mono HXW.out.size)
              have HW5 := Lib.hid hw5
              obtain ⟨m10, m11, m12, m1l⟩ := HB1.out _ hw5
              clear hb5 hw5 d00 d01 d02 d10 d11 d12
              cases p1 with
              | false =>
                have hq0 : q = 1 := HQV.out
                clear HQV HQ
                subst hq0
                set_option maxRecDepth 100000 in
                go_wp2_with fail
                with_reducible refine (HH1.out _ HW5.out).mono ?_
                rintro en w7 ⟨rfl, hb7⟩
                have HW7 := Lib.hid (HW5.out.trans (hb7.mono HW5.out.size))
                clear hb7 m10 m11 m12
                set_option maxRecDepth 100000 in
                go_wp2_with fail
                with_reducible refine (HAw.out _).mono ?_
                rintro en w6 ⟨rfl, hb6⟩
                have HW6 := Lib.hid (HW7.out.trans (hb6.mono HW7.out.size))
                clear hb6
                go_wp2
                go_ret
                exact ⟨rfl, HAL.out.trans (HW6.out.mono HAL.out.size)⟩
              | true =>
                have hq0 : q = 0 := HQV.out
                clear HQV HQ
                subst hq0
                set_option maxRecDepth 100000 in
                go_wp2_with fail
                with_reducible refine (HH1.out _ HW5.out).mono ?_
                rintro en w7 ⟨rfl, hb7⟩
                have HW7 := Lib.hid (HW5.out.trans (hb7.mono HW5.out.size))
                clear hb7 m10 m11 m12
                set_option maxRecDepth 100000 in
                go_wp2_with fail
                with_reducible refine (HAw.out _).mono ?_
                rintro en w6 ⟨rfl, hb6⟩
                have HW6 := Lib.hid (HW7.out.trans (hb6.mono HW7.out.size))
                clear hb6
                go_wp2
                go_ret
                exact ⟨rfl, HAL.out.trans (HW6.out.mono HAL.out.size)⟩

end Go.Proofs.YtpdkecchpidhdaaGreatDoor.regionMinusMeans
