/- RegionMeetMeans returns true at every two regions and every string (the card: the variables that it lists hold what the program text lays). Conditions: none of its own. -/
import Derived.Test.YtpdkecchpidhdaaGreatDoorCards
import Derived.Test.YtpdkecchpidhdaaGreatDoorTie
import Derived.WalkKit
import Derived.ProofKit
import Derived.OpenShut
import Derived.ShutString
import Derived.Test.YtpdkecchpidhdaaGreatDoorPatOpen
import Derived.Test.YtpdkecchpidhdaaGreatDoorRegOpen
import Derived.Test.YtpdkecchpidhdaaGreatDoorRegAwake
import Derived.Test.YtpdkecchpidhdaaGreatDoorRegMeetL
namespace Go.Proofs.YtpdkecchpidhdaaGreatDoor.regionMeetMeans
open Go.ChangeShapes Go.WideShapes Go.ChangeAt Go.RowKit
open Go.ChangeMaps (open_string shut_string)
set_option linter.unusedVariables false

set_option maxHeartbeats 8000000 in
theorem walk (w : World) (A0 : Option Addr) (xs0 : List ByteArray) (c0 : Nat) (b0 : Bool) (K0 : Option Addr) (bl0 : List BindV) (e0 : Nat) (hg0 : RegR w A0 xs0 c0 b0 K0 bl0 e0 ⟨⟨bs xs0, b0⟩, bl0.map BindV.pat⟩) (hz0 : ∀ x ∈ xs0, x.size ≤ 140737488355000) (hy0 : ∀ x ∈ bl0, ∀ y ∈ x.xs, y.size ≤ 140737488355000) (hx0 : xs0.length ≤ 140737488355328) (hl0 : ∀ x ∈ bl0, x.xs.length ≤ 140737488355328) (A1 : Option Addr) (xs1 : List ByteArray) (c1 : Nat) (b1 : Bool) (K1 : Option Addr) (bl1 : List BindV) (e1 : Nat) (hg1 : RegR w A1 xs1 c1 b1 K1 bl1 e1 ⟨⟨bs xs1, b1⟩, bl1.map BindV.pat⟩) (hz1 : ∀ x ∈ xs1, x.size ≤ 140737488355000) (hy1 : ∀ x ∈ bl1, ∀ y ∈ x.xs, y.size ≤ 140737488355000) (hx1 : xs1.length ≤ 140737488355328) (hl1 : ∀ x ∈ bl1, x.xs.length ≤ 140737488355328) (s2 : ByteArray) (w2 : s2.size ≤ maxLen) (hm : MaxL w) :
    Calls Tryz.prog 9 #[regV A0 xs0.length c0 b0 K0 bl0.length e0, regV A1 xs1.length c1 b1 K1 bl1.length e1, .string s2] w fun e w' => e = .returned (.bool true) ∧ Below w.heap.size w w' := by
  obtain ⟨W0, hW0⟩ : ∃ W0, W0 = (w.alloc (regObj A0 xs0.length c0 b0 K0 bl0.length e0)).alloc (regObj A1 xs1.length c1 b1 K1 bl1.length e1) := ⟨_, rfl⟩
  have hal : Below w.heap.size w W0 := by rw [hW0]; exact ((Below.refl _ _).alloc (Nat.le_refl _) _).alloc (by simp) _
  have HX0 := Lib.hid (Below.refl W0.heap.size W0)
  have HAL := Lib.hid hal
  have hgb0 : GBox W0 w.heap.size A0 xs0.length c0 b0 K0 bl0.length e0 := by rw [hW0]; exact (GBox.new ..).keep ((Below.refl _ _).alloc (Nat.le_refl _) _)
  have hgb1 : GBox W0 (w.heap.size + 1) A1 xs1.length c1 b1 K1 bl1.length e1 := by
    have h := GBox.new (w.alloc (regObj A0 xs0.length c0 b0 K0 bl0.length e0)) A1 xs1.length c1 b1 K1 bl1.length e1
    rw [hW0]
    simpa using h
  have HB0 := Lib.hid (fun (w' : World) (hb : Below W0.heap.size W0 w') => hgb0.keep hb)
  have HB1 := Lib.hid (fun (w' : World) (hb : Below W0.heap.size W0 w') => hgb1.keep hb)
  have hm0 := hm.keep hal hm.size
  have HMX := Lib.hid (fun (w' : World) (hb : Below W0.heap.size W0 w') => hm0.keep hb hm0.size)
  have HAw := Lib.hid (fun (w' : World) => awake5_any w')
  have HSm0 := Lib.hid (fun (w' : World) (hb : Below W0.heap.size W0 w') => small5_any A0 xs0 c0 b0 K0 bl0 e0 _ w' (hg0.keep (hal.trans (hb.mono hal.size))) hx0 hl0)
  have HSm1 := Lib.hid (fun (w' : World) (hb : Below W0.heap.size W0 w') => small5_any A1 xs1 c1 b1 K1 bl1 e1 _ w' (hg1.keep (hal.trans (hb.mono hal.size))) hx1 hl1)
  generalize hs0 : smallG xs0 bl0 = sm0 at HSm0
  cases sm0 with
  | false =>
    clear hg0 hz0 hy0 hx0 hl0
    clear hg1 hz1 hy1 hx1 hl1
    clear hs0
    generalize xs0.length = nx0 at *
    generalize bl0.length = nb0 at *
    generalize xs1.length = nx1 at *
    generalize bl1.length = nb1 at *
    obtain ⟨k0_0, k1_0, k2_0, kl_0⟩ := hgb0
    obtain ⟨k0_1, k1_1, k2_1, kl_1⟩ := hgb1
    subst hW0
    clear hal hm0
    go_enter Tryz.func9, Tryz.ntmps9
    go_wp2_with fail
    with_reducible refine (HSm0.out _ HX0.out).mono ?_
    rintro en u1 ⟨rfl, hb1⟩
    have hX1 := HX0.out.trans (hb1.mono HX0.out.size)
    have HX1 := Lib.hid hX1
    obtain ⟨k0_HB01, k1_HB01, k2_HB01, kl_HB01⟩ := HB0.out _ hX1
    obtain ⟨k0_HB11, k1_HB11, k2_HB11, kl_HB11⟩ := HB1.out _ hX1
    have z1 := hX1.size
    simp only [World.alloc, Array.size_push] at z1
    clear hb1 hX1 k0_0 k1_0 k2_0 k0_1 k1_1 k2_1 kl_0 kl_1
    go_wp2_with fail
    with_reducible refine (HAw.out _).mono ?_
    rintro en u2 ⟨rfl, hb2⟩
    have hX2 := HX1.out.trans (hb2.mono HX1.out.size)
    have HX2 := Lib.hid hX2
    obtain ⟨k0_HB02, k1_HB02, k2_HB02, kl_HB02⟩ := HB0.out _ hX2
    obtain ⟨k0_HB12, k1_HB12, k2_HB12, kl_HB12⟩ := HB1.out _ hX2
    have z2 := hX2.size
    simp only [World.alloc, Array.size_push] at z2
    clear hb2 hX2 k0_HB01 k1_HB01 k2_HB01 kl_HB01 k0_HB11 k1_HB11 k2_HB11 kl_HB11
    go_wp2
    go_ret
    exact ⟨rfl, HAL.out.trans (HX2.out.mono HAL.out.size)⟩
  | true =>
    have sz0 := small_szG (b := b0) hs0
    obtain ⟨f0, f0a, f0b, f0c, f0d⟩ := smallG_facts hs0
    clear hs0
    generalize hs1 : smallG xs1 bl1 = sm1 at HSm1
    cases sm1 with
    | false =>
      clear hg0 hz0 hy0 hx0 hl0
      clear hg1 hz1 hy1 hx1 hl1
      clear hs1 f0 f0a f0b f0c f0d sz0
      generalize xs0.length = nx0 at *
      generalize bl0.length = nb0 at *
      generalize xs1.length = nx1 at *
      generalize bl1.length = nb1 at *
      obtain ⟨k0_0, k1_0, k2_0, kl_0⟩ := hgb0
      obtain ⟨k0_1, k1_1, k2_1, kl_1⟩ := hgb1
      subst hW0
      clear hal hm0
      go_enter Tryz.func9, Tryz.ntmps9
      go_wp2_with fail
      with_reducible refine (HSm0.out _ HX0.out).mono ?_
      rintro en u1 ⟨rfl, hb1⟩
      have hX1 := HX0.out.trans (hb1.mono HX0.out.size)
      have HX1 := Lib.hid hX1
      obtain ⟨k0_HB01, k1_HB01, k2_HB01, kl_HB01⟩ := HB0.out _ hX1
      obtain ⟨k0_HB11, k1_HB11, k2_HB11, kl_HB11⟩ := HB1.out _ hX1
      have z1 := hX1.size
      simp only [World.alloc, Array.size_push] at z1
      clear hb1 hX1 k0_0 k1_0 k2_0 k0_1 k1_1 k2_1 kl_0 kl_1
      go_wp2_with fail
      with_reducible refine (HSm1.out _ HX1.out).mono ?_
      rintro en u2 ⟨rfl, hb2⟩
      have hX2 := HX1.out.trans (hb2.mono HX1.out.size)
      have HX2 := Lib.hid hX2
      obtain ⟨k0_HB02, k1_HB02, k2_HB02, kl_HB02⟩ := HB0.out _ hX2
      obtain ⟨k0_HB12, k1_HB12, k2_HB12, kl_HB12⟩ := HB1.out _ hX2
      have z2 := hX2.size
      simp only [World.alloc, Array.size_push] at z2
      clear hb2 hX2 k0_HB01 k1_HB01 k2_HB01 kl_HB01 k0_HB11 k1_HB11 k2_HB11 kl_HB11
      go_wp2_with fail
      with_reducible refine (HAw.out _).mono ?_
      rintro en u3 ⟨rfl, hb3⟩
      have hX3 := HX2.out.trans (hb3.mono HX2.out.size)
      have HX3 := Lib.hid hX3
      obtain ⟨k0_HB03, k1_HB03, k2_HB03, kl_HB03⟩ := HB0.out _ hX3
      obtain ⟨k0_HB13, k1_HB13, k2_HB13, kl_HB13⟩ := HB1.out _ hX3
      have z3 := hX3.size
      simp only [World.alloc, Array.size_push] at z3
      clear hb3 hX3 k0_HB02 k1_HB02 k2_HB02 kl_HB02 k0_HB12 k1_HB12 k2_HB12 kl_HB12
      go_wp2
      go_ret
      exact ⟨rfl, HAL.out.trans (HX3.out.mono HAL.out.size)⟩
    | true =>
      have sz1 := small_szG (b := b1) hs1
      obtain ⟨f1, f1a, f1b, f1c, f1d⟩ := smallG_facts hs1
      clear hs1
      by_cases h300 : s2.size ≤ 300
      rotate_left
      · have i3 : (300 : Int) < (s2.size : Int) := by omega
        clear hg0 hz0 hy0 hx0 hl0
        clear hg1 hz1 hy1 hx1 hl1
        clear sz0 f0 f0a f0b f0c f0d sz1 f1 f1a f1b f1c f1d
        clear h300
        generalize xs0.length = nx0 at *
        generalize bl0.length = nb0 at *
        generalize xs1.length = nx1 at *
        generalize bl1.length = nb1 at *
        obtain ⟨k0_0, k1_0, k2_0, kl_0⟩ := hgb0
        obtain ⟨k0_1, k1_1, k2_1, kl_1⟩ := hgb1
        subst hW0
        clear hal hm0
        go_enter Tryz.func9, Tryz.ntmps9
        go_wp2_with fail
        with_reducible refine (HSm0.out _ HX0.out).mono ?_
        rintro en u1 ⟨rfl, hb1⟩
        have hX1 := HX0.out.trans (hb1.mono HX0.out.size)
        have HX1 := Lib.hid hX1
        obtain ⟨k0_HB01, k1_HB01, k2_HB01, kl_HB01⟩ := HB0.out _ hX1
        obtain ⟨k0_HB11, k1_HB11, k2_HB11, kl_HB11⟩ := HB1.out _ hX1
        have z1 := hX1.size
        simp only [World.alloc, Array.size_push] at z1
        clear hb1 hX1 k0_0 k1_0 k2_0 k0_1 k1_1 k2_1 kl_0 kl_1
        go_wp2_with fail
        with_reducible refine (HSm1.out _ HX1.out).mono ?_
        rintro en u2 ⟨rfl, hb2⟩
        have hX2 := HX1.out.trans (hb2.mono HX1.out.size)
        have HX2 := Lib.hid hX2
        obtain ⟨k0_HB02, k1_HB02, k2_HB02, kl_HB02⟩ := HB0.out _ hX2
        obtain ⟨k0_HB12, k1_HB12, k2_HB12, kl_HB12⟩ := HB1.out _ hX2
        have z2 := hX2.size
        simp only [World.alloc, Array.size_push] at z2
        clear hb2 hX2 k0_HB01 k1_HB01 k2_HB01 kl_HB01 k0_HB11 k1_HB11 k2_HB11 kl_HB11
        go_wp2_with fail
        with_reducible refine (HAw.out _).mono ?_
        rintro en u3 ⟨rfl, hb3⟩
        have hX3 := HX2.out.trans (hb3.mono HX2.out.size)
        have HX3 := Lib.hid hX3
        obtain ⟨k0_HB03, k1_HB03, k2_HB03, kl_HB03⟩ := HB0.out _ hX3
        obtain ⟨k0_HB13, k1_HB13, k2_HB13, kl_HB13⟩ := HB1.out _ hX3
        have z3 := hX3.size
        simp only [World.alloc, Array.size_push] at z3
        clear hb3 hX3 k0_HB02 k1_HB02 k2_HB02 kl_HB02 k0_HB12 k1_HB12 k2_HB12 kl_HB12
        go_wp2
        go_ret
        exact ⟨rfl, HAL.out.trans (HX3.out.mono HAL.out.size)⟩
      have i3 : ¬ (300 : Int) < (s2.size : Int) := by omega
      have h4 : s2.size < 4294967281 := by omega
      clear h300
      obtain ⟨g0, hgg0⟩ : ∃ g : Pt.Rg.Reg, g = ⟨⟨bs xs0, b0⟩, bl0.map BindV.pat⟩ := ⟨_, rfl⟩
      rw [← hgg0] at hg0 sz0
      clear hgg0
      obtain ⟨g1, hgg1⟩ : ∃ g : Pt.Rg.Reg, g = ⟨⟨bs xs1, b1⟩, bl1.map BindV.pat⟩ := ⟨_, rfl⟩
      rw [← hgg1] at hg1 sz1
      clear hgg1
      obtain ⟨xg, h_xg⟩ : ∃ x, x = ((Pt.Rg.meetR g0 g1).1.getD zeroG) := ⟨_, rfl⟩
      obtain ⟨j, h_j⟩ : ∃ x, x = ((Pt.Rg.meetR g0 g1).1.isSome) := ⟨_, rfl⟩
      obtain ⟨n, h_n⟩ : ∃ x, x = ((Pt.Rg.meetR g0 g1).2) := ⟨_, rfl⟩
      obtain ⟨n2, h_n2⟩ : ∃ x, x = ((Pt.Rg.meetR g1 g0).2) := ⟨_, rfl⟩
      obtain ⟨xg3, h_xg3⟩ : ∃ x, x = ((Pt.Rg.meetR g0 g0).1.getD zeroG) := ⟨_, rfl⟩
      obtain ⟨j3, h_j3⟩ : ∃ x, x = ((Pt.Rg.meetR g0 g0).1.isSome) := ⟨_, rfl⟩
      obtain ⟨k, h_k⟩ : ∃ x, x = (Pt.Rg.gcheck g0) := ⟨_, rfl⟩
      obtain ⟨sreg, h_sreg⟩ : ∃ x, x = (if Pt.Rg.gcheck g0 = 0 then g0.simp else zeroG) := ⟨_, rfl⟩
      obtain ⟨p0, h_p0⟩ : ∃ x, x = (decide (Pt.Rg.gcheck g0 = 0) && g0.has s2.data.toList) := ⟨_, rfl⟩
      obtain ⟨p1, h_p1⟩ : ∃ x, x = (decide (Pt.Rg.gcheck g1 = 0) && g1.has s2.data.toList) := ⟨_, rfl⟩
      obtain ⟨px, h_px⟩ : ∃ x, x = (decide (Pt.Rg.gcheck xg = 0) && xg.has s2.data.toList) := ⟨_, rfl⟩
      have hP : n = 0 → (j && px) = (p0 && p1) := fun h0 => by rw [h_px, h_j, h_xg, h_p0, h_p1]; exact meet_pure g0 g1 _ (h_n.symm.trans h0)
      obtain ⟨hcm1, hcm2⟩ := meetR_comm g0 g1
      obtain ⟨hsf1, hsf2⟩ := meetR_self g0
      have hN2 : n2 = 0 ↔ n = 0 := by rw [h_n2, h_n]; exact hcm2
      have hX3 : j3 = true → xg3 = sreg := fun h => by rw [h_xg3, h_sreg]; exact hsf2 (h_j3.symm.trans h)
      have HM1 := Lib.hid (fun (w' : World) (hb : Below W0.heap.size W0 w') => show Calls Tryz.prog 24 #[regV A0 xs0.length c0 b0 K0 bl0.length e0, regV A1 xs1.length c1 b1 K1 bl1.length e1] w' (GivesMJ w' xg j n) from by rw [h_xg, h_j, h_n]; exact meet1_any A0 A1 xs0 xs1 c0 c1 b0 b1 K0 K1 bl0 bl1 e0 e1 g0 g1 w' (hg0.keep (hal.trans (hb.mono hal.size))) (hg1.keep (hal.trans (hb.mono hal.size))) (sz0.more (by decide)) (sz1.more (by decide)))
      have HM2 := Lib.hid (fun (w' : World) (hb : Below W0.heap.size W0 w') => show Calls Tryz.prog 24 #[regV A1 xs1.length c1 b1 K1 bl1.length e1, regV A0 xs0.length c0 b0 K0 bl0.length e0] w' (GivesMJ w' xg j n2) from by rw [h_xg, h_j, h_n2, ← hcm1]; exact meet1_any A1 A0 xs1 xs0 c1 c0 b1 b0 K1 K0 bl1 bl0 e1 e0 g1 g0 w' (hg1.keep (hal.trans (hb.mono hal.size))) (hg0.keep (hal.trans (hb.mono hal.size))) (sz1.more (by decide)) (sz0.more (by decide)))
      have HM3 := Lib.hid (fun (w' : World) (hb : Below W0.heap.size W0 w') => show Calls Tryz.prog 24 #[regV A0 xs0.length c0 b0 K0 bl0.length e0, regV A0 xs0.length c0 b0 K0 bl0.length e0] w' (GivesMJ w' xg3 j3 k) from by rw [h_xg3, h_j3, h_k, ← hsf1]; exact meet1_any A0 A0 xs0 xs0 c0 c0 b0 b0 K0 K0 bl0 bl0 e0 e0 g0 g0 w' (hg0.keep (hal.trans (hb.mono hal.size))) (hg0.keep (hal.trans (hb.mono hal.size))) (sz0.more (by decide)) (sz0.more (by decide)))
      have HSI := Lib.hid (fun (w' : World) (hb : Below W0.heap.size W0 w') => show Calls Tryz.prog 17 #[regV A0 xs0.length c0 b0 K0 bl0.length e0] w' (GivesGN w' sreg k) from by rw [h_sreg, h_k]; exact simplify_any A0 xs0 c0 b0 K0 bl0 e0 g0 w' (hg0.keep (hal.trans (hb.mono hal.size))) (sz0.short (by decide)))
      have HH0 := Lib.hid (fun (w' : World) (hb : Below W0.heap.size W0 w') => show Calls Tryz.prog 29 #[regV A0 xs0.length c0 b0 K0 bl0.length e0, .string s2] w' (GivesBB w' p0) from by rw [h_p0]; exact ghas_any A0 xs0 c0 b0 K0 bl0 e0 g0 s2 w' (hg0.keep (hal.trans (hb.mono hal.size))) h4 (hm0.keep hb hm0.size))
      have HH1 := Lib.hid (fun (w' : World) (hb : Below W0.heap.size W0 w') => show Calls Tryz.prog 29 #[regV A1 xs1.length c1 b1 K1 bl1.length e1, .string s2] w' (GivesBB w' p1) from by rw [h_p1]; exact ghas_any A1 xs1 c1 b1 K1 bl1 e1 g1 s2 w' (hg1.keep (hal.trans (hb.mono hal.size))) h4 (hm0.keep hb hm0.size))
      have HHX := Lib.hid (fun (A : Option Addr) (xs : List ByteArray) (c : Nat) (b : Bool) (H : Option Addr) (bl : List BindV) (e : Nat) (w' : World) (hr : RegR w' A xs c b H bl e xg) (hb : Below W0.heap.size W0 w') => show Calls Tryz.prog 29 #[regV A xs.length c b H bl.length e, .string s2] w' (GivesBB w' px) from by rw [h_px]; exact ghas_any A xs c b H bl e xg s2 w' hr h4 (hm0.keep hb hm0.size))
      have HSS := Lib.hid (fun (A : Option Addr) (xs : List ByteArray) (c : Nat) (b : Bool) (H : Option Addr) (bl : List BindV) (e : Nat) (B : Option Addr) (ys : List ByteArray) (d : Nat) (f : Bool) (L : Option Addr) (cl : List BindV) (e2 : Nat) (h : Pt.Rg.Reg) (w' : World) (hr : RegR w' A xs c b H bl e h) (hk : RegR w' B ys d f L cl e2 h) => same_regs A xs c b H bl e B ys d f L cl e2 h w' hr hk)
      obtain ⟨q, hq⟩ : ∃ q : Bool, q = decide (n = 0) := ⟨_, rfl⟩
      have i7 : ((n : Int) == 0) = q := by
        rw [hq]
        by_cases h : n = 0
        · subst h; rfl
        · rw [decide_eq_false h, beq_eq_false_iff_ne]; omega
      have i8 : ((n2 : Int) == 0) = q := by
        rw [hq]
        by_cases h : n = 0
        · rw [hN2.2 h, decide_eq_true h]; rfl
        · have h2 : ¬ n2 = 0 := fun e => h (hN2.1 e)
          rw [decide_eq_false h, beq_eq_false_iff_ne]; omega
      have HP := Lib.hid (show q = true → (j && px) = (p0 && p1) from fun e => hP (of_decide_eq_true (hq.symm.trans e)))
      have HJX := Lib.hid hX3
      clear h_xg h_j h_n h_n2 h_xg3 h_j3 h_k h_sreg h_p0 h_p1 h_px hP hcm1 hcm2 hsf1 hsf2 hN2 hX3 hq
      clear hg0 hz0 hy0 hx0 hl0
      clear hg1 hz1 hy1 hx1 hl1
      clear sz0 f0 f0a f0b f0c f0d sz1 f1 f1a f1b f1c f1d h4
      generalize xs0.length = nx0 at *
      generalize bl0.length = nb0 at *
      generalize xs1.length = nx1 at *
      generalize bl1.length = nb1 at *
      obtain ⟨k0_0, k1_0, k2_0, kl_0⟩ := hgb0
      obtain ⟨k0_1, k1_1, k2_1, kl_1⟩ := hgb1
      subst hW0
      clear hal hm0
      go_enter Tryz.func9, Tryz.ntmps9
      go_wp2_with fail
      with_reducible refine (HSm0.out _ HX0.out).mono ?_
      rintro en u1 ⟨rfl, hb1⟩
      have hX1 := HX0.out.trans (hb1.mono HX0.out.size)
      have HX1 := Lib.hid hX1
      obtain ⟨k0_HB01, k1_HB01, k2_HB01, kl_HB01⟩ := HB0.out _ hX1
      obtain ⟨k0_HB11, k1_HB11, k2_HB11, kl_HB11⟩ := HB1.out _ hX1
      have z1 := hX1.size
      simp only [World.alloc, Array.size_push] at z1
      clear hb1 hX1 k0_0 k1_0 k2_0 k0_1 k1_1 k2_1 kl_0 kl_1
      go_wp2_with fail
      with_reducible refine (HSm1.out _ HX1.out).mono ?_
      rintro en u2 ⟨rfl, hb2⟩
      have hX2 := HX1.out.trans (hb2.mono HX1.out.size)
      have HX2 := Lib.hid hX2
      obtain ⟨k0_HB02, k1_HB02, k2_HB02, kl_HB02⟩ := HB0.out _ hX2
      obtain ⟨k0_HB12, k1_HB12, k2_HB12, kl_HB12⟩ := HB1.out _ hX2
      have z2 := hX2.size
      simp only [World.alloc, Array.size_push] at z2
      clear hb2 hX2 k0_HB01 k1_HB01 k2_HB01 kl_HB01 k0_HB11 k1_HB11 k2_HB11 kl_HB11
      go_wp2_with fail
      with_reducible refine (HM1.out _ HX2.out).mono ?_
      rintro en u3 ⟨A9, xs9, c9, b9, K9, bl9, e9, rfl, hr9, hb3⟩
      have hX3 := HX2.out.trans (hb3.mono HX2.out.size)
      have HX3 := Lib.hid hX3
      obtain ⟨k0_HB03, k1_HB03, k2_HB03, kl_HB03⟩ := HB0.out _ hX3
      obtain ⟨k0_HB13, k1_HB13, k2_HB13, kl_HB13⟩ := HB1.out _ hX3
      have z3 := hX3.size
      simp only [World.alloc, Array.size_push] at z3
      have HR9 := Lib.hid (fun (w' : World) (hb : Below u3.heap.size u3 w') => hr9.keep hb)
      have HSB9 := Lib.hid (fun (B : Option Addr) (ys : List ByteArray) (d : Nat) (f : Bool) (L : Option Addr) (cl : List BindV) (e2 : Nat) (w' : World) (hb : Below u3.heap.size u3 w') (hk : RegR w' B ys d f L cl e2 xg) => HSS.out _ _ _ _ _ _ _ B ys d f L cl e2 xg w' (hr9.keep hb) hk)
      have HH9 := Lib.hid (fun (w' : World) (hb : Below u3.heap.size u3 w') (hb0 : Below _ _ w') => HHX.out _ _ _ _ _ _ _ w' (hr9.keep hb) hb0)
      clear hr9
      generalize xs9.length = nx9 at *
      generalize bl9.length = nb9 at *
      have HU0 := Lib.hid (Below.refl u3.heap.size u3)
      clear hb3 hX3 k0_HB02 k1_HB02 k2_HB02 kl_HB02 k0_HB12 k1_HB12 k2_HB12 kl_HB12
      have ha3Y : Below (World.heap u3).size u3 (World.alloc u3 (regObj A9 nx9 c9 b9 K9 nb9 e9)) := (Below.refl _ _).alloc (Nat.le_refl _) _
      have hXa3Y := HX3.out.trans (ha3Y.mono HX3.out.size)
      have HXa3Y := Lib.hid hXa3Y
      obtain ⟨k0_HB0a3Y, k1_HB0a3Y, k2_HB0a3Y, kl_HB0a3Y⟩ := HB0.out _ hXa3Y
      obtain ⟨k0_HB1a3Y, k1_HB1a3Y, k2_HB1a3Y, kl_HB1a3Y⟩ := HB1.out _ hXa3Y
      have hUa3Y := HU0.out.trans (ha3Y.mono HU0.out.size)
      have HUa3Y := Lib.hid hUa3Y
      have za3Y := hXa3Y.size
      simp only [World.alloc, Array.size_push] at za3Y
      have HBy := Lib.hid (fun (w' : World) (hb : Below (World.heap (World.alloc u3 (regObj A9 nx9 c9 b9 K9 nb9 e9))).size (World.alloc u3 (regObj A9 nx9 c9 b9 K9 nb9 e9)) w') => (GBox.new ..).keep hb)
      have HY0 := Lib.hid (Below.refl (World.heap (World.alloc u3 (regObj A9 nx9 c9 b9 K9 nb9 e9))).size (World.alloc u3 (regObj A9 nx9 c9 b9 K9 nb9 e9)))
      obtain ⟨k0_HBya3Y, k1_HBya3Y, k2_HBya3Y, kl_HBya3Y⟩ := HBy.out _ HY0.out
      clear ha3Y hXa3Y hUa3Y k0_HB03 k1_HB03 k2_HB03 kl_HB03 k0_HB13 k1_HB13 k2_HB13 kl_HB13
      go_upto_region 4 with fail
      generalize hV : World.alloc u3 (regObj A9 nx9 c9 b9 K9 nb9 e9) = V at *
      have hke := fun (w' : World) (hb : Below V.heap.size V w') => And.intro (HB0.out w' (HXa3Y.out.trans (hb.mono HXa3Y.out.size))) (And.intro (HB1.out w' (HXa3Y.out.trans (hb.mono HXa3Y.out.size))) (HBy.out w' hb))
      have HKE := Lib.hid (fun (w' : World) (hb : Below V.heap.size V w') => show w'.cell? ⟨w.heap.size, 0, none⟩ = some (.slice A0 nx0 c0) ∧ w'.cell? ⟨w.heap.size, 1, none⟩ = some (.bool b0) ∧ w'.cell? ⟨w.heap.size, 2, none⟩ = some (.slice K0 nb0 e0) ∧ w'.cell? ⟨(w.heap.size + 1), 0, none⟩ = some (.slice A1 nx1 c1) ∧ w'.cell? ⟨(w.heap.size + 1), 1, none⟩ = some (.bool b1) ∧ w'.cell? ⟨(w.heap.size + 1), 2, none⟩ = some (.slice K1 nb1 e1) ∧ w'.cell? ⟨u3.heap.size, 0, none⟩ = some (.slice A9 nx9 c9) ∧ w'.cell? ⟨u3.heap.size, 1, none⟩ = some (.bool b9) ∧ w'.cell? ⟨u3.heap.size, 2, none⟩ = some (.slice K9 nb9 e9) from ⟨(hke w' hb).1.c0, (hke w' hb).1.c1, (hke w' hb).1.c2, (hke w' hb).2.1.c0, (hke w' hb).2.1.c1, (hke w' hb).2.1.c2, (hke w' hb).2.2.c0, (hke w' hb).2.2.c1, (hke w' hb).2.2.c2⟩)
      clear hke
      have G1 := Lib.hid (fun (w' : World) (hb : Below V.heap.size V w') => HH9.out w' (HUa3Y.out.trans (hb.mono HUa3Y.out.size)) (HXa3Y.out.trans (hb.mono HXa3Y.out.size)))
      have G2 := Lib.hid (fun (w' : World) (hb : Below V.heap.size V w') => HH0.out w' (HXa3Y.out.trans (hb.mono HXa3Y.out.size)))
      have G3 := Lib.hid (fun (w' : World) (hb : Below V.heap.size V w') => HH1.out w' (HXa3Y.out.trans (hb.mono HXa3Y.out.size)))
      go_cut [57] from 39 to 57 (fun s57 wx => s57 = .bool false ∧ Below V.heap.size V wx)
      case first =>
        cases q with
        | false =>
          go_quiet (fail)
          go_wp2_with fail
          go_meet
          exact ⟨rfl, below_drewN (Below.refl _ _) _⟩
        | true =>
          have hpp := HP.out rfl
          clear HP
          cases j with
          | false =>
            cases p0 with
            | false =>
              clear hpp
              refine wp_region_held_drew (S := fun w' => w'.cell? ⟨w.heap.size, 0, none⟩ = some (.slice A0 nx0 c0) ∧ w'.cell? ⟨w.heap.size, 1, none⟩ = some (.bool b0) ∧ w'.cell? ⟨w.heap.size, 2, none⟩ = some (.slice K0 nb0 e0) ∧ w'.cell? ⟨(w.heap.size + 1), 0, none⟩ = some (.slice A1 nx1 c1) ∧ w'.cell? ⟨(w.heap.size + 1), 1, none⟩ = some (.bool b1) ∧ w'.cell? ⟨(w.heap.size + 1), 2, none⟩ = some (.slice K1 nb1 e1) ∧ w'.cell? ⟨u3.heap.size, 0, none⟩ = some (.slice A9 nx9 c9) ∧ w'.cell? ⟨u3.heap.size, 1, none⟩ = some (.bool b9) ∧ w'.cell? ⟨u3.heap.size, 2, none⟩ = some (.slice K9 nb9 e9)) (by rfl) (HKE.out _ (below_drew (Below.refl _ _))) (fun hHeld => ?_)
              refine wpAnyH_take (i := 0) (oi := ⟨some 39, _, _, _, _, _⟩) (v := ?_) rfl (by kernel_rfl) (by kernel_rfl) (by kernel_rfl) (fun _ _ _ h => h) (Or.inl ⟨by rfl, fun w hSw => ?_⟩) (by assumption) ?_
              rotate_left
              · (try dsimp only at hSw)
                go_simp
                try with_reducible rfl
              try simp only [Act.put, List.setIfInBounds_toArray, List.set_cons_zero, List.set_cons_succ]
              refine wpAnyH_take (i := 1) (oi := ⟨some 40, _, _, _, _, _⟩) (v := ?_) rfl (by kernel_rfl) (by kernel_rfl) (by kernel_rfl) (fun _ _ _ h => h) (Or.inl ⟨by rfl, fun w hSw => ?_⟩) (by assumption) ?_
              rotate_left
              · (try dsimp only at hSw)
                go_simp
                try with_reducible rfl
              try simp only [Act.put, List.setIfInBounds_toArray, List.set_cons_zero, List.set_cons_succ]
              refine wpAnyH_take (i := 2) (oi := ⟨some 41, _, _, _, _, _⟩) (v := ?_) rfl (by kernel_rfl) (by kernel_rfl) (by kernel_rfl) (fun _ _ _ h => h) (Or.inl ⟨by rfl, fun w hSw => ?_⟩) (by assumption) ?_
              rotate_left
              · (try dsimp only at hSw)
                go_simp
                try with_reducible rfl
              try simp only [Act.put, List.setIfInBounds_toArray, List.set_cons_zero, List.set_cons_succ]
              refine wpAnyH_take (i := 3) (oi := ⟨some 42, _, _, _, _, _⟩) (v := ?_) rfl (by kernel_rfl) (by kernel_rfl) (by kernel_rfl) (fun _ _ _ h => h) (Or.inl ⟨by rfl, fun w hSw => ?_⟩) (by assumption) ?_
              rotate_left
              · (try dsimp only at hSw)
                go_simp
                try with_reducible rfl
              try simp only [Act.put, List.setIfInBounds_toArray, List.set_cons_zero, List.set_cons_succ]
              refine wpAnyH_take (i := 4) (oi := ⟨some 43, _, _, _, _, _⟩) (v := ?_) rfl (by kernel_rfl) (by kernel_rfl) (by kernel_rfl) (fun _ _ _ h => h) (Or.inl ⟨by rfl, fun w hSw => ?_⟩) (by assumption) ?_
              rotate_left
              · (try dsimp only at hSw)
                go_simp
                try with_reducible rfl
              try simp only [Act.put, List.setIfInBounds_toArray, List.set_cons_zero, List.set_cons_succ]
              refine wpAnyH_take (i := 5) (oi := ⟨some 44, _, _, _, _, _⟩) (v := undef) rfl (by kernel_rfl) (by kernel_rfl) (by kernel_rfl) (fun _ _ _ h => h) (Or.inr ⟨by kernel_rfl, rfl⟩) (by assumption) ?_
              try simp only [Act.put, List.setIfInBounds_toArray, List.set_cons_zero, List.set_cons_succ]
              refine wpAnyH_take (i := 6) (oi := ⟨some 45, _, _, _, _, _⟩) (v := undef) rfl (by kernel_rfl) (by kernel_rfl) (by kernel_rfl) (fun _ _ _ h => h) (Or.inr ⟨by kernel_rfl, rfl⟩) (by assumption) ?_
              try simp only [Act.put, List.setIfInBounds_toArray, List.set_cons_zero, List.set_cons_succ]
              refine wpAnyH_take (i := 7) (oi := ⟨some 46, _, _, _, _, _⟩) (v := undef) rfl (by kernel_rfl) (by kernel_rfl) (by kernel_rfl) (fun _ _ _ h => h) (Or.inr ⟨by kernel_rfl, rfl⟩) (by assumption) ?_
              try simp only [Act.put, List.setIfInBounds_toArray, List.set_cons_zero, List.set_cons_succ]
              refine wpAnyH_take (i := 8) (oi := ⟨some 47, _, _, _, _, _⟩) (v := ?_) rfl (by kernel_rfl) (by kernel_rfl) (by kernel_rfl) (fun _ _ _ h => h) (Or.inl ⟨by rfl, fun w hSw => ?_⟩) (by assumption) ?_
              rotate_left
              · (try dsimp only at hSw)
                go_simp
                try with_reducible rfl
              try simp only [Act.put, List.setIfInBounds_toArray, List.set_cons_zero, List.set_cons_succ]
              refine wpAnyH_take (i := 9) (oi := ⟨some 48, _, _, _, _, _⟩) (v := ?_) rfl (by kernel_rfl) (by kernel_rfl) (by kernel_rfl) (fun _ _ _ h => h) (Or.inl ⟨by rfl, fun w hSw => ?_⟩) (by assumption) ?_
              rotate_left
              · (try dsimp only at hSw)
                go_simp
                try with_reducible rfl
              try simp only [Act.put, List.setIfInBounds_toArray, List.set_cons_zero, List.set_cons_succ]
              refine wpAnyH_take (i := 10) (oi := ⟨some 49, _, _, _, _, _⟩) (v := ?_) rfl (by kernel_rfl) (by kernel_rfl) (by kernel_rfl) (fun _ _ _ h => h) (Or.inl ⟨by rfl, fun w hSw => ?_⟩) (by assumption) ?_
              rotate_left
              · (try dsimp only at hSw)
                go_simp
                try with_reducible rfl
              try simp only [Act.put, List.setIfInBounds_toArray, List.set_cons_zero, List.set_cons_succ]
              refine wpAnyH_ready (rs := [11]) (by kernel_rfl) (by simp) ?_
              refine AllReadyH.cons (o := ⟨some 50, _, _, _, _, _⟩) rfl (fun K hK => ?_) AllReadyH.nil
              go_simp
              have hcc := G2.out _ (below_drew (Below.refl _ _))
              with_reducible refine hcc.mono ?_
              intro e w6_ hh
              unfold GivesBB at hh
              obtain ⟨rfl, hb6_⟩ := hh
              have b6_ : Below V.heap.size V w6_ := (below_drew (Below.refl _ _)).trans hb6_
              go_wp2_with fail
              refine hK.out _ _ (HKE.out _ b6_) (fun hHeld2 => ?_)
              clear hK K hHeld
              have hHeld := hHeld2
              clear hHeld2
              try simp only [Act.put, List.setIfInBounds_toArray, List.set_cons_zero, List.set_cons_succ]
              refine wpAnyH_take (i := 12) (oi := ⟨some 51, _, _, _, _, _⟩) (v := ?_) rfl (by kernel_rfl) (by kernel_rfl) (by kernel_rfl) (fun _ _ _ h => h) (Or.inl ⟨by rfl, fun w hSw => ?_⟩) (by assumption) ?_
              rotate_left
              · (try dsimp only at hSw)
                go_simp
                try with_reducible rfl
              try simp only [Act.put, List.setIfInBounds_toArray, List.set_cons_zero, List.set_cons_succ]
              refine wpAnyH_take (i := 13) (oi := ⟨some 52, _, _, _, _, _⟩) (v := undef) rfl (by kernel_rfl) (by kernel_rfl) (by kernel_rfl) (fun _ _ _ h => h) (Or.inr ⟨by kernel_rfl, rfl⟩) (by assumption) ?_
              try simp only [Act.put, List.setIfInBounds_toArray, List.set_cons_zero, List.set_cons_succ]
              refine wpAnyH_take (i := 14) (oi := ⟨some 53, _, _, _, _, _⟩) (v := undef) rfl (by kernel_rfl) (by kernel_rfl) (by kernel_rfl) (fun _ _ _ h => h) (Or.inr ⟨by kernel_rfl, rfl⟩) (by assumption) ?_
              try simp only [Act.put, List.setIfInBounds_toArray, List.set_cons_zero, List.set_cons_succ]
              refine wpAnyH_take (i := 15) (oi := ⟨some 54, _, _, _, _, _⟩) (v := undef) rfl (by kernel_rfl) (by kernel_rfl) (by kernel_rfl) (fun _ _ _ h => h) (Or.inr ⟨by kernel_rfl, rfl⟩) (by assumption) ?_
              try simp only [Act.put, List.setIfInBounds_toArray, List.set_cons_zero, List.set_cons_succ]
              refine wpAnyH_take (i := 16) (oi := ⟨some 55, _, _, _, _, _⟩) (v := ?_) rfl (by kernel_rfl) (by kernel_rfl) (by kernel_rfl) (fun _ _ _ h => h) (Or.inl ⟨by rfl, fun w hSw => ?_⟩) (by assumption) ?_
              rotate_left
              · (try dsimp only at hSw)
                go_simp
                try with_reducible rfl
              try simp only [Act.put, List.setIfInBounds_toArray, List.set_cons_zero, List.set_cons_succ]
              refine wpAnyH_take (i := 17) (oi := ⟨some 56, _, _, _, _, _⟩) (v := ?_) rfl (by kernel_rfl) (by kernel_rfl) (by kernel_rfl) (fun _ _ _ h => h) (Or.inl ⟨by rfl, fun w hSw => ?_⟩) (by assumption) ?_
              rotate_left
              · (try dsimp only at hSw)
                go_simp
                try with_reducible rfl
              try simp only [Act.put, List.setIfInBounds_toArray, List.set_cons_zero, List.set_cons_succ]
              refine wpAnyH_take (i := 18) (oi := ⟨some 57, _, _, _, _, _⟩) (v := ?_) rfl (by kernel_rfl) (by kernel_rfl) (by kernel_rfl) (fun _ _ _ h => h) (Or.inl ⟨by rfl, fun w hSw => ?_⟩) (by assumption) ?_
              rotate_left
              · (try dsimp only at hSw)
                go_simp
                try with_reducible rfl
              try simp only [Act.put, List.setIfInBounds_toArray, List.set_cons_zero, List.set_cons_succ]
              refine wpAnyH_done (by kernel_rfl) ?_ _
              go_wp2_with fail
              go_meet
              exact ⟨rfl, b6_⟩
            | true =>
              obtain rfl : p1 = false := hpp.symm
              refine wp_region_held_drew (S := fun w' => w'.cell? ⟨w.heap.size, 0, none⟩ = some (.slice A0 nx0 c0) ∧ w'.cell? ⟨w.heap.size, 1, none⟩ = some (.bool b0) ∧ w'.cell? ⟨w.heap.size, 2, none⟩ = some (.slice K0 nb0 e0) ∧ w'.cell? ⟨(w.heap.size + 1), 0, none⟩ = some (.slice A1 nx1 c1) ∧ w'.cell? ⟨(w.heap.size + 1), 1, none⟩ = some (.bool b1) ∧ w'.cell? ⟨(w.heap.size + 1), 2, none⟩ = some (.slice K1 nb1 e1) ∧ w'.cell? ⟨u3.heap.size, 0, none⟩ = some (.slice A9 nx9 c9) ∧ w'.cell? ⟨u3.heap.size, 1, none⟩ = some (.bool b9) ∧ w'.cell? ⟨u3.heap.size, 2, none⟩ = some (.slice K9 nb9 e9)) (by rfl) (HKE.out _ (below_drew (Below.refl _ _))) (fun hHeld => ?_)
              refine wpAnyH_take (i := 0) (oi := ⟨some 39, _, _, _, _, _⟩) (v := ?_) rfl (by kernel_rfl) (by kernel_rfl) (by kernel_rfl) (fun _ _ _ h => h) (Or.inl ⟨by rfl, fun w hSw => ?_⟩) (by assumption) ?_
              rotate_left
              · (try dsimp only at hSw)
                go_simp
                try with_reducible rfl
              try simp only [Act.put, List.setIfInBounds_toArray, List.set_cons_zero, List.set_cons_succ]
              refine wpAnyH_take (i := 1) (oi := ⟨some 40, _, _, _, _, _⟩) (v := ?_) rfl (by kernel_rfl) (by kernel_rfl) (by kernel_rfl) (fun _ _ _ h => h) (Or.inl ⟨by rfl, fun w hSw => ?_⟩) (by assumption) ?_
              rotate_left
              · (try dsimp only at hSw)
                go_simp
                try with_reducible rfl
              try simp only [Act.put, List.setIfInBounds_toArray, List.set_cons_zero, List.set_cons_succ]
              refine wpAnyH_take (i := 2) (oi := ⟨some 41, _, _, _, _, _⟩) (v := ?_) rfl (by kernel_rfl) (by kernel_rfl) (by kernel_rfl) (fun _ _ _ h => h) (Or.inl ⟨by rfl, fun w hSw => ?_⟩) (by assumption) ?_
              rotate_left
              · (try dsimp only at hSw)
                go_simp
                try with_reducible rfl
              try simp only [Act.put, List.setIfInBounds_toArray, List.set_cons_zero, List.set_cons_succ]
              refine wpAnyH_take (i := 3) (oi := ⟨some 42, _, _, _, _, _⟩) (v := ?_) rfl (by kernel_rfl) (by kernel_rfl) (by kernel_rfl) (fun _ _ _ h => h) (Or.inl ⟨by rfl, fun w hSw => ?_⟩) (by assumption) ?_
              rotate_left
              · (try dsimp only at hSw)
                go_simp
                try with_reducible rfl
              try simp only [Act.put, List.setIfInBounds_toArray, List.set_cons_zero, List.set_cons_succ]
              refine wpAnyH_take (i := 4) (oi := ⟨some 43, _, _, _, _, _⟩) (v := ?_) rfl (by kernel_rfl) (by kernel_rfl) (by kernel_rfl) (fun _ _ _ h => h) (Or.inl ⟨by rfl, fun w hSw => ?_⟩) (by assumption) ?_
              rotate_left
              · (try dsimp only at hSw)
                go_simp
                try with_reducible rfl
              try simp only [Act.put, List.setIfInBounds_toArray, List.set_cons_zero, List.set_cons_succ]
              refine wpAnyH_take (i := 5) (oi := ⟨some 44, _, _, _, _, _⟩) (v := undef) rfl (by kernel_rfl) (by kernel_rfl) (by kernel_rfl) (fun _ _ _ h => h) (Or.inr ⟨by kernel_rfl, rfl⟩) (by assumption) ?_
              try simp only [Act.put, List.setIfInBounds_toArray, List.set_cons_zero, List.set_cons_succ]
              refine wpAnyH_take (i := 6) (oi := ⟨some 45, _, _, _, _, _⟩) (v := undef) rfl (by kernel_rfl) (by kernel_rfl) (by kernel_rfl) (fun _ _ _ h => h) (Or.inr ⟨by kernel_rfl, rfl⟩) (by assumption) ?_
              try simp only [Act.put, List.setIfInBounds_toArray, List.set_cons_zero, List.set_cons_succ]
              refine wpAnyH_take (i := 7) (oi := ⟨some 46, _, _, _, _, _⟩) (v := undef) rfl (by kernel_rfl) (by kernel_rfl) (by kernel_rfl) (fun _ _ _ h => h) (Or.inr ⟨by kernel_rfl, rfl⟩) (by assumption) ?_
              try simp only [Act.put, List.setIfInBounds_toArray, List.set_cons_zero, List.set_cons_succ]
              refine wpAnyH_take (i := 8) (oi := ⟨some 47, _, _, _, _, _⟩) (v := ?_) rfl (by kernel_rfl) (by kernel_rfl) (by kernel_rfl) (fun _ _ _ h => h) (Or.inl ⟨by rfl, fun w hSw => ?_⟩) (by assumption) ?_
              rotate_left
              · (try dsimp only at hSw)
                go_simp
                try with_reducible rfl
              try simp only [Act.put, List.setIfInBounds_toArray, List.set_cons_zero, List.set_cons_succ]
              refine wpAnyH_take (i := 9) (oi := ⟨some 48, _, _, _, _, _⟩) (v := ?_) rfl (by kernel_rfl) (by kernel_rfl) (by kernel_rfl) (fun _ _ _ h => h) (Or.inl ⟨by rfl, fun w hSw => ?_⟩) (by assumption) ?_
              rotate_left
              · (try dsimp only at hSw)
                go_simp
                try with_reducible rfl
              try simp only [Act.put, List.setIfInBounds_toArray, List.set_cons_zero, List.set_cons_succ]
              refine wpAnyH_take (i := 10) (oi := ⟨some 49, _, _, _, _, _⟩) (v := ?_) rfl (by kernel_rfl) (by kernel_rfl) (by kernel_rfl) (fun _ _ _ h => h) (Or.inl ⟨by rfl, fun w hSw => ?_⟩) (by assumption) ?_
              rotate_left
              · (try dsimp only at hSw)
                go_simp
                try with_reducible rfl
              try simp only [Act.put, List.setIfInBounds_toArray, List.set_cons_zero, List.set_cons_succ]
              refine wpAnyH_ready (rs := [11]) (by kernel_rfl) (by simp) ?_
              refine AllReadyH.cons (o := ⟨some 50, _, _, _, _, _⟩) rfl (fun K hK => ?_) AllReadyH.nil
              go_simp
              have hcc := G2.out _ (below_drew (Below.refl _ _))
              with_reducible refine hcc.mono ?_
              intro e w6_ hh
              unfold GivesBB at hh
              obtain ⟨rfl, hb6_⟩ := hh
              have b6_ : Below V.heap.size V w6_ := (below_drew (Below.refl _ _)).trans hb6_
              go_wp2_with fail
              refine hK.out _ _ (HKE.out _ b6_) (fun hHeld2 => ?_)
              clear hK K hHeld
              have hHeld := hHeld2
              clear hHeld2
              try simp only [Act.put, List.setIfInBounds_toArray, List.set_cons_zero, List.set_cons_succ]
              refine wpAnyH_take (i := 12) (oi := ⟨some 51, _, _, _, _, _⟩) (v := ?_) rfl (by kernel_rfl) (by kernel_rfl) (by kernel_rfl) (fun _ _ _ h => h) (Or.inl ⟨by rfl, fun w hSw => ?_⟩) (by assumption) ?_
              rotate_left
              · (try dsimp only at hSw)
                go_simp
                try with_reducible rfl
              try simp only [Act.put, List.setIfInBounds_toArray, List.set_cons_zero, List.set_cons_succ]
              refine wpAnyH_take (i := 13) (oi := ⟨some 52, _, _, _, _, _⟩) (v := ?_) rfl (by kernel_rfl) (by kernel_rfl) (by kernel_rfl) (fun _ _ _ h => h) (Or.inl ⟨by rfl, fun w hSw => ?_⟩) (by assumption) ?_
              rotate_left
              · (try dsimp only at hSw)
                go_simp
                try with_reducible rfl
              try simp only [Act.put, List.setIfInBounds_toArray, List.set_cons_zero, List.set_cons_succ]
              refine wpAnyH_take (i := 14) (oi := ⟨some 53, _, _, _, _, _⟩) (v := ?_) rfl (by kernel_rfl) (by kernel_rfl) (by kernel_rfl) (fun _ _ _ h => h) (Or.inl ⟨by rfl, fun w hSw => ?_⟩) (by assumption) ?_
              rotate_left
              · (try dsimp only at hSw)
                go_simp
                try with_reducible rfl
              try simp only [Act.put, List.setIfInBounds_toArray, List.set_cons_zero, List.set_cons_succ]
              refine wpAnyH_ready (rs := [15]) (by kernel_rfl) (by simp) ?_
              refine AllReadyH.cons (o := ⟨some 54, _, _, _, _, _⟩) rfl (fun K hK => ?_) AllReadyH.nil
              go_simp
              have hcc := G3.out _ b6_
              with_reducible refine hcc.mono ?_
              intro e w7_ hh
              unfold GivesBB at hh
              obtain ⟨rfl, hb7_⟩ := hh
              have b7_ : Below V.heap.size V w7_ := b6_.trans (hb7_.mono b6_.size)
              go_wp2_with fail
              refine hK.out _ _ (HKE.out _ b7_) (fun hHeld2 => ?_)
              clear hK K hHeld
              have hHeld := hHeld2
              clear hHeld2
              try simp only [Act.put, List.setIfInBounds_toArray, List.set_cons_zero, List.set_cons_succ]
              refine wpAnyH_take (i := 16) (oi := ⟨some 55, _, _, _, _, _⟩) (v := ?_) rfl (by kernel_rfl) (by kernel_rfl) (by kernel_rfl) (fun _ _ _ h => h) (Or.inl ⟨by rfl, fun w hSw => ?_⟩) (by assumption) ?_
              rotate_left
              · (try dsimp only at hSw)
                go_simp
                try with_reducible rfl
              try simp only [Act.put, List.setIfInBounds_toArray, List.set_cons_zero, List.set_cons_succ]
              refine wpAnyH_take (i := 17) (oi := ⟨some 56, _, _, _, _, _⟩) (v := ?_) rfl (by kernel_rfl) (by kernel_rfl) (by kernel_rfl) (fun _ _ _ h => h) (Or.inl ⟨by rfl, fun w hSw => ?_⟩) (by assumption) ?_
              rotate_left
              · (try dsimp only at hSw)
                go_simp
                try with_reducible rfl
              try simp only [Act.put, List.setIfInBounds_toArray, List.set_cons_zero, List.set_cons_succ]
              refine wpAnyH_take (i := 18) (oi := ⟨some 57, _, _, _, _, _⟩) (v := ?_) rfl (by kernel_rfl) (by kernel_rfl) (by kernel_rfl) (fun _ _ _ h => h) (Or.inl ⟨by rfl, fun w hSw => ?_⟩) (by assumption) ?_
              rotate_left
              · (try dsimp only at hSw)
                go_simp
                try with_reducible rfl
              try simp only [Act.put, List.setIfInBounds_toArray, List.set_cons_zero, List.set_cons_succ]
              refine wpAnyH_done (by kernel_rfl) ?_ _
              go_wp2_with fail
              go_meet
              exact ⟨rfl, b7_⟩
          | true =>
            cases p0 with
            | false =>
              obtain rfl : px = false := hpp
              refine wp_region_held_drew (S := fun w' => w'.cell? ⟨w.heap.size, 0, none⟩ = some (.slice A0 nx0 c0) ∧ w'.cell? ⟨w.heap.size, 1, none⟩ = some (.bool b0) ∧ w'.cell? ⟨w.heap.size, 2, none⟩ = some (.slice K0 nb0 e0) ∧ w'.cell? ⟨(w.heap.size + 1), 0, none⟩ = some (.slice A1 nx1 c1) ∧ w'.cell? ⟨(w.heap.size + 1), 1, none⟩ = some (.bool b1) ∧ w'.cell? ⟨(w.heap.size + 1), 2, none⟩ = some (.slice K1 nb1 e1) ∧ w'.cell? ⟨u3.heap.size, 0, none⟩ = some (.slice A9 nx9 c9) ∧ w'.cell? ⟨u3.heap.size, 1, none⟩ = some (.bool b9) ∧ w'.cell? ⟨u3.heap.size, 2, none⟩ = some (.slice K9 nb9 e9)) (by rfl) (HKE.out _ (below_drew (Below.refl _ _))) (fun hHeld => ?_)
              refine wpAnyH_take (i := 0) (oi := ⟨some 39, _, _, _, _, _⟩) (v := ?_) rfl (by kernel_rfl) (by kernel_rfl) (by kernel_rfl) (fun _ _ _ h => h) (Or.inl ⟨by rfl, fun w hSw => ?_⟩) (by assumption) ?_
              rotate_left
              · (try dsimp only at hSw)
                go_simp
                try with_reducible rfl
              try simp only [Act.put, List.setIfInBounds_toArray, List.set_cons_zero, List.set_cons_succ]
              refine wpAnyH_take (i := 1) (oi := ⟨some 40, _, _, _, _, _⟩) (v := ?_) rfl (by kernel_rfl) (by kernel_rfl) (by kernel_rfl) (fun _ _ _ h => h) (Or.inl ⟨by rfl, fun w hSw => ?_⟩) (by assumption) ?_
              rotate_left
              · (try dsimp only at hSw)
                go_simp
                try with_reducible rfl
              try simp only [Act.put, List.setIfInBounds_toArray, List.set_cons_zero, List.set_cons_succ]
              refine wpAnyH_take (i := 2) (oi := ⟨some 41, _, _, _, _, _⟩) (v := ?_) rfl (by kernel_rfl) (by kernel_rfl) (by kernel_rfl) (fun _ _ _ h => h) (Or.inl ⟨by rfl, fun w hSw => ?_⟩) (by assumption) ?_
              rotate_left
              · (try dsimp only at hSw)
                go_simp
                try with_reducible rfl
              try simp only [Act.put, List.setIfInBounds_toArray, List.set_cons_zero, List.set_cons_succ]
              refine wpAnyH_take (i := 3) (oi := ⟨some 42, _, _, _, _, _⟩) (v := ?_) rfl (by kernel_rfl) (by kernel_rfl) (by kernel_rfl) (fun _ _ _ h => h) (Or.inl ⟨by rfl, fun w hSw => ?_⟩) (by assumption) ?_
              rotate_left
              · (try dsimp only at hSw)
                go_simp
                try with_reducible rfl
              try simp only [Act.put, List.setIfInBounds_toArray, List.set_cons_zero, List.set_cons_succ]
              refine wpAnyH_take (i := 4) (oi := ⟨some 43, _, _, _, _, _⟩) (v := ?_) rfl (by kernel_rfl) (by kernel_rfl) (by kernel_rfl) (fun _ _ _ h => h) (Or.inl ⟨by rfl, fun w hSw => ?_⟩) (by assumption) ?_
              rotate_left
              · (try dsimp only at hSw)
                go_simp
                try with_reducible rfl
              try simp only [Act.put, List.setIfInBounds_toArray, List.set_cons_zero, List.set_cons_succ]
              refine wpAnyH_take (i := 5) (oi := ⟨some 44, _, _, _, _, _⟩) (v := ?_) rfl (by kernel_rfl) (by kernel_rfl) (by kernel_rfl) (fun _ _ _ h => h) (Or.inl ⟨by rfl, fun w hSw => ?_⟩) (by assumption) ?_
              rotate_left
              · (try dsimp only at hSw)
                go_simp
                try with_reducible rfl
              try simp only [Act.put, List.setIfInBounds_toArray, List.set_cons_zero, List.set_cons_succ]
              refine wpAnyH_take (i := 6) (oi := ⟨some 45, _, _, _, _, _⟩) (v := ?_) rfl (by kernel_rfl) (by kernel_rfl) (by kernel_rfl) (fun _ _ _ h => h) (Or.inl ⟨by rfl, fun w hSw => ?_⟩) (by assumption) ?_
              rotate_left
              · (try dsimp only at hSw)
                go_simp
                try with_reducible rfl
              try simp only [Act.put, List.setIfInBounds_toArray, List.set_cons_zero, List.set_cons_succ]
              refine wpAnyH_take (i := 9) (oi := ⟨some 48, _, _, _, _, _⟩) (v := ?_) rfl (by kernel_rfl) (by kernel_rfl) (by kernel_rfl) (fun _ _ _ h => h) (Or.inl ⟨by rfl, fun w hSw => ?_⟩) (by assumption) ?_
              rotate_left
              · (try dsimp only at hSw)
                go_simp
                try with_reducible rfl
              try simp only [Act.put, List.setIfInBounds_toArray, List.set_cons_zero, List.set_cons_succ]
              refine wpAnyH_take (i := 10) (oi := ⟨some 49, _, _, _, _, _⟩) (v := ?_) rfl (by kernel_rfl) (by kernel_rfl) (by kernel_rfl) (fun _ _ _ h => h) (Or.inl ⟨by rfl, fun w hSw => ?_⟩) (by assumption) ?_
              rotate_left
              · (try dsimp only at hSw)
                go_simp
                try with_reducible rfl
              try simp only [Act.put, List.setIfInBounds_toArray, List.set_cons_zero, List.set_cons_succ]
              refine wpAnyH_ready (rs := [7]) (by kernel_rfl) (by simp) ?_
              refine AllReadyH.cons (o := ⟨some 46, _, _, _, _, _⟩) rfl (fun K hK => ?_) AllReadyH.nil
              go_simp
              have hcc := G1.out _ (below_drew (Below.refl _ _))
              with_reducible refine hcc.mono ?_
              intro e w5_ hh
              unfold GivesBB at hh
              obtain ⟨rfl, hb5_⟩ := hh
              have b5_ : Below V.heap.size V w5_ := (below_drew (Below.refl _ _)).trans hb5_
              go_wp2_with fail
              refine hK.out _ _ (HKE.out _ b5_) (fun hHeld2 => ?_)
              clear hK K hHeld
              have hHeld := hHeld2
              clear hHeld2
              try simp only [Act.put, List.setIfInBounds_toArray, List.set_cons_zero, List.set_cons_succ]
              refine wpAnyH_take (i := 8) (oi := ⟨some 47, _, _, _, _, _⟩) (v := ?_) rfl (by kernel_rfl) (by kernel_rfl) (by kernel_rfl) (fun _ _ _ h => h) (Or.inl ⟨by rfl, fun w hSw => ?_⟩) (by assumption) ?_
              rotate_left
              · (try dsimp only at hSw)
                go_simp
                try with_reducible rfl
              try simp only [Act.put, List.setIfInBounds_toArray, List.set_cons_zero, List.set_cons_succ]
              refine wpAnyH_ready (rs := [11]) (by kernel_rfl) (by simp) ?_
              refine AllReadyH.cons (o := ⟨some 50, _, _, _, _, _⟩) rfl (fun K hK => ?_) AllReadyH.nil
              go_simp
              have hcc := G2.out _ b5_
              with_reducible refine hcc.mono ?_
              intro e w6_ hh
              unfold GivesBB at hh
              obtain ⟨rfl, hb6_⟩ := hh
              have b6_ : Below V.heap.size V w6_ := b5_.trans (hb6_.mono b5_.size)
              go_wp2_with fail
              refine hK.out _ _ (HKE.out _ b6_) (fun hHeld2 => ?_)
              clear hK K hHeld
              have hHeld := hHeld2
              clear hHeld2
              try simp only [Act.put, List.setIfInBounds_toArray, List.set_cons_zero, List.set_cons_succ]
              refine wpAnyH_take (i := 12) (oi := ⟨some 51, _, _, _, _, _⟩) (v := ?_) rfl (by kernel_rfl) (by kernel_rfl) (by kernel_rfl) (fun _ _ _ h => h) (Or.inl ⟨by rfl, fun w hSw => ?_⟩) (by assumption) ?_
              rotate_left
              · (try dsimp only at hSw)
                go_simp
                try with_reducible rfl
              try simp only [Act.put, List.setIfInBounds_toArray, List.set_cons_zero, List.set_cons_succ]
              refine wpAnyH_take (i := 13) (oi := ⟨some 52, _, _, _, _, _⟩) (v := undef) rfl (by kernel_rfl) (by kernel_rfl) (by kernel_rfl) (fun _ _ _ h => h) (Or.inr ⟨by kernel_rfl, rfl⟩) (by assumption) ?_
              try simp only [Act.put, List.setIfInBounds_toArray, List.set_cons_zero, List.set_cons_succ]
              refine wpAnyH_take (i := 14) (oi := ⟨some 53, _, _, _, _, _⟩) (v := undef) rfl (by kernel_rfl) (by kernel_rfl) (by kernel_rfl) (fun _ _ _ h => h) (Or.inr ⟨by kernel_rfl, rfl⟩) (by assumption) ?_
              try simp only [Act.put, List.setIfInBounds_toArray, List.set_cons_zero, List.set_cons_succ]
              refine wpAnyH_take (i := 15) (oi := ⟨some 54, _, _, _, _, _⟩) (v := undef) rfl (by kernel_rfl) (by kernel_rfl) (by kernel_rfl) (fun _ _ _ h => h) (Or.inr ⟨by kernel_rfl, rfl⟩) (by assumption) ?_
              try simp only [Act.put, List.setIfInBounds_toArray, List.set_cons_zero, List.set_cons_succ]
              refine wpAnyH_take (i := 16) (oi := ⟨some 55, _, _, _, _, _⟩) (v := ?_) rfl (by kernel_rfl) (by kernel_rfl) (by kernel_rfl) (fun _ _ _ h => h) (Or.inl ⟨by rfl, fun w hSw => ?_⟩) (by assumption) ?_
              rotate_left
              · (try dsimp only at hSw)
                go_simp
                try with_reducible rfl
              try simp only [Act.put, List.setIfInBounds_toArray, List.set_cons_zero, List.set_cons_succ]
              refine wpAnyH_take (i := 17) (oi := ⟨some 56, _, _, _, _, _⟩) (v := ?_) rfl (by kernel_rfl) (by kernel_rfl) (by kernel_rfl) (fun _ _ _ h => h) (Or.inl ⟨by rfl, fun w hSw => ?_⟩) (by assumption) ?_
              rotate_left
              · (try dsimp only at hSw)
                go_simp
                try with_reducible rfl
              try simp only [Act.put, List.setIfInBounds_toArray, List.set_cons_zero, List.set_cons_succ]
              refine wpAnyH_take (i := 18) (oi := ⟨some 57, _, _, _, _, _⟩) (v := ?_) rfl (by kernel_rfl) (by kernel_rfl) (by kernel_rfl) (fun _ _ _ h => h) (Or.inl ⟨by rfl, fun w hSw => ?_⟩) (by assumption) ?_
              rotate_left
              · (try dsimp only at hSw)
                go_simp
                try with_reducible rfl
              try simp only [Act.put, List.setIfInBounds_toArray, List.set_cons_zero, List.set_cons_succ]
              refine wpAnyH_done (by kernel_rfl) ?_ _
              go_wp2_with fail
              go_meet
              exact ⟨rfl, b6_⟩
            | true =>
              obtain rfl : px = p1 := hpp
              cases px
              ·
                set_option maxRecDepth 100000 in
                go_region_held3 (fun w' => w'.cell? ⟨w.heap.size, 0, none⟩ = some (.slice A0 nx0 c0) ∧ w'.cell? ⟨w.heap.size, 1, none⟩ = some (.bool b0) ∧ w'.cell? ⟨w.heap.size, 2, none⟩ = some (.slice K0 nb0 e0) ∧ w'.cell? ⟨(w.heap.size + 1), 0, none⟩ = some (.slice A1 nx1 c1) ∧ w'.cell? ⟨(w.heap.size + 1), 1, none⟩ = some (.bool b1) ∧ w'.cell? ⟨(w.heap.size + 1), 2, none⟩ = some (.slice K1 nb1 e1) ∧ w'.cell? ⟨u3.heap.size, 0, none⟩ = some (.slice A9 nx9 c9) ∧ w'.cell? ⟨u3.heap.size, 1, none⟩ = some (.bool b9) ∧ w'.cell? ⟨u3.heap.size, 2, none⟩ = some (.slice K9 nb9 e9))
                  (first | exact HKE.out _ b7_ | exact HKE.out _ b6_ | exact HKE.out _ b5_ | exact HKE.out _ (below_drew (Below.refl _ _)) | exact HKE.out _ (Below.refl _ _) | go_keep)
                  (first
                    | (go_at_call 29; have hcc := G3.out _ b6_; with_reducible refine hcc.mono ?_; intro e w7_ hh; unfold GivesBB at hh; obtain ⟨rfl, hb7_⟩ := hh
                       have b7_ : Below V.heap.size V w7_ := b6_.trans (hb7_.mono b6_.size))
                    | (go_at_call 29; have hcc := G2.out _ b5_; with_reducible refine hcc.mono ?_; intro e w6_ hh; unfold GivesBB at hh; obtain ⟨rfl, hb6_⟩ := hh
                       have b6_ : Below V.heap.size V w6_ := b5_.trans (hb6_.mono b5_.size))
                    | (go_at_call 29; have hcc := G1.out _ (below_drew (Below.refl _ _)); with_reducible refine hcc.mono ?_; intro e w5_ hh; unfold GivesBB at hh; obtain ⟨rfl, hb5_⟩ := hh
                       have b5_ : Below V.heap.size V w5_ := (below_drew (Below.refl _ _)).trans hb5_))
                all_goals (go_wp2_with fail; go_meet; exact ⟨rfl, b7_⟩)
              ·
                set_option maxRecDepth 100000 in
                go_region_held3 (fun w' => w'.cell? ⟨w.heap.size, 0, none⟩ = some (.slice A0 nx0 c0) ∧ w'.cell? ⟨w.heap.size, 1, none⟩ = some (.bool b0) ∧ w'.cell? ⟨w.heap.size, 2, none⟩ = some (.slice K0 nb0 e0) ∧ w'.cell? ⟨(w.heap.size + 1), 0, none⟩ = some (.slice A1 nx1 c1) ∧ w'.cell? ⟨(w.heap.size + 1), 1, none⟩ = some (.bool b1) ∧ w'.cell? ⟨(w.heap.size + 1), 2, none⟩ = some (.slice K1 nb1 e1) ∧ w'.cell? ⟨u3.heap.size, 0, none⟩ = some (.slice A9 nx9 c9) ∧ w'.cell? ⟨u3.heap.size, 1, none⟩ = some (.bool b9) ∧ w'.cell? ⟨u3.heap.size, 2, none⟩ = some (.slice K9 nb9 e9))
                  (first | exact HKE.out _ b7_ | exact HKE.out _ b6_ | exact HKE.out _ b5_ | exact HKE.out _ (below_drew (Below.refl _ _)) | exact HKE.out _ (Below.refl _ _) | go_keep)
                  (first
                    | (go_at_call 29; have hcc := G3.out _ b6_; with_reducible refine hcc.mono ?_; intro e w7_ hh; unfold GivesBB at hh; obtain ⟨rfl, hb7_⟩ := hh
                       have b7_ : Below V.heap.size V w7_ := b6_.trans (hb7_.mono b6_.size))
                    | (go_at_call 29; have hcc := G2.out _ b5_; with_reducible refine hcc.mono ?_; intro e w6_ hh; unfold GivesBB at hh; obtain ⟨rfl, hb6_⟩ := hh
                       have b6_ : Below V.heap.size V w6_ := b5_.trans (hb6_.mono b5_.size))
                    | (go_at_call 29; have hcc := G1.out _ (below_drew (Below.refl _ _)); with_reducible refine hcc.mono ?_; intro e w5_ hh; unfold GivesBB at hh; obtain ⟨rfl, hb5_⟩ := hh
                       have b5_ : Below V.heap.size V w5_ := (below_drew (Below.refl _ _)).trans hb5_))
                all_goals (go_wp2_with fail; go_meet; exact ⟨rfl, b7_⟩)
      case rest =>
        obtain ⟨rfl, hbc⟩ := hcut
        have hXc := HXa3Y.out.trans (hbc.mono HXa3Y.out.size)
        have HXc := Lib.hid hXc
        obtain ⟨k0_HB0c, k1_HB0c, k2_HB0c, kl_HB0c⟩ := HB0.out _ hXc
        obtain ⟨k0_HB1c, k1_HB1c, k2_HB1c, kl_HB1c⟩ := HB1.out _ hXc
        have hUc := HUa3Y.out.trans (hbc.mono HUa3Y.out.size)
        have HUc := Lib.hid hUc
        have hYc := HY0.out.trans (hbc.mono HY0.out.size)
        have HYc := Lib.hid hYc
        obtain ⟨k0_HByc, k1_HByc, k2_HByc, kl_HByc⟩ := HBy.out _ hYc
        have zc := hXc.size
        simp only [World.alloc, Array.size_push] at zc
        clear hbc k0_HB0a3Y k1_HB0a3Y k2_HB0a3Y kl_HB0a3Y k0_HB1a3Y k1_HB1a3Y k2_HB1a3Y kl_HB1a3Y k0_HBya3Y k1_HBya3Y k2_HBya3Y kl_HBya3Y
        have HUc := HUc
        clear G1 G2 G3 HKE HP
        go_wp2_with fail
        with_reducible refine (HM2.out _ HXc.out).mono ?_
        rintro en u4 ⟨A8, xs8, c8, b8, K8, bl8, e8, rfl, hr8, hb4⟩
        have hX4 := HXc.out.trans (hb4.mono HXc.out.size)
        have HX4 := Lib.hid hX4
        obtain ⟨k0_HB04, k1_HB04, k2_HB04, kl_HB04⟩ := HB0.out _ hX4
        obtain ⟨k0_HB14, k1_HB14, k2_HB14, kl_HB14⟩ := HB1.out _ hX4
        have hU4 := HUc.out.trans (hb4.mono HUc.out.size)
        have HU4 := Lib.hid hU4
        have hY4 := HYc.out.trans (hb4.mono HYc.out.size)
        have HY4 := Lib.hid hY4
        obtain ⟨k0_HBy4, k1_HBy4, k2_HBy4, kl_HBy4⟩ := HBy.out _ hY4
        have z4 := hX4.size
        simp only [World.alloc, Array.size_push] at z4
        have HR8 := Lib.hid (fun (w' : World) (hb : Below u4.heap.size u4 w') => hr8.keep hb)
        have HSB8 := Lib.hid (fun (B : Option Addr) (ys : List ByteArray) (d : Nat) (f : Bool) (L : Option Addr) (cl : List BindV) (e2 : Nat) (w' : World) (hb : Below u4.heap.size u4 w') (hk : RegR w' B ys d f L cl e2 xg) => HSS.out _ _ _ _ _ _ _ B ys d f L cl e2 xg w' (hr8.keep hb) hk)
        have HSA := Lib.hid (fun (w' : World) (hu : Below _ _ w') (ht : Below _ _ w') => HSB9.out _ _ _ _ _ _ _ w' hu (HR8.out w' ht))
        clear hr8
        generalize xs8.length = nx8 at *
        generalize bl8.length = nb8 at *
        have HT0 := Lib.hid (Below.refl u4.heap.size u4)
        clear hb4 hX4 hU4 hY4 k0_HB0c k1_HB0c k2_HB0c kl_HB0c k0_HB1c k1_HB1c k2_HB1c kl_HB1c k0_HByc k1_HByc k2_HByc kl_HByc
        have ha4Z : Below (World.heap u4).size u4 (World.alloc u4 (regObj A8 nx8 c8 b8 K8 nb8 e8)) := (Below.refl _ _).alloc (Nat.le_refl _) _
        have hXa4Z := HX4.out.trans (ha4Z.mono HX4.out.size)
        have HXa4Z := Lib.hid hXa4Z
        obtain ⟨k0_HB0a4Z, k1_HB0a4Z, k2_HB0a4Z, kl_HB0a4Z⟩ := HB0.out _ hXa4Z
        obtain ⟨k0_HB1a4Z, k1_HB1a4Z, k2_HB1a4Z, kl_HB1a4Z⟩ := HB1.out _ hXa4Z
        have hUa4Z := HU4.out.trans (ha4Z.mono HU4.out.size)
        have HUa4Z := Lib.hid hUa4Z
        have hYa4Z := HY4.out.trans (ha4Z.mono HY4.out.size)
        have HYa4Z := Lib.hid hYa4Z
        obtain ⟨k0_HBya4Z, k1_HBya4Z, k2_HBya4Z, kl_HBya4Z⟩ := HBy.out _ hYa4Z
        have hTa4Z := HT0.out.trans (ha4Z.mono HT0.out.size)
        have HTa4Z := Lib.hid hTa4Z
        have za4Z := hXa4Z.size
        simp only [World.alloc, Array.size_push] at za4Z
        have HBz := Lib.hid (fun (w' : World) (hb : Below (World.heap (World.alloc u4 (regObj A8 nx8 c8 b8 K8 nb8 e8))).size (World.alloc u4 (regObj A8 nx8 c8 b8 K8 nb8 e8)) w') => (GBox.new ..).keep hb)
        have HZ0 := Lib.hid (Below.refl (World.heap (World.alloc u4 (regObj A8 nx8 c8 b8 K8 nb8 e8))).size (World.alloc u4 (regObj A8 nx8 c8 b8 K8 nb8 e8)))
        obtain ⟨k0_HBza4Z, k1_HBza4Z, k2_HBza4Z, kl_HBza4Z⟩ := HBz.out _ HZ0.out
        clear ha4Z hXa4Z hUa4Z hYa4Z hTa4Z k0_HB04 k1_HB04 k2_HB04 kl_HB04 k0_HB14 k1_HB14 k2_HB14 kl_HB14 k0_HBy4 k1_HBy4 k2_HBy4 kl_HBy4
        go_wp2_with fail
        with_reducible refine (HSA.out _ HUa4Z.out HTa4Z.out).mono ?_
        rintro en u5 ⟨rfl, hb5⟩
        have hX5 := HXa4Z.out.trans (hb5.mono HXa4Z.out.size)
        have HX5 := Lib.hid hX5
        obtain ⟨k0_HB05, k1_HB05, k2_HB05, kl_HB05⟩ := HB0.out _ hX5
        obtain ⟨k0_HB15, k1_HB15, k2_HB15, kl_HB15⟩ := HB1.out _ hX5
        have hU5 := HUa4Z.out.trans (hb5.mono HUa4Z.out.size)
        have HU5 := Lib.hid hU5
        have hY5 := HYa4Z.out.trans (hb5.mono HYa4Z.out.size)
        have HY5 := Lib.hid hY5
        obtain ⟨k0_HBy5, k1_HBy5, k2_HBy5, kl_HBy5⟩ := HBy.out _ hY5
        have hT5 := HTa4Z.out.trans (hb5.mono HTa4Z.out.size)
        have HT5 := Lib.hid hT5
        have hZ5 := HZ0.out.trans (hb5.mono HZ0.out.size)
        have HZ5 := Lib.hid hZ5
        obtain ⟨k0_HBz5, k1_HBz5, k2_HBz5, kl_HBz5⟩ := HBz.out _ hZ5
        have z5 := hX5.size
        simp only [World.alloc, Array.size_push] at z5
        clear hb5 hX5 hU5 hY5 hT5 hZ5 k0_HB0a4Z k1_HB0a4Z k2_HB0a4Z kl_HB0a4Z k0_HB1a4Z k1_HB1a4Z k2_HB1a4Z kl_HB1a4Z k0_HBya4Z k1_HBya4Z k2_HBya4Z kl_HBya4Z k0_HBza4Z k1_HBza4Z k2_HBza4Z kl_HBza4Z
        go_wp2_with fail
        with_reducible refine (HSI.out _ HX5.out).mono ?_
        rintro en u6 ⟨A7, xs7, c7, b7, K7, bl7, e7, rfl, hr7, hb6, _, _, _⟩
        have hX6 := HX5.out.trans (hb6.mono HX5.out.size)
        have HX6 := Lib.hid hX6
        obtain ⟨k0_HB06, k1_HB06, k2_HB06, kl_HB06⟩ := HB0.out _ hX6
        obtain ⟨k0_HB16, k1_HB16, k2_HB16, kl_HB16⟩ := HB1.out _ hX6
        have hU6 := HU5.out.trans (hb6.mono HU5.out.size)
        have HU6 := Lib.hid hU6
        have hY6 := HY5.out.trans (hb6.mono HY5.out.size)
        have HY6 := Lib.hid hY6
        obtain ⟨k0_HBy6, k1_HBy6, k2_HBy6, kl_HBy6⟩ := HBy.out _ hY6
        have hT6 := HT5.out.trans (hb6.mono HT5.out.size)
        have HT6 := Lib.hid hT6
        have hZ6 := HZ5.out.trans (hb6.mono HZ5.out.size)
        have HZ6 := Lib.hid hZ6
        obtain ⟨k0_HBz6, k1_HBz6, k2_HBz6, kl_HBz6⟩ := HBz.out _ hZ6
        have z6 := hX6.size
        simp only [World.alloc, Array.size_push] at z6
        have HR7 := Lib.hid (fun (w' : World) (hb : Below u6.heap.size u6 w') => hr7.keep hb)
        have HSB7 := Lib.hid (fun (B : Option Addr) (ys : List ByteArray) (d : Nat) (f : Bool) (L : Option Addr) (cl : List BindV) (e2 : Nat) (w' : World) (hb : Below u6.heap.size u6 w') (hk : RegR w' B ys d f L cl e2 sreg) => HSS.out _ _ _ _ _ _ _ B ys d f L cl e2 sreg w' (hr7.keep hb) hk)
        clear hr7
        generalize xs7.length = nx7 at *
        generalize bl7.length = nb7 at *
        have HO0 := Lib.hid (Below.refl u6.heap.size u6)
        clear hb6 hX6 hU6 hY6 hT6 hZ6 k0_HB05 k1_HB05 k2_HB05 kl_HB05 k0_HB15 k1_HB15 k2_HB15 kl_HB15 k0_HBy5 k1_HBy5 k2_HBy5 kl_HBy5 k0_HBz5 k1_HBz5 k2_HBz5 kl_HBz5
        have ha6Q : Below (World.heap u6).size u6 (World.alloc u6 (regObj A7 nx7 c7 b7 K7 nb7 e7)) := (Below.refl _ _).alloc (Nat.le_refl _) _
        have hXa6Q := HX6.out.trans (ha6Q.mono HX6.out.size)
        have HXa6Q := Lib.hid hXa6Q
        obtain ⟨k0_HB0a6Q, k1_HB0a6Q, k2_HB0a6Q, kl_HB0a6Q⟩ := HB0.out _ hXa6Q
        obtain ⟨k0_HB1a6Q, k1_HB1a6Q, k2_HB1a6Q, kl_HB1a6Q⟩ := HB1.out _ hXa6Q
        have hUa6Q := HU6.out.trans (ha6Q.mono HU6.out.size)
        have HUa6Q := Lib.hid hUa6Q
        have hYa6Q := HY6.out.trans (ha6Q.mono HY6.out.size)
        have HYa6Q := Lib.hid hYa6Q
        obtain ⟨k0_HBya6Q, k1_HBya6Q, k2_HBya6Q, kl_HBya6Q⟩ := HBy.out _ hYa6Q
        have hTa6Q := HT6.out.trans (ha6Q.mono HT6.out.size)
        have HTa6Q := Lib.hid hTa6Q
        have hZa6Q := HZ6.out.trans (ha6Q.mono HZ6.out.size)
        have HZa6Q := Lib.hid hZa6Q
        obtain ⟨k0_HBza6Q, k1_HBza6Q, k2_HBza6Q, kl_HBza6Q⟩ := HBz.out _ hZa6Q
        have hOa6Q := HO0.out.trans (ha6Q.mono HO0.out.size)
        have HOa6Q := Lib.hid hOa6Q
        have za6Q := hXa6Q.size
        simp only [World.alloc, Array.size_push] at za6Q
        have HBq := Lib.hid (fun (w' : World) (hb : Below (World.heap (World.alloc u6 (regObj A7 nx7 c7 b7 K7 nb7 e7))).size (World.alloc u6 (regObj A7 nx7 c7 b7 K7 nb7 e7)) w') => (GBox.new ..).keep hb)
        have HQ0 := Lib.hid (Below.refl (World.heap (World.alloc u6 (regObj A7 nx7 c7 b7 K7 nb7 e7))).size (World.alloc u6 (regObj A7 nx7 c7 b7 K7 nb7 e7)))
        obtain ⟨k0_HBqa6Q, k1_HBqa6Q, k2_HBqa6Q, kl_HBqa6Q⟩ := HBq.out _ HQ0.out
        clear ha6Q hXa6Q hUa6Q hYa6Q hTa6Q hZa6Q hOa6Q k0_HB06 k1_HB06 k2_HB06 kl_HB06 k0_HB16 k1_HB16 k2_HB16 kl_HB16 k0_HBy6 k1_HBy6 k2_HBy6 kl_HBy6 k0_HBz6 k1_HBz6 k2_HBz6 kl_HBz6
        go_wp2_with fail
        with_reducible refine (HM3.out _ HXa6Q.out).mono ?_
        rintro en u7 ⟨A6, xs6, c6, b6, K6, bl6, e6, rfl, hr6, hb7⟩
        have hX7 := HXa6Q.out.trans (hb7.mono HXa6Q.out.size)
        have HX7 := Lib.hid hX7
        obtain ⟨k0_HB07, k1_HB07, k2_HB07, kl_HB07⟩ := HB0.out _ hX7
        obtain ⟨k0_HB17, k1_HB17, k2_HB17, kl_HB17⟩ := HB1.out _ hX7
        have hU7 := HUa6Q.out.trans (hb7.mono HUa6Q.out.size)
        have HU7 := Lib.hid hU7
        have hY7 := HYa6Q.out.trans (hb7.mono HYa6Q.out.size)
        have HY7 := Lib.hid hY7
        obtain ⟨k0_HBy7, k1_HBy7, k2_HBy7, kl_HBy7⟩ := HBy.out _ hY7
        have hT7 := HTa6Q.out.trans (hb7.mono HTa6Q.out.size)
        have HT7 := Lib.hid hT7
        have hZ7 := HZa6Q.out.trans (hb7.mono HZa6Q.out.size)
        have HZ7 := Lib.hid hZ7
        obtain ⟨k0_HBz7, k1_HBz7, k2_HBz7, kl_HBz7⟩ := HBz.out _ hZ7
        have hO7 := HOa6Q.out.trans (hb7.mono HOa6Q.out.size)
        have HO7 := Lib.hid hO7
        have hQ7 := HQ0.out.trans (hb7.mono HQ0.out.size)
        have HQ7 := Lib.hid hQ7
        obtain ⟨k0_HBq7, k1_HBq7, k2_HBq7, kl_HBq7⟩ := HBq.out _ hQ7
        have z7 := hX7.size
        simp only [World.alloc, Array.size_push] at z7
        have HR6 := Lib.hid (fun (w' : World) (hb : Below u7.heap.size u7 w') => hr6.keep hb)
        have HSB6 := Lib.hid (fun (B : Option Addr) (ys : List ByteArray) (d : Nat) (f : Bool) (L : Option Addr) (cl : List BindV) (e2 : Nat) (w' : World) (hb : Below u7.heap.size u7 w') (hk : RegR w' B ys d f L cl e2 xg3) => HSS.out _ _ _ _ _ _ _ B ys d f L cl e2 xg3 w' (hr6.keep hb) hk)
        have HSC := Lib.hid (fun (w' : World) (he : xg3 = sreg) (hu : Below _ _ w') (ht : Below _ _ w') => HSB7.out _ _ _ _ _ _ _ w' hu (by rw [← he]; exact HR6.out w' ht))
        clear hr6
        generalize xs6.length = nx6 at *
        generalize bl6.length = nb6 at *
        have HJ0 := Lib.hid (Below.refl u7.heap.size u7)
        clear hb7 hX7 hU7 hY7 hT7 hZ7 hO7 hQ7 k0_HB0a6Q k1_HB0a6Q k2_HB0a6Q kl_HB0a6Q k0_HB1a6Q k1_HB1a6Q k2_HB1a6Q kl_HB1a6Q k0_HBya6Q k1_HBya6Q k2_HBya6Q kl_HBya6Q k0_HBza6Q k1_HBza6Q k2_HBza6Q kl_HBza6Q k0_HBqa6Q k1_HBqa6Q k2_HBqa6Q kl_HBqa6Q
        have ha7V : Below (World.heap u7).size u7 (World.alloc u7 (regObj A6 nx6 c6 b6 K6 nb6 e6)) := (Below.refl _ _).alloc (Nat.le_refl _) _
        have hXa7V := HX7.out.trans (ha7V.mono HX7.out.size)
        have HXa7V := Lib.hid hXa7V
        obtain ⟨k0_HB0a7V, k1_HB0a7V, k2_HB0a7V, kl_HB0a7V⟩ := HB0.out _ hXa7V
        obtain ⟨k0_HB1a7V, k1_HB1a7V, k2_HB1a7V, kl_HB1a7V⟩ := HB1.out _ hXa7V
        have hUa7V := HU7.out.trans (ha7V.mono HU7.out.size)
        have HUa7V := Lib.hid hUa7V
        have hYa7V := HY7.out.trans (ha7V.mono HY7.out.size)
        have HYa7V := Lib.hid hYa7V
        obtain ⟨k0_HBya7V, k1_HBya7V, k2_HBya7V, kl_HBya7V⟩ := HBy.out _ hYa7V
        have hTa7V := HT7.out.trans (ha7V.mono HT7.out.size)
        have HTa7V := Lib.hid hTa7V
        have hZa7V := HZ7.out.trans (ha7V.mono HZ7.out.size)
        have HZa7V := Lib.hid hZa7V
        obtain ⟨k0_HBza7V, k1_HBza7V, k2_HBza7V, kl_HBza7V⟩ := HBz.out _ hZa7V
        have hOa7V := HO7.out.trans (ha7V.mono HO7.out.size)
        have HOa7V := Lib.hid hOa7V
        have hQa7V := HQ7.out.trans (ha7V.mono HQ7.out.size)
        have HQa7V := Lib.hid hQa7V
        obtain ⟨k0_HBqa7V, k1_HBqa7V, k2_HBqa7V, kl_HBqa7V⟩ := HBq.out _ hQa7V
        have hJa7V := HJ0.out.trans (ha7V.mono HJ0.out.size)
        have HJa7V := Lib.hid hJa7V
        have za7V := hXa7V.size
        simp only [World.alloc, Array.size_push] at za7V
        have HBv := Lib.hid (fun (w' : World) (hb : Below (World.heap (World.alloc u7 (regObj A6 nx6 c6 b6 K6 nb6 e6))).size (World.alloc u7 (regObj A6 nx6 c6 b6 K6 nb6 e6)) w') => (GBox.new ..).keep hb)
        have HV0 := Lib.hid (Below.refl (World.heap (World.alloc u7 (regObj A6 nx6 c6 b6 K6 nb6 e6))).size (World.alloc u7 (regObj A6 nx6 c6 b6 K6 nb6 e6)))
        obtain ⟨k0_HBva7V, k1_HBva7V, k2_HBva7V, kl_HBva7V⟩ := HBv.out _ HV0.out
        clear ha7V hXa7V hUa7V hYa7V hTa7V hZa7V hOa7V hQa7V hJa7V k0_HB07 k1_HB07 k2_HB07 kl_HB07 k0_HB17 k1_HB17 k2_HB17 kl_HB17 k0_HBy7 k1_HBy7 k2_HBy7 kl_HBy7 k0_HBz7 k1_HBz7 k2_HBz7 kl_HBz7 k0_HBq7 k1_HBq7 k2_HBq7 kl_HBq7
        cases j3 with
        | false =>
          go_wp2_with fail
          with_reducible refine (HAw.out _).mono ?_
          rintro en u8 ⟨rfl, hb8⟩
          have hX8 := HXa7V.out.trans (hb8.mono HXa7V.out.size)
          have HX8 := Lib.hid hX8
          obtain ⟨k0_HB08, k1_HB08, k2_HB08, kl_HB08⟩ := HB0.out _ hX8
          obtain ⟨k0_HB18, k1_HB18, k2_HB18, kl_HB18⟩ := HB1.out _ hX8
          have hU8 := HUa7V.out.trans (hb8.mono HUa7V.out.size)
          have HU8 := Lib.hid hU8
          have hY8 := HYa7V.out.trans (hb8.mono HYa7V.out.size)
          have HY8 := Lib.hid hY8
          obtain ⟨k0_HBy8, k1_HBy8, k2_HBy8, kl_HBy8⟩ := HBy.out _ hY8
          have hT8 := HTa7V.out.trans (hb8.mono HTa7V.out.size)
          have HT8 := Lib.hid hT8
          have hZ8 := HZa7V.out.trans (hb8.mono HZa7V.out.size)
          have HZ8 := Lib.hid hZ8
          obtain ⟨k0_HBz8, k1_HBz8, k2_HBz8, kl_HBz8⟩ := HBz.out _ hZ8
          have hO8 := HOa7V.out.trans (hb8.mono HOa7V.out.size)
          have HO8 := Lib.hid hO8
          have hQ8 := HQa7V.out.trans (hb8.mono HQa7V.out.size)
          have HQ8 := Lib.hid hQ8
          obtain ⟨k0_HBq8, k1_HBq8, k2_HBq8, kl_HBq8⟩ := HBq.out _ hQ8
          have hJ8 := HJa7V.out.trans (hb8.mono HJa7V.out.size)
          have HJ8 := Lib.hid hJ8
          have hV8 := HV0.out.trans (hb8.mono HV0.out.size)
          have HV8 := Lib.hid hV8
          obtain ⟨k0_HBv8, k1_HBv8, k2_HBv8, kl_HBv8⟩ := HBv.out _ hV8
          have z8 := hX8.size
          simp only [World.alloc, Array.size_push] at z8
          clear hb8 hX8 hU8 hY8 hT8 hZ8 hO8 hQ8 hJ8 hV8 k0_HB0a7V k1_HB0a7V k2_HB0a7V kl_HB0a7V k0_HB1a7V k1_HB1a7V k2_HB1a7V kl_HB1a7V k0_HBya7V k1_HBya7V k2_HBya7V kl_HBya7V k0_HBza7V k1_HBza7V k2_HBza7V kl_HBza7V k0_HBqa7V k1_HBqa7V k2_HBqa7V kl_HBqa7V k0_HBva7V k1_HBva7V k2_HBva7V kl_HBva7V
          go_wp2
          go_ret
          exact ⟨rfl, HAL.out.trans (HX8.out.mono HAL.out.size)⟩
        | true =>
          go_wp2_with fail
          with_reducible refine (HSC.out _ (HJX.out (by first | rfl | trivial)) HOa7V.out HJa7V.out).mono ?_
          rintro en u8 ⟨rfl, hb8⟩
          have hX8 := HXa7V.out.trans (hb8.mono HXa7V.out.size)
          have HX8 := Lib.hid hX8
          obtain ⟨k0_HB08, k1_HB08, k2_HB08, kl_HB08⟩ := HB0.out _ hX8
          obtain ⟨k0_HB18, k1_HB18, k2_HB18, kl_HB18⟩ := HB1.out _ hX8
          have hU8 := HUa7V.out.trans (hb8.mono HUa7V.out.size)
          have HU8 := Lib.hid hU8
          have hY8 := HYa7V.out.trans (hb8.mono HYa7V.out.size)
          have HY8 := Lib.hid hY8
          obtain ⟨k0_HBy8, k1_HBy8, k2_HBy8, kl_HBy8⟩ := HBy.out _ hY8
          have hT8 := HTa7V.out.trans (hb8.mono HTa7V.out.size)
          have HT8 := Lib.hid hT8
          have hZ8 := HZa7V.out.trans (hb8.mono HZa7V.out.size)
          have HZ8 := Lib.hid hZ8
          obtain ⟨k0_HBz8, k1_HBz8, k2_HBz8, kl_HBz8⟩ := HBz.out _ hZ8
          have hO8 := HOa7V.out.trans (hb8.mono HOa7V.out.size)
          have HO8 := Lib.hid hO8
          have hQ8 := HQa7V.out.trans (hb8.mono HQa7V.out.size)
          have HQ8 := Lib.hid hQ8
          obtain ⟨k0_HBq8, k1_HBq8, k2_HBq8, kl_HBq8⟩ := HBq.out _ hQ8
          have hJ8 := HJa7V.out.trans (hb8.mono HJa7V.out.size)
          have HJ8 := Lib.hid hJ8
          have hV8 := HV0.out.trans (hb8.mono HV0.out.size)
          have HV8 := Lib.hid hV8
          obtain ⟨k0_HBv8, k1_HBv8, k2_HBv8, kl_HBv8⟩ := HBv.out _ hV8
          have z8 := hX8.size
          simp only [World.alloc, Array.size_push] at z8
          clear hb8 hX8 hU8 hY8 hT8 hZ8 hO8 hQ8 hJ8 hV8 k0_HB0a7V k1_HB0a7V k2_HB0a7V kl_HB0a7V k0_HB1a7V k1_HB1a7V k2_HB1a7V kl_HB1a7V k0_HBya7V k1_HBya7V k2_HBya7V kl_HBya7V k0_HBza7V k1_HBza7V k2_HBza7V kl_HBza7V k0_HBqa7V k1_HBqa7V k2_HBqa7V kl_HBqa7V k0_HBva7V k1_HBva7V k2_HBva7V kl_HBva7V
          go_wp2_with fail
          with_reducible refine (HAw.out _).mono ?_
          rintro en u9 ⟨rfl, hb9⟩
          have hX9 := HX8.out.trans (hb9.mono HX8.out.size)
          have HX9 := Lib.hid hX9
          obtain ⟨k0_HB09, k1_HB09, k2_HB09, kl_HB09⟩ := HB0.out _ hX9
          obtain ⟨k0_HB19, k1_HB19, k2_HB19, kl_HB19⟩ := HB1.out _ hX9
          have hU9 := HU8.out.trans (hb9.mono HU8.out.size)
          have HU9 := Lib.hid hU9
          have hY9 := HY8.out.trans (hb9.mono HY8.out.size)
          have HY9 := Lib.hid hY9
          obtain ⟨k0_HBy9, k1_HBy9, k2_HBy9, kl_HBy9⟩ := HBy.out _ hY9
          have hT9 := HT8.out.trans (hb9.mono HT8.out.size)
          have HT9 := Lib.hid hT9
          have hZ9 := HZ8.out.trans (hb9.mono HZ8.out.size)
          have HZ9 := Lib.hid hZ9
          obtain ⟨k0_HBz9, k1_HBz9, k2_HBz9, kl_HBz9⟩ := HBz.out _ hZ9
          have hO9 := HO8.out.trans (hb9.mono HO8.out.size)
          have HO9 := Lib.hid hO9
          have hQ9 := HQ8.out.trans (hb9.mono HQ8.out.size)
          have HQ9 := Lib.hid hQ9
          obtain ⟨k0_HBq9, k1_HBq9, k2_HBq9, kl_HBq9⟩ := HBq.out _ hQ9
          have hJ9 := HJ8.out.trans (hb9.mono HJ8.out.size)
          have HJ9 := Lib.hid hJ9
          have hV9 := HV8.out.trans (hb9.mono HV8.out.size)
          have HV9 := Lib.hid hV9
          obtain ⟨k0_HBv9, k1_HBv9, k2_HBv9, kl_HBv9⟩ := HBv.out _ hV9
          have z9 := hX9.size
          simp only [World.alloc, Array.size_push] at z9
          clear hb9 hX9 hU9 hY9 hT9 hZ9 hO9 hQ9 hJ9 hV9 k0_HB08 k1_HB08 k2_HB08 kl_HB08 k0_HB18 k1_HB18 k2_HB18 kl_HB18 k0_HBy8 k1_HBy8 k2_HBy8 kl_HBy8 k0_HBz8 k1_HBz8 k2_HBz8 kl_HBz8 k0_HBq8 k1_HBq8 k2_HBq8 kl_HBq8 k0_HBv8 k1_HBv8 k2_HBv8 kl_HBv8
          go_wp2
          go_ret
          exact ⟨rfl, HAL.out.trans (HX9.out.mono HAL.out.size)⟩

end Go.Proofs.YtpdkecchpidhdaaGreatDoor.regionMeetMeans
