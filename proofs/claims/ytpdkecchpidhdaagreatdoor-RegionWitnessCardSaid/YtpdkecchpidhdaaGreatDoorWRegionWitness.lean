/- RegionWitness returns true at every region and every string (the card: the variables that it lists hold what the program text lays). Conditions: none of its own. -/
import Derived.Test.YtpdkecchpidhdaaGreatDoorCards
import Derived.Test.YtpdkecchpidhdaaGreatDoorTie
import Derived.WalkKit
import Derived.ProofKit
import Derived.OpenShut
import Derived.ShutString
import Derived.Test.YtpdkecchpidhdaaGreatDoorPatOpen
import Derived.Test.YtpdkecchpidhdaaGreatDoorRegOpen
import Derived.Test.YtpdkecchpidhdaaGreatDoorRegAwake
import Derived.Test.YtpdkecchpidhdaaGreatDoorRegPoint
import Derived.Test.YtpdkecchpidhdaaGreatDoorRegOrd
namespace Go.Proofs.YtpdkecchpidhdaaGreatDoor.regionWitness
open Go.ChangeShapes Go.WideShapes Go.ChangeAt Go.RowKit
open Go.ChangeMaps (open_string shut_string)
set_option linter.unusedVariables false

set_option maxHeartbeats 8000000 in
theorem walk (w : World) (A0 : Option Addr) (xs0 : List ByteArray) (c0 : Nat) (b0 : Bool) (K0 : Option Addr) (bl0 : List BindV) (e0 : Nat) (hg0 : RegR w A0 xs0 c0 b0 K0 bl0 e0 ⟨⟨bs xs0, b0⟩, bl0.map BindV.pat⟩) (hz0 : ∀ x ∈ xs0, x.size ≤ 140737488355000) (hy0 : ∀ x ∈ bl0, ∀ y ∈ x.xs, y.size ≤ 140737488355000) (hx0 : xs0.length ≤ 140737488355328) (hl0 : ∀ x ∈ bl0, x.xs.length ≤ 140737488355328) (s1 : ByteArray) (w1 : s1.size ≤ maxLen) (hm : MaxL w) :
    Calls Tryz.prog 8 #[regV A0 xs0.length c0 b0 K0 bl0.length e0, .string s1] w fun e w' => e = .returned (.bool true) ∧ Below w.heap.size w w' := by
  obtain ⟨W0, hW0⟩ : ∃ W0, W0 = w.alloc (regObj A0 xs0.length c0 b0 K0 bl0.length e0) := ⟨_, rfl⟩
  have hal : Below w.heap.size w W0 := by rw [hW0]; exact (Below.refl _ _).alloc (Nat.le_refl _) _
  have HX0 := Lib.hid (Below.refl W0.heap.size W0)
  have HAL := Lib.hid hal
  have hgb0 : GBox W0 w.heap.size A0 xs0.length c0 b0 K0 bl0.length e0 := by rw [hW0]; exact GBox.new ..
  have HB0 := Lib.hid (fun (w' : World) (hb : Below W0.heap.size W0 w') => hgb0.keep hb)
  have hm0 := hm.keep hal hm.size
  have HMX := Lib.hid (fun (w' : World) (hb : Below W0.heap.size W0 w') => hm0.keep hb hm0.size)
  have HAw := Lib.hid (fun (w' : World) => awake5_any w')
  have HSm0 := Lib.hid (fun (w' : World) (hb : Below W0.heap.size W0 w') => small5_any A0 xs0 c0 b0 K0 bl0 e0 _ w' (hg0.keep (hal.trans (hb.mono hal.size))) hx0 hl0)
  generalize hs0 : smallG xs0 bl0 = sm0 at HSm0
  cases sm0 with
  | false =>
    clear hg0 hz0 hy0 hx0 hl0
    clear hs0
    generalize xs0.length = nx0 at *
    generalize bl0.length = nb0 at *
    obtain ⟨k0_, k1_, k2_, kl_⟩ := hgb0
    subst hW0
    clear hal hm0
    go_enter Tryz.func8, Tryz.ntmps8
    go_wp2_with fail
    with_reducible refine (HSm0.out _ HX0.out).mono ?_
    rintro en u1 ⟨rfl, hb1⟩
    have hX1 := HX0.out.trans (hb1.mono HX0.out.size)
    have HX1 := Lib.hid hX1
    obtain ⟨k0_HB01, k1_HB01, k2_HB01, kl_HB01⟩ := HB0.out _ hX1
    have z1 := hX1.size
    simp only [World.alloc, Array.size_push] at z1
    clear hb1 hX1 k0_ k1_ k2_ kl_
    go_wp2_with fail
    with_reducible refine (HAw.out _).mono ?_
    rintro en u2 ⟨rfl, hb2⟩
    have hX2 := HX1.out.trans (hb2.mono HX1.out.size)
    have HX2 := Lib.hid hX2
    obtain ⟨k0_HB02, k1_HB02, k2_HB02, kl_HB02⟩ := HB0.out _ hX2
    have z2 := hX2.size
    simp only [World.alloc, Array.size_push] at z2
    clear hb2 hX2 k0_HB01 k1_HB01 k2_HB01 kl_HB01
    go_wp2
    go_ret
    exact ⟨rfl, HAL.out.trans (HX2.out.mono HAL.out.size)⟩
  | true =>
    have sz0 := small_szG (b := b0) hs0
    obtain ⟨f0, f0a, f0b, f0c, f0d⟩ := smallG_facts hs0
    clear hs0
    by_cases h300 : s1.size ≤ 300
    rotate_left
    · have i3 : (300 : Int) < (s1.size : Int) := by omega
      clear hg0 hz0 hy0 hx0 hl0
      clear sz0 f0 f0a f0b f0c f0d
      clear h300
      generalize xs0.length = nx0 at *
      generalize bl0.length = nb0 at *
      obtain ⟨k0_, k1_, k2_, kl_⟩ := hgb0
      subst hW0
      clear hal hm0
      go_enter Tryz.func8, Tryz.ntmps8
      go_wp2_with fail
      with_reducible refine (HSm0.out _ HX0.out).mono ?_
      rintro en u1 ⟨rfl, hb1⟩
      have hX1 := HX0.out.trans (hb1.mono HX0.out.size)
      have HX1 := Lib.hid hX1
      obtain ⟨k0_HB01, k1_HB01, k2_HB01, kl_HB01⟩ := HB0.out _ hX1
      have z1 := hX1.size
      simp only [World.alloc, Array.size_push] at z1
      clear hb1 hX1 k0_ k1_ k2_ kl_
      go_wp2_with fail
      with_reducible refine (HAw.out _).mono ?_
      rintro en u2 ⟨rfl, hb2⟩
      have hX2 := HX1.out.trans (hb2.mono HX1.out.size)
      have HX2 := Lib.hid hX2
      obtain ⟨k0_HB02, k1_HB02, k2_HB02, kl_HB02⟩ := HB0.out _ hX2
      have z2 := hX2.size
      simp only [World.alloc, Array.size_push] at z2
      clear hb2 hX2 k0_HB01 k1_HB01 k2_HB01 kl_HB01
      go_wp2
      go_ret
      exact ⟨rfl, HAL.out.trans (HX2.out.mono HAL.out.size)⟩
    have i3 : ¬ (300 : Int) < (s1.size : Int) := by omega
    have h4 : s1.size < 4294967281 := by omega
    clear h300
    obtain ⟨g0, hgg0⟩ : ∃ g : Pt.Rg.Reg, g = ⟨⟨bs xs0, b0⟩, bl0.map BindV.pat⟩ := ⟨_, rfl⟩
    rw [← hgg0] at hg0 sz0
    clear hgg0
    have HC := Lib.hid (fun (w' : World) (hb : Below W0.heap.size W0 w') => gcheck_any A0 xs0 c0 b0 K0 bl0 e0 g0 w' (hg0.keep (hal.trans (hb.mono hal.size))))
    by_cases hk : Pt.Rg.gcheck g0 = 0
    rotate_left
    · generalize Pt.Rg.gcheck g0 = k at *
      have i1 : ((k : Int) == 0) = false := by rw [beq_eq_false_iff_ne]; omega
      have i2 : ((k : Int) != 0) = true := by rw [bne, i1]; rfl
      clear hk
      clear hg0 hz0 hy0 hx0 hl0
      clear sz0 f0 f0a f0b f0c f0d h4
      generalize xs0.length = nx0 at *
      generalize bl0.length = nb0 at *
      obtain ⟨k0_, k1_, k2_, kl_⟩ := hgb0
      subst hW0
      clear hal hm0
      go_enter Tryz.func8, Tryz.ntmps8
      go_wp2_with fail
      with_reducible refine (HSm0.out _ HX0.out).mono ?_
      rintro en u1 ⟨rfl, hb1⟩
      have hX1 := HX0.out.trans (hb1.mono HX0.out.size)
      have HX1 := Lib.hid hX1
      obtain ⟨k0_HB01, k1_HB01, k2_HB01, kl_HB01⟩ := HB0.out _ hX1
      have z1 := hX1.size
      simp only [World.alloc, Array.size_push] at z1
      clear hb1 hX1 k0_ k1_ k2_ kl_
      go_wp2_with fail
      with_reducible refine (HC.out _ HX1.out).mono ?_
      rintro en u2 ⟨rfl, hb2⟩
      have hX2 := HX1.out.trans (hb2.mono HX1.out.size)
      have HX2 := Lib.hid hX2
      obtain ⟨k0_HB02, k1_HB02, k2_HB02, kl_HB02⟩ := HB0.out _ hX2
      have z2 := hX2.size
      simp only [World.alloc, Array.size_push] at z2
      clear hb2 hX2 k0_HB01 k1_HB01 k2_HB01 kl_HB01
      go_wp2_with fail
      with_reducible refine (HAw.out _).mono ?_
      rintro en u3 ⟨rfl, hb3⟩
      have hX3 := HX2.out.trans (hb3.mono HX2.out.size)
      have HX3 := Lib.hid hX3
      obtain ⟨k0_HB03, k1_HB03, k2_HB03, kl_HB03⟩ := HB0.out _ hX3
      have z3 := hX3.size
      simp only [World.alloc, Array.size_push] at z3
      clear hb3 hX3 k0_HB02 k1_HB02 k2_HB02 kl_HB02
      go_wp2
      go_ret
      exact ⟨rfl, HAL.out.trans (HX3.out.mono HAL.out.size)⟩
    have HE := Lib.hid (fun (w' : World) (hb : Below W0.heap.size W0 w') => show Calls Tryz.prog 21 #[regV A0 xs0.length c0 b0 K0 bl0.length e0] w' (GivesTBN w' (!(leastR g0).isSome) 0) from by
        have h := empty_any A0 xs0 c0 b0 K0 bl0 e0 g0 w' (hg0.keep (hal.trans (hb.mono hal.size))) (sz0.short (by decide))
        rw [hk, decide_eq_true rfl, Bool.true_and, empty_val hk] at h
        exact h)
    have HL := Lib.hid (fun (w' : World) (hb : Below W0.heap.size W0 w') => show Calls Tryz.prog 22 #[regV A0 xs0.length c0 b0 K0 bl0.length e0] w' (GivesLst w' (leastR g0) 0) from by
        have h := least_any A0 xs0 c0 b0 K0 bl0 e0 g0 w' (hg0.keep (hal.trans (hb.mono hal.size))) (sz0.short (by decide)) (sz0.base (by decide))
        rw [hk] at h
        exact h)
    have HHS := Lib.hid (fun (w' : World) (hb : Below W0.heap.size W0 w') (t : ByteArray) (ht : t.size < 4294967281) => show Calls Tryz.prog 29 #[regV A0 xs0.length c0 b0 K0 bl0.length e0, .string t] w' (GivesBB w' (g0.has t.data.toList)) from by
        have h := ghas_any A0 xs0 c0 b0 K0 bl0 e0 g0 t w' (hg0.keep (hal.trans (hb.mono hal.size))) ht (hm0.keep hb hm0.size)
        rw [hk, decide_eq_true rfl, Bool.true_and] at h
        exact h)
    have hh1 := fun (w' : World) (hb : Below W0.heap.size W0 w') => HHS.out w' hb s1 h4
    rw [hk] at HC
    cases ho : leastR g0 with
    | none =>
      rw [ho] at HE HL
      rw [least_none hk ho] at hh1
      have HH1 := Lib.hid hh1
      have hh2 := fun (w' : World) (hb : Below W0.heap.size W0 w') => HHS.out w' hb ⟨#[]⟩ (by decide)
      rw [least_none hk ho] at hh2
      have HH2 := Lib.hid hh2
      clear hh1 hh2 ho hk HHS
      unfold GivesLst leastS at HL
      simp only [Option.isSome_none, Bool.not_false] at HE HL
      clear hg0 hz0 hy0 hx0 hl0
      clear sz0 f0 f0a f0b f0c f0d h4
      generalize xs0.length = nx0 at *
      generalize bl0.length = nb0 at *
      obtain ⟨k0_, k1_, k2_, kl_⟩ := hgb0
      subst hW0
      clear hal hm0
      go_enter Tryz.func8, Tryz.ntmps8
      go_wp2_with fail
      with_reducible refine (HSm0.out _ HX0.out).mono ?_
      rintro en u1 ⟨rfl, hb1⟩
      have hX1 := HX0.out.trans (hb1.mono HX0.out.size)
      have HX1 := Lib.hid hX1
      obtain ⟨k0_HB01, k1_HB01, k2_HB01, kl_HB01⟩ := HB0.out _ hX1
      have z1 := hX1.size
      simp only [World.alloc, Array.size_push] at z1
      clear hb1 hX1 k0_ k1_ k2_ kl_
      go_wp2_with fail
      with_reducible refine (HC.out _ HX1.out).mono ?_
      rintro en u2 ⟨rfl, hb2⟩
      have hX2 := HX1.out.trans (hb2.mono HX1.out.size)
      have HX2 := Lib.hid hX2
      obtain ⟨k0_HB02, k1_HB02, k2_HB02, kl_HB02⟩ := HB0.out _ hX2
      have z2 := hX2.size
      simp only [World.alloc, Array.size_push] at z2
      clear hb2 hX2 k0_HB01 k1_HB01 k2_HB01 kl_HB01
      go_wp2_with fail
      with_reducible refine (HE.out _ HX2.out).mono ?_
      rintro en u3 ⟨rfl, hb3⟩
      have hX3 := HX2.out.trans (hb3.mono HX2.out.size)
      have HX3 := Lib.hid hX3
      obtain ⟨k0_HB03, k1_HB03, k2_HB03, kl_HB03⟩ := HB0.out _ hX3
      have z3 := hX3.size
      simp only [World.alloc, Array.size_push] at z3
      clear hb3 hX3 k0_HB02 k1_HB02 k2_HB02 kl_HB02
      go_wp2_with fail
      with_reducible refine (HL.out _ HX3.out).mono ?_
      rintro en u4 ⟨rfl, hb4⟩
      have hX4 := HX3.out.trans (hb4.mono HX3.out.size)
      have HX4 := Lib.hid hX4
      obtain ⟨k0_HB04, k1_HB04, k2_HB04, kl_HB04⟩ := HB0.out _ hX4
      have z4 := hX4.size
      simp only [World.alloc, Array.size_push] at z4
      clear hb4 hX4 k0_HB03 k1_HB03 k2_HB03 kl_HB03
      go_wp2_with fail
      with_reducible refine (HH2.out _ HX4.out).mono ?_
      rintro en u5 ⟨rfl, hb5⟩
      have hX5 := HX4.out.trans (hb5.mono HX4.out.size)
      have HX5 := Lib.hid hX5
      obtain ⟨k0_HB05, k1_HB05, k2_HB05, kl_HB05⟩ := HB0.out _ hX5
      have z5 := hX5.size
      simp only [World.alloc, Array.size_push] at z5
      clear hb5 hX5 k0_HB04 k1_HB04 k2_HB04 kl_HB04
      go_wp2_with fail
      with_reducible refine (HH1.out _ HX5.out).mono ?_
      rintro en u6 ⟨rfl, hb6⟩
      have hX6 := HX5.out.trans (hb6.mono HX5.out.size)
      have HX6 := Lib.hid hX6
      obtain ⟨k0_HB06, k1_HB06, k2_HB06, kl_HB06⟩ := HB0.out _ hX6
      have z6 := hX6.size
      simp only [World.alloc, Array.size_push] at z6
      clear hb6 hX6 k0_HB05 k1_HB05 k2_HB05 kl_HB05
      go_wp2_with fail
      with_reducible refine (HAw.out _).mono ?_
      rintro en u7 ⟨rfl, hb7⟩
      have hX7 := HX6.out.trans (hb7.mono HX6.out.size)
      have HX7 := Lib.hid hX7
      obtain ⟨k0_HB07, k1_HB07, k2_HB07, kl_HB07⟩ := HB0.out _ hX7
      have z7 := hX7.size
      simp only [World.alloc, Array.size_push] at z7
      clear hb7 hX7 k0_HB06 k1_HB06 k2_HB06 kl_HB06
      go_wp2
      go_ret
      exact ⟨rfl, HAL.out.trans (HX7.out.mono HAL.out.size)⟩
    | some l =>
      obtain ⟨q1, q2, q3, q4⟩ := least_has hk ho
      have hS1 := leastS_size hk sz0 ho
      have hS2 := leastS_text l
      rw [ho] at HE HL
      unfold GivesLst at HL
      simp only [Option.isSome_some, Bool.not_true] at HE HL
      have hh2 := fun (w' : World) (hb : Below W0.heap.size W0 w') => HHS.out w' hb (leastS (some l)) (by omega)
      rw [hS2, q1] at hh2
      have HH2 := Lib.hid hh2
      have q5 : Pt.pathO (leastS (some l)).data.toList = some l := by rw [hS2]; exact Pt.pathO_some.2 ⟨rfl, q2, q3⟩
      cases hr : g0.has s1.data.toList with
      | false =>
        rw [hr] at hh1
        have HH1 := Lib.hid hh1
        clear hh1 hh2 ho hk HHS q1 q2 q3 q4 q5 hS1 hS2 hr
        generalize leastS (some l) = S at *
        clear hg0 hz0 hy0 hx0 hl0
        clear sz0 f0 f0a f0b f0c f0d h4
        generalize xs0.length = nx0 at *
        generalize bl0.length = nb0 at *
        obtain ⟨k0_, k1_, k2_, kl_⟩ := hgb0
        subst hW0
        clear hal hm0
        go_enter Tryz.func8, Tryz.ntmps8
        go_wp2_with fail
        with_reducible refine (HSm0.out _ HX0.out).mono ?_
        rintro en u1 ⟨rfl, hb1⟩
        have hX1 := HX0.out.trans (hb1.mono HX0.out.size)
        have HX1 := Lib.hid hX1
        obtain ⟨k0_HB01, k1_HB01, k2_HB01, kl_HB01⟩ := HB0.out _ hX1
        have z1 := hX1.size
        simp only [World.alloc, Array.size_push] at z1
        clear hb1 hX1 k0_ k1_ k2_ kl_
        go_wp2_with fail
        with_reducible refine (HC.out _ HX1.out).mono ?_
        rintro en u2 ⟨rfl, hb2⟩
        have hX2 := HX1.out.trans (hb2.mono HX1.out.size)
        have HX2 := Lib.hid hX2
        obtain ⟨k0_HB02, k1_HB02, k2_HB02, kl_HB02⟩ := HB0.out _ hX2
        have z2 := hX2.size
        simp only [World.alloc, Array.size_push] at z2
        clear hb2 hX2 k0_HB01 k1_HB01 k2_HB01 kl_HB01
        go_wp2_with fail
        with_reducible refine (HE.out _ HX2.out).mono ?_
        rintro en u3 ⟨rfl, hb3⟩
        have hX3 := HX2.out.trans (hb3.mono HX2.out.size)
        have HX3 := Lib.hid hX3
        obtain ⟨k0_HB03, k1_HB03, k2_HB03, kl_HB03⟩ := HB0.out _ hX3
        have z3 := hX3.size
        simp only [World.alloc, Array.size_push] at z3
        clear hb3 hX3 k0_HB02 k1_HB02 k2_HB02 kl_HB02
        go_wp2_with fail
        with_reducible refine (HL.out _ HX3.out).mono ?_
        rintro en u4 ⟨rfl, hb4⟩
        have hX4 := HX3.out.trans (hb4.mono HX3.out.size)
        have HX4 := Lib.hid hX4
        obtain ⟨k0_HB04, k1_HB04, k2_HB04, kl_HB04⟩ := HB0.out _ hX4
        have z4 := hX4.size
        simp only [World.alloc, Array.size_push] at z4
        clear hb4 hX4 k0_HB03 k1_HB03 k2_HB03 kl_HB03
        go_wp2_with fail
        with_reducible refine (HH2.out _ HX4.out).mono ?_
        rintro en u5 ⟨rfl, hb5⟩
        have hX5 := HX4.out.trans (hb5.mono HX4.out.size)
        have HX5 := Lib.hid hX5
        obtain ⟨k0_HB05, k1_HB05, k2_HB05, kl_HB05⟩ := HB0.out _ hX5
        have z5 := hX5.size
        simp only [World.alloc, Array.size_push] at z5
        clear hb5 hX5 k0_HB04 k1_HB04 k2_HB04 kl_HB04
        go_wp2_with fail
        with_reducible refine (HH1.out _ HX5.out).mono ?_
        rintro en u6 ⟨rfl, hb6⟩
        have hX6 := HX5.out.trans (hb6.mono HX5.out.size)
        have HX6 := Lib.hid hX6
        obtain ⟨k0_HB06, k1_HB06, k2_HB06, kl_HB06⟩ := HB0.out _ hX6
        have z6 := hX6.size
        simp only [World.alloc, Array.size_push] at z6
        clear hb6 hX6 k0_HB05 k1_HB05 k2_HB05 kl_HB05
        go_wp2_with fail
        with_reducible refine (HAw.out _).mono ?_
        rintro en u7 ⟨rfl, hb7⟩
        have hX7 := HX6.out.trans (hb7.mono HX6.out.size)
        have HX7 := Lib.hid hX7
        obtain ⟨k0_HB07, k1_HB07, k2_HB07, kl_HB07⟩ := HB0.out _ hX7
        have z7 := hX7.size
        simp only [World.alloc, Array.size_push] at z7
        clear hb7 hX7 k0_HB06 k1_HB06 k2_HB06 kl_HB06
        go_wp2
        go_ret
        exact ⟨rfl, HAL.out.trans (HX7.out.mono HAL.out.size)⟩
      | true =>
        obtain ⟨m, hm1⟩ := has_pathO hr
        have hz := q4 _ m hm1 hr
        rw [hr] at hh1
        have HH1 := Lib.hid hh1
        have HO := Lib.hid (fun (w' : World) (hb : Below W0.heap.size W0 w') => order_any (leastS (some l)) s1 l m w' (by omega) h4 (hm0.keep hb hm0.size) q5 hm1)
        clear hh1 hh2 ho hk HHS q1 q2 q3 q4 q5 hS1 hS2 hr hm1
        generalize leastS (some l) = S at *
        generalize Pt.Rg.ordP l m = z at *
        clear hg0 hz0 hy0 hx0 hl0
        clear sz0 f0 f0a f0b f0c f0d h4
        generalize xs0.length = nx0 at *
        generalize bl0.length = nb0 at *
        obtain ⟨k0_, k1_, k2_, kl_⟩ := hgb0
        subst hW0
        clear hal hm0
        go_enter Tryz.func8, Tryz.ntmps8
        go_wp2_with fail
        with_reducible refine (HSm0.out _ HX0.out).mono ?_
        rintro en u1 ⟨rfl, hb1⟩
        have hX1 := HX0.out.trans (hb1.mono HX0.out.size)
        have HX1 := Lib.hid hX1
        obtain ⟨k0_HB01, k1_HB01, k2_HB01, kl_HB01⟩ := HB0.out _ hX1
        have z1 := hX1.size
        simp only [World.alloc, Array.size_push] at z1
        clear hb1 hX1 k0_ k1_ k2_ kl_
        go_wp2_with fail
        with_reducible refine (HC.out _ HX1.out).mono ?_
        rintro en u2 ⟨rfl, hb2⟩
        have hX2 := HX1.out.trans (hb2.mono HX1.out.size)
        have HX2 := Lib.hid hX2
        obtain ⟨k0_HB02, k1_HB02, k2_HB02, kl_HB02⟩ := HB0.out _ hX2
        have z2 := hX2.size
        simp only [World.alloc, Array.size_push] at z2
        clear hb2 hX2 k0_HB01 k1_HB01 k2_HB01 kl_HB01
        go_wp2_with fail
        with_reducible refine (HE.out _ HX2.out).mono ?_
        rintro en u3 ⟨rfl, hb3⟩
        have hX3 := HX2.out.trans (hb3.mono HX2.out.size)
        have HX3 := Lib.hid hX3
        obtain ⟨k0_HB03, k1_HB03, k2_HB03, kl_HB03⟩ := HB0.out _ hX3
        have z3 := hX3.size
        simp only [World.alloc, Array.size_push] at z3
        clear hb3 hX3 k0_HB02 k1_HB02 k2_HB02 kl_HB02
        go_wp2_with fail
        with_reducible refine (HL.out _ HX3.out).mono ?_
        rintro en u4 ⟨rfl, hb4⟩
        have hX4 := HX3.out.trans (hb4.mono HX3.out.size)
        have HX4 := Lib.hid hX4
        obtain ⟨k0_HB04, k1_HB04, k2_HB04, kl_HB04⟩ := HB0.out _ hX4
        have z4 := hX4.size
        simp only [World.alloc, Array.size_push] at z4
        clear hb4 hX4 k0_HB03 k1_HB03 k2_HB03 kl_HB03
        go_wp2_with fail
        with_reducible refine (HH2.out _ HX4.out).mono ?_
        rintro en u5 ⟨rfl, hb5⟩
        have hX5 := HX4.out.trans (hb5.mono HX4.out.size)
        have HX5 := Lib.hid hX5
        obtain ⟨k0_HB05, k1_HB05, k2_HB05, kl_HB05⟩ := HB0.out _ hX5
        have z5 := hX5.size
        simp only [World.alloc, Array.size_push] at z5
        clear hb5 hX5 k0_HB04 k1_HB04 k2_HB04 kl_HB04
        go_wp2_with fail
        with_reducible refine (HH1.out _ HX5.out).mono ?_
        rintro en u6 ⟨rfl, hb6⟩
        have hX6 := HX5.out.trans (hb6.mono HX5.out.size)
        have HX6 := Lib.hid hX6
        obtain ⟨k0_HB06, k1_HB06, k2_HB06, kl_HB06⟩ := HB0.out _ hX6
        have z6 := hX6.size
        simp only [World.alloc, Array.size_push] at z6
        clear hb6 hX6 k0_HB05 k1_HB05 k2_HB05 kl_HB05
        go_wp2_with fail
        with_reducible refine (HO.out _ HX6.out).mono ?_
        rintro en u7 ⟨rfl, hb7⟩
        have hX7 := HX6.out.trans (hb7.mono HX6.out.size)
        have HX7 := Lib.hid hX7
        obtain ⟨k0_HB07, k1_HB07, k2_HB07, kl_HB07⟩ := HB0.out _ hX7
        have z7 := hX7.size
        simp only [World.alloc, Array.size_push] at z7
        clear hb7 hX7 k0_HB06 k1_HB06 k2_HB06 kl_HB06
        go_wp2_with fail
        with_reducible refine (HAw.out _).mono ?_
        rintro en u8 ⟨rfl, hb8⟩
        have hX8 := HX7.out.trans (hb8.mono HX7.out.size)
        have HX8 := Lib.hid hX8
        obtain ⟨k0_HB08, k1_HB08, k2_HB08, kl_HB08⟩ := HB0.out _ hX8
        have z8 := hX8.size
        simp only [World.alloc, Array.size_push] at z8
        clear hb8 hX8 k0_HB07 k1_HB07 k2_HB07 kl_HB07
        go_wp2
        go_ret
        exact ⟨rfl, HAL.out.trans (HX8.out.mono HAL.out.size)⟩

end Go.Proofs.YtpdkecchpidhdaaGreatDoor.regionWitness
