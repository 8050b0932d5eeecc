/- RegionLeasts returns true at every region (the card: the variables that it lists hold what the program text lays). Conditions: none of its own. -/
import Derived.Test.YtembmegllpkmfaaGreatDoorCards
import Derived.Test.YtembmegllpkmfaaGreatDoorTie
import Derived.WalkKit
import Derived.ProofKit
import Derived.OpenShut
import Derived.ShutString
import Derived.Test.YtembmegllpkmfaaGreatDoorPatOpen
import Derived.Test.YtembmegllpkmfaaGreatDoorRegOpen
import Derived.Test.YtembmegllpkmfaaGreatDoorRegAwake
import Derived.Test.YtembmegllpkmfaaGreatDoorRegShort
import Derived.Test.YtembmegllpkmfaaGreatDoorRegRL
import Derived.Test.YtembmegllpkmfaaGreatDoorRegPoint
namespace Go.Proofs.YtembmegllpkmfaaGreatDoor.regionLeasts
open Go.ChangeShapes Go.WideShapes Go.ChangeAt Go.RowKit
open Go.ChangeMaps (open_string shut_string)
set_option linter.unusedVariables false

set_option maxHeartbeats 8000000 in
theorem walk (w : World) (A0 : Option Addr) (xs0 : List ByteArray) (c0 : Nat) (b0 : Bool) (K0 : Option Addr) (bl0 : List BindV) (e0 : Nat) (hg0 : RegR w A0 xs0 c0 b0 K0 bl0 e0 ⟨⟨bs xs0, b0⟩, bl0.map BindV.pat⟩) (hz0 : ∀ x ∈ xs0, x.size ≤ 140737488355000) (hy0 : ∀ x ∈ bl0, ∀ y ∈ x.xs, y.size ≤ 140737488355000) (hx0 : xs0.length ≤ 140737488355328) (hl0 : ∀ x ∈ bl0, x.xs.length ≤ 140737488355328) (hm : MaxL w) :
    Calls Tryz.prog 3 #[regV A0 xs0.length c0 b0 K0 bl0.length e0] w fun e w' => e = .returned (.bool true) ∧ Below w.heap.size w w' := by
  obtain ⟨W0, hW0⟩ : ∃ W0, W0 = w.alloc (regObj A0 xs0.length c0 b0 K0 bl0.length e0) := ⟨_, rfl⟩
  have hal : Below w.heap.size w W0 := by rw [hW0]; exact (Below.refl _ _).alloc (Nat.le_refl _) _
  have HX0 := Lib.hid (Below.refl W0.heap.size W0)
  have HAL := Lib.hid hal
  have hgb0 : GBox W0 w.heap.size A0 xs0.length c0 b0 K0 bl0.length e0 := by rw [hW0]; exact GBox.new ..
  have HB0 := Lib.hid (fun (w' : World) (hb : Below W0.heap.size W0 w') => hgb0.keep hb)
  have hm0 := hm.keep hal hm.size
  have HMX := Lib.hid (fun (w' : World) (hb : Below W0.heap.size W0 w') => hm0.keep hb hm0.size)
  have HAw := Lib.hid (fun (w' : World) => awake5_any w')
  have HSm0 := Lib.hid (fun (w' : World) (hb : Below W0.heap.size W0 w') => small5_any A0 xs0 c0 b0 K0 bl0 e0 _ w' (hg0.keep (hal.trans (hb.mono hal.size))) hx0 hl0)
  generalize hs0 : smallG xs0 bl0 = sm0 at HSm0
  cases sm0 with
  | false =>
    clear hg0 hz0 hy0 hx0 hl0
    clear hs0
    generalize xs0.length = nx0 at *
    generalize bl0.length = nb0 at *
    obtain ⟨k0_, k1_, k2_, kl_⟩ := hgb0
    subst hW0
    clear hal hm0
    go_enter Tryz.func3, Tryz.ntmps3
    go_wp2_with fail
    with_reducible refine (HSm0.out _ HX0.out).mono ?_
    rintro en u1 ⟨rfl, hb1⟩
    have hX1 := HX0.out.trans (hb1.mono HX0.out.size)
    have HX1 := Lib.hid hX1
    obtain ⟨k0_HB01, k1_HB01, k2_HB01, kl_HB01⟩ := HB0.out _ hX1
    have z1 := hX1.size
    simp only [World.alloc, Array.size_push] at z1
    clear hb1 hX1 k0_ k1_ k2_ kl_
    go_wp2_with fail
    with_reducible refine (HAw.out _).mono ?_
    rintro en u2 ⟨rfl, hb2⟩
    have hX2 := HX1.out.trans (hb2.mono HX1.out.size)
    have HX2 := Lib.hid hX2
    obtain ⟨k0_HB02, k1_HB02, k2_HB02, kl_HB02⟩ := HB0.out _ hX2
    have z2 := hX2.size
    simp only [World.alloc, Array.size_push] at z2
    clear hb2 hX2 k0_HB01 k1_HB01 k2_HB01 kl_HB01
    go_wp2
    go_ret
    exact ⟨rfl, HAL.out.trans (HX2.out.mono HAL.out.size)⟩
  | true =>
    have sz0 := small_szG (b := b0) hs0
    obtain ⟨f0, f0a, f0b, f0c, f0d⟩ := smallG_facts hs0
    clear hs0
    obtain ⟨g0, hgg0⟩ : ∃ g : Pt.Rg.Reg, g = ⟨⟨bs xs0, b0⟩, bl0.map BindV.pat⟩ := ⟨_, rfl⟩
    rw [← hgg0] at hg0 sz0
    clear hgg0
    have HC := Lib.hid (fun (w' : World) (hb : Below W0.heap.size W0 w') => ggcheck_any A0 xs0 c0 b0 K0 bl0 e0 g0 w' (hg0.keep (hal.trans (hb.mono hal.size))))
    have HL := Lib.hid (fun (w' : World) (hb : Below W0.heap.size W0 w') => least_any A0 xs0 c0 b0 K0 bl0 e0 g0 w' (hg0.keep (hal.trans (hb.mono hal.size))) (sz0.short (by decide)) (sz0.base (by decide)))
    by_cases hk : Pt.Rg.gcheck g0 = 0
    rotate_left
    · have HE := Lib.hid (fun (w' : World) (hb : Below W0.heap.size W0 w') => show Calls Tryz.prog 11 #[regV A0 xs0.length c0 b0 K0 bl0.length e0] w' (GivesTBN w' false (Pt.Rg.gcheck g0)) from by
        have h := empty_any A0 xs0 c0 b0 K0 bl0 e0 g0 w' (hg0.keep (hal.trans (hb.mono hal.size))) (sz0.short (by decide))
        rw [decide_eq_false hk, Bool.false_and] at h
        exact h)
      have hln : leastR g0 = none := by unfold leastR; rw [if_neg hk]
      have HL2 := Lib.hid (fun (w' : World) (hb : Below W0.heap.size W0 w') => show Calls Tryz.prog 12 #[regV A0 xs0.length c0 b0 K0 bl0.length e0] w' (fun e w'' => e = .returned (.tuple #[.string ⟨#[]⟩, .bool false, .int .i64 (Pt.Rg.gcheck g0 : Int)]) ∧ Below w'.heap.size w' w'') from by have h9 := HL.out w' hb; rw [hln] at h9; exact h9)
      clear HL
      generalize Pt.Rg.gcheck g0 = k at *
      have i1 : ((k : Int) == 0) = false := by rw [beq_eq_false_iff_ne]; omega
      have i2 : ((k : Int) != 0) = true := by rw [bne, i1]; rfl
      have i3 : ((k : Int) == (k : Int)) = true := by simp
      clear hk hln
      clear hg0 hz0 hy0 hx0 hl0
      clear sz0 f0 f0a f0b f0c f0d
      generalize xs0.length = nx0 at *
      generalize bl0.length = nb0 at *
      obtain ⟨k0_, k1_, k2_, kl_⟩ := hgb0
      subst hW0
      clear hal hm0
      go_enter Tryz.func3, Tryz.ntmps3
      go_wp2_with fail
      with_reducible refine (HSm0.out _ HX0.out).mono ?_
      rintro en u1 ⟨rfl, hb1⟩
      have hX1 := HX0.out.trans (hb1.mono HX0.out.size)
      have HX1 := Lib.hid hX1
      obtain ⟨k0_HB01, k1_HB01, k2_HB01, kl_HB01⟩ := HB0.out _ hX1
      have z1 := hX1.size
      simp only [World.alloc, Array.size_push] at z1
      clear hb1 hX1 k0_ k1_ k2_ kl_
      go_wp2_with fail
      with_reducible refine (HE.out _ HX1.out).mono ?_
      rintro en u2 ⟨rfl, hb2⟩
      have hX2 := HX1.out.trans (hb2.mono HX1.out.size)
      have HX2 := Lib.hid hX2
      obtain ⟨k0_HB02, k1_HB02, k2_HB02, kl_HB02⟩ := HB0.out _ hX2
      have z2 := hX2.size
      simp only [World.alloc, Array.size_push] at z2
      clear hb2 hX2 k0_HB01 k1_HB01 k2_HB01 kl_HB01
      go_wp2_with fail
      with_reducible refine (HL2.out _ HX2.out).mono ?_
      rintro en u3 ⟨rfl, hb3⟩
      have hX3 := HX2.out.trans (hb3.mono HX2.out.size)
      have HX3 := Lib.hid hX3
      obtain ⟨k0_HB03, k1_HB03, k2_HB03, kl_HB03⟩ := HB0.out _ hX3
      have z3 := hX3.size
      simp only [World.alloc, Array.size_push] at z3
      clear hb3 hX3 k0_HB02 k1_HB02 k2_HB02 kl_HB02
      go_wp2_with fail
      with_reducible refine (HC.out _ HX3.out).mono ?_
      rintro en u4 ⟨rfl, hb4⟩
      have hX4 := HX3.out.trans (hb4.mono HX3.out.size)
      have HX4 := Lib.hid hX4
      obtain ⟨k0_HB04, k1_HB04, k2_HB04, kl_HB04⟩ := HB0.out _ hX4
      have z4 := hX4.size
      simp only [World.alloc, Array.size_push] at z4
      clear hb4 hX4 k0_HB03 k1_HB03 k2_HB03 kl_HB03
      go_wp2_with fail
      with_reducible refine (HAw.out _).mono ?_
      rintro en u5 ⟨rfl, hb5⟩
      have hX5 := HX4.out.trans (hb5.mono HX4.out.size)
      have HX5 := Lib.hid hX5
      obtain ⟨k0_HB05, k1_HB05, k2_HB05, kl_HB05⟩ := HB0.out _ hX5
      have z5 := hX5.size
      simp only [World.alloc, Array.size_push] at z5
      clear hb5 hX5 k0_HB04 k1_HB04 k2_HB04 kl_HB04
      go_wp2
      go_ret
      exact ⟨rfl, HAL.out.trans (HX5.out.mono HAL.out.size)⟩
    have HE := Lib.hid (fun (w' : World) (hb : Below W0.heap.size W0 w') => show Calls Tryz.prog 11 #[regV A0 xs0.length c0 b0 K0 bl0.length e0] w' (GivesTBN w' (!(leastR g0).isSome) 0) from by
      have h := empty_any A0 xs0 c0 b0 K0 bl0 e0 g0 w' (hg0.keep (hal.trans (hb.mono hal.size))) (sz0.short (by decide))
      rw [hk, decide_eq_true rfl, Bool.true_and, empty_val hk] at h
      exact h)
    have HG := Lib.hid (fun (w' : World) (hb : Below W0.heap.size W0 w') => show Calls Tryz.prog 14 #[regV A0 xs0.length c0 b0 K0 bl0.length e0] w' (GivesLs w' (leastR g0)) from by
      have h := gleast_any A0 xs0 c0 b0 K0 bl0 e0 g0 w' (hg0.keep (hal.trans (hb.mono hal.size))) hk (sz0.base (by decide))
      rw [Pt.Rg.leastF_is hk, ← Pt.Rg.leastO_simp hk] at h
      unfold leastR
      rw [if_pos hk]
      exact h)
    rw [hk] at HL HC
    clear hk
    generalize leastR g0 = o at *
    obtain ⟨sv, hsv⟩ : ∃ v, v = leastS o := ⟨_, rfl⟩
    obtain ⟨j, hj⟩ : ∃ v, v = o.isSome := ⟨_, rfl⟩
    have HE2 := Lib.hid (fun (w' : World) (hb : Below W0.heap.size W0 w') => show Calls Tryz.prog 11 #[regV A0 xs0.length c0 b0 K0 bl0.length e0] w' (GivesTBN w' (!j) 0) from by rw [hj]; exact HE.out w' hb)
    have HL2 := Lib.hid (fun (w' : World) (hb : Below W0.heap.size W0 w') => show Calls Tryz.prog 12 #[regV A0 xs0.length c0 b0 K0 bl0.length e0] w' (fun e w'' => e = .returned (.tuple #[.string sv, .bool j, .int .i64 0]) ∧ Below w'.heap.size w' w'') from by rw [hj, hsv]; exact HL.out w' hb)
    have HG2 := Lib.hid (fun (w' : World) (hb : Below W0.heap.size W0 w') => show Calls Tryz.prog 14 #[regV A0 xs0.length c0 b0 K0 bl0.length e0] w' (fun e w'' => e = .returned (.tuple #[.string sv, .bool j]) ∧ Below w'.heap.size w' w'') from by rw [hj, hsv]; exact HG.out w' hb)
    have i4 : (sv.data.toList == sv.data.toList) = true := by simp
    clear HE HL HG hj hsv
    clear hg0 hz0 hy0 hx0 hl0
    clear sz0 f0 f0a f0b f0c f0d
    generalize xs0.length = nx0 at *
    generalize bl0.length = nb0 at *
    obtain ⟨k0_, k1_, k2_, kl_⟩ := hgb0
    subst hW0
    clear hal hm0
    go_enter Tryz.func3, Tryz.ntmps3
    go_wp2_with fail
    with_reducible refine (HSm0.out _ HX0.out).mono ?_
    rintro en u1 ⟨rfl, hb1⟩
    have hX1 := HX0.out.trans (hb1.mono HX0.out.size)
    have HX1 := Lib.hid hX1
    obtain ⟨k0_HB01, k1_HB01, k2_HB01, kl_HB01⟩ := HB0.out _ hX1
    have z1 := hX1.size
    simp only [World.alloc, Array.size_push] at z1
    clear hb1 hX1 k0_ k1_ k2_ kl_
    go_wp2_with fail
    with_reducible refine (HE2.out _ HX1.out).mono ?_
    rintro en u2 ⟨rfl, hb2⟩
    have hX2 := HX1.out.trans (hb2.mono HX1.out.size)
    have HX2 := Lib.hid hX2
    obtain ⟨k0_HB02, k1_HB02, k2_HB02, kl_HB02⟩ := HB0.out _ hX2
    have z2 := hX2.size
    simp only [World.alloc, Array.size_push] at z2
    clear hb2 hX2 k0_HB01 k1_HB01 k2_HB01 kl_HB01
    go_wp2_with fail
    with_reducible refine (HL2.out _ HX2.out).mono ?_
    rintro en u3 ⟨rfl, hb3⟩
    have hX3 := HX2.out.trans (hb3.mono HX2.out.size)
    have HX3 := Lib.hid hX3
    obtain ⟨k0_HB03, k1_HB03, k2_HB03, kl_HB03⟩ := HB0.out _ hX3
    have z3 := hX3.size
    simp only [World.alloc, Array.size_push] at z3
    clear hb3 hX3 k0_HB02 k1_HB02 k2_HB02 kl_HB02
    go_wp2_with fail
    with_reducible refine (HC.out _ HX3.out).mono ?_
    rintro en u4 ⟨rfl, hb4⟩
    have hX4 := HX3.out.trans (hb4.mono HX3.out.size)
    have HX4 := Lib.hid hX4
    obtain ⟨k0_HB04, k1_HB04, k2_HB04, kl_HB04⟩ := HB0.out _ hX4
    have z4 := hX4.size
    simp only [World.alloc, Array.size_push] at z4
    clear hb4 hX4 k0_HB03 k1_HB03 k2_HB03 kl_HB03
    go_wp2_with fail
    with_reducible refine (HG2.out _ HX4.out).mono ?_
    rintro en u5 ⟨rfl, hb5⟩
    have hX5 := HX4.out.trans (hb5.mono HX4.out.size)
    have HX5 := Lib.hid hX5
    obtain ⟨k0_HB05, k1_HB05, k2_HB05, kl_HB05⟩ := HB0.out _ hX5
    have z5 := hX5.size
    simp only [World.alloc, Array.size_push] at z5
    clear hb5 hX5 k0_HB04 k1_HB04 k2_HB04 kl_HB04
    cases j with
    | false =>
      go_wp2_with fail
      with_reducible refine (HAw.out _).mono ?_
      rintro en u6 ⟨rfl, hb6⟩
      have hX6 := HX5.out.trans (hb6.mono HX5.out.size)
      have HX6 := Lib.hid hX6
      obtain ⟨k0_HB06, k1_HB06, k2_HB06, kl_HB06⟩ := HB0.out _ hX6
      have z6 := hX6.size
      simp only [World.alloc, Array.size_push] at z6
      clear hb6 hX6 k0_HB05 k1_HB05 k2_HB05 kl_HB05
      go_wp2
      go_ret
      exact ⟨rfl, HAL.out.trans (HX6.out.mono HAL.out.size)⟩
    | true =>
      go_wp2_with fail
      with_reducible refine (HAw.out _).mono ?_
      rintro en u6 ⟨rfl, hb6⟩
      have hX6 := HX5.out.trans (hb6.mono HX5.out.size)
      have HX6 := Lib.hid hX6
      obtain ⟨k0_HB06, k1_HB06, k2_HB06, kl_HB06⟩ := HB0.out _ hX6
      have z6 := hX6.size
      simp only [World.alloc, Array.size_push] at z6
      clear hb6 hX6 k0_HB05 k1_HB05 k2_HB05 kl_HB05
      go_wp2
      go_ret
      exact ⟨rfl, HAL.out.trans (HX6.out.mono HAL.out.size)⟩

end Go.Proofs.YtembmegllpkmfaaGreatDoor.regionLeasts
