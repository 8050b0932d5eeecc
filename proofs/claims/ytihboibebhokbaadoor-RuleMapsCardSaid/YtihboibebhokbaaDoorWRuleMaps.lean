/- RuleMaps returns true at every line and every string (the card: the variables that it lists hold what the program text lays). Conditions: none of its own. -/
import Derived.Test.YtihboibebhokbaaDoorCards
import Derived.Test.YtihboibebhokbaaDoorTie
import Derived.WalkKit
import Derived.ProofKit
import Derived.OpenShut
import Derived.ShutString
import Derived.Test.YtihboibebhokbaaDoorPatOpen
import Derived.Test.YtihboibebhokbaaDoorRulAll
namespace Go.Proofs.YtihboibebhokbaaDoor.ruleMaps
open Go.ChangeShapes Go.WideShapes Go.ChangeAt Go.RowKit
open Go.ChangeMaps (open_string shut_string)
set_option linter.unusedVariables false

set_option maxHeartbeats 8000000 in
theorem walk (w : World) (ex0 : Bool) (A0 : Option Addr) (xs0 : List ByteArray) (c0 : Nat) (b0 : Bool) (B0 : Option Addr) (ys0 : List ByteArray) (e0 : Nat) (f0 : Bool) (hr0 : RulR w ex0 A0 xs0 c0 b0 B0 ys0 e0 f0 ⟨ex0, ⟨bs xs0, b0⟩, ⟨bs ys0, f0⟩⟩) (hz0 : ∀ x ∈ xs0, x.size ≤ 140737488355000) (hy0 : ∀ x ∈ ys0, x.size ≤ 140737488355000) (s1 : ByteArray) (w1 : s1.size ≤ maxLen) (hm : MaxL w) :
    Calls Tryd.prog 6 #[rulV ex0 A0 xs0.length c0 b0 B0 ys0.length e0 f0, .string s1] w fun e w' => e = .returned (.bool true) ∧ Below w.heap.size w w' := by
  obtain ⟨W0, hW0⟩ : ∃ W0, W0 = w.alloc (.cells #[.bool ex0, .slice A0 xs0.length c0, .bool b0, .slice B0 ys0.length e0, .bool f0] 39) := ⟨_, rfl⟩
  have hal : Below w.heap.size w W0 := by rw [hW0]; exact (Below.refl _ _).alloc (Nat.le_refl _) _
  have HX0 := Lib.hid (Below.refl W0.heap.size W0)
  have HAL := Lib.hid hal
  have hbx : RBox W0 w.heap.size ex0 A0 xs0.length c0 b0 B0 ys0.length e0 f0 := by rw [hW0]; exact RBox.new ..
  have HB := Lib.hid (fun (w' : World) (hb : Below W0.heap.size W0 w') => hbx.keep hb)
  have hm0 := hm.keep hal hm.size
  have HMX := Lib.hid (fun (w' : World) (hb : Below W0.heap.size W0 w') => hm0.keep hb hm0.size)
  have HAw := Lib.hid (fun (w' : World) (hb : Below W0.heap.size W0 w') => awake4_any w' (hm0.keep hb hm0.size))
  have HFt := Lib.hid (fun (w' : World) (hb : Below W0.heap.size W0 w') => fit_any ex0 A0 xs0 c0 b0 B0 ys0 e0 f0 w' (hr0.keep (hal.trans (hb.mono hal.size))) hz0 hy0)
  generalize hfb : fitB xs0 ys0 = fb at HFt
  cases fb with
  | false =>
    clear hbx hr0 hfb hz0 hy0
    subst hW0
    clear hal
    go_enter Tryd.func6, Tryd.ntmps6
    go_wp2_with fail
    with_reducible refine (HFt.out _ HX0.out).mono ?_
    rintro e u1 ⟨rfl, hb1⟩
    have hX1 := HX0.out.trans (hb1.mono HX0.out.size)
    have HX1 := Lib.hid hX1
    obtain ⟨k0_HB1, k1_HB1, k2_HB1, k3_HB1, k4_HB1, kl_HB1⟩ := HB.out _ hX1
    have z1 := hX1.size
    simp only [World.alloc, Array.size_push] at z1
    clear hb1 hX1 
    go_wp2_with fail
    with_reducible refine (HAw.out _ HX1.out).mono ?_
    rintro e u2 ⟨rfl, hb2⟩
    have hX2 := HX1.out.trans (hb2.mono HX1.out.size)
    have HX2 := Lib.hid hX2
    obtain ⟨k0_HB2, k1_HB2, k2_HB2, k3_HB2, k4_HB2, kl_HB2⟩ := HB.out _ hX2
    have z2 := hX2.size
    simp only [World.alloc, Array.size_push] at z2
    clear hb2 hX2 k0_HB1 k1_HB1 k2_HB1 k3_HB1 k4_HB1 kl_HB1
    go_wp2
    go_ret
    exact ⟨rfl, HAL.out.trans (HX2.out.mono HAL.out.size)⟩
  | true =>
    unfold fitB at hfb
    rw [Bool.and_eq_true] at hfb
    obtain ⟨n1, z1, x1⟩ := small4_facts hfb.1
    obtain ⟨n2, z2, x2⟩ := small4_facts hfb.2
    clear hfb
    by_cases hl : s1.size ≤ 300
    rotate_left
    · have i1 : (300 : Int) < (s1.size : Int) := by omega
      clear hbx hr0 hz0 hy0 n1 n2 x1 x2 z1 z2
      subst hW0
      clear hal
      go_enter Tryd.func6, Tryd.ntmps6
      go_wp2_with fail
      with_reducible refine (HFt.out _ HX0.out).mono ?_
      rintro e u1 ⟨rfl, hb1⟩
      have hX1 := HX0.out.trans (hb1.mono HX0.out.size)
      have HX1 := Lib.hid hX1
      obtain ⟨k0_HB1, k1_HB1, k2_HB1, k3_HB1, k4_HB1, kl_HB1⟩ := HB.out _ hX1
      have z1 := hX1.size
      simp only [World.alloc, Array.size_push] at z1
      clear hb1 hX1 
      go_wp2_with fail
      with_reducible refine (HAw.out _ HX1.out).mono ?_
      rintro e u2 ⟨rfl, hb2⟩
      have hX2 := HX1.out.trans (hb2.mono HX1.out.size)
      have HX2 := Lib.hid hX2
      obtain ⟨k0_HB2, k1_HB2, k2_HB2, k3_HB2, k4_HB2, kl_HB2⟩ := HB.out _ hX2
      have z2 := hX2.size
      simp only [World.alloc, Array.size_push] at z2
      clear hb2 hX2 k0_HB1 k1_HB1 k2_HB1 k3_HB1 k4_HB1 kl_HB1
      go_wp2
      go_ret
      exact ⟨rfl, HAL.out.trans (HX2.out.mono HAL.out.size)⟩
    have i1 : ¬ (300 : Int) < (s1.size : Int) := by omega
    have hx5 : ∀ x ∈ xs0, x.size ≤ 100000 := fun x hx => Nat.le_trans (x1 x hx) (by decide)
    have hy5 : ∀ x ∈ ys0, x.size ≤ 100000 := fun x hx => Nat.le_trans (x2 x hx) (by decide)
    obtain ⟨r, hrr⟩ : ∃ r : Pt.Rul, r = ⟨ex0, ⟨bs xs0, b0⟩, ⟨bs ys0, f0⟩⟩ := ⟨_, rfl⟩
    rw [← hrr] at hr0
    obtain ⟨S1, hS1⟩ : ∃ S : ByteArray, S = ⟨((Pt.fwd r s1.data.toList).getD []).toArray⟩ := ⟨_, rfl⟩
    obtain ⟨j1, hj1⟩ : ∃ j, j = (Pt.fwd r s1.data.toList).isSome := ⟨_, rfl⟩
    obtain ⟨S2, hS2⟩ : ∃ S : ByteArray, S = ⟨((Pt.fwd (Pt.turnR r) s1.data.toList).getD []).toArray⟩ := ⟨_, rfl⟩
    obtain ⟨j2, hj2⟩ : ∃ j, j = (Pt.fwd (Pt.turnR r) s1.data.toList).isSome := ⟨_, rfl⟩
    have HF := Lib.hid (fun (w' : World) (hb : Below W0.heap.size W0 w') => show Calls Tryd.prog 29 #[rulV ex0 A0 xs0.length c0 b0 B0 ys0.length e0 f0, .string s1] w' (GivesSB w' S1 j1) from by
      rw [hS1, hj1]
      exact fwd_any ex0 A0 xs0 c0 b0 B0 ys0 e0 f0 r s1 w' (hr0.keep (hal.trans (hb.mono hal.size))) hy5 (by omega) (hm0.keep hb hm0.size))
    have HQ := Lib.hid (fun (w' : World) (hb : Below W0.heap.size W0 w') => show Calls Tryd.prog 30 #[rulV ex0 A0 xs0.length c0 b0 B0 ys0.length e0 f0, .string s1] w' (GivesSB w' S1 j1) from by
      rw [hS1, hj1]
      exact qfwd_any ex0 A0 xs0 c0 b0 B0 ys0 e0 f0 r s1 w' (hr0.keep (hal.trans (hb.mono hal.size))) hy5 (by omega) (hm0.keep hb hm0.size))
    have HBk := Lib.hid (fun (w' : World) (hb : Below W0.heap.size W0 w') => show Calls Tryd.prog 31 #[rulV ex0 A0 xs0.length c0 b0 B0 ys0.length e0 f0, .string s1] w' (GivesSB w' S2 j2) from by
      rw [hS2, hj2]
      exact back_any ex0 A0 xs0 c0 b0 B0 ys0 e0 f0 r s1 w' (hr0.keep (hal.trans (hb.mono hal.size))) (by omega) (by omega) hx5 (by omega) (hm0.keep hb hm0.size))
    have HT := Lib.hid (fun (w' : World) (hb : Below W0.heap.size W0 w') => qturn_any ex0 A0 xs0 c0 b0 B0 ys0 e0 f0 r w' (hr0.keep (hal.trans (hb.mono hal.size))) (by omega) (by omega))
    have HQ2 := Lib.hid (fun (C D : Option Addr) (cz dz : Nat) (w' : World) (hrt : RulR w' ex0 C ys0 cz f0 D xs0 dz b0 (Pt.turnR r)) (hb : Below W0.heap.size W0 w') => show Calls Tryd.prog 30 #[rulV ex0 C ys0.length cz f0 D xs0.length dz b0, .string s1] w' (GivesSB w' S2 j2) from by
      rw [hS2, hj2]
      exact qfwd_any ex0 C ys0 cz f0 D xs0 dz b0 (Pt.turnR r) s1 w' hrt hx5 (by omega) (hm0.keep hb hm0.size))
    unfold GivesTurn at HT
    generalize hnx : xs0.length = nx at *
    generalize hny : ys0.length = ny at *
    clear hbx hr0 hz0 hy0 n1 n2 x1 x2 z1 z2 hx5 hy5 hnx hny hS1 hj1 hS2 hj2 hrr
    subst hW0
    clear hal
    cases j1 <;> cases j2
    all_goals
      go_enter Tryd.func6, Tryd.ntmps6
      go_wp2_with fail
      with_reducible refine (HFt.out _ HX0.out).mono ?_
      rintro e u1 ⟨rfl, hb1⟩
      have hX1 := HX0.out.trans (hb1.mono HX0.out.size)
      have HX1 := Lib.hid hX1
      obtain ⟨k0_HB1, k1_HB1, k2_HB1, k3_HB1, k4_HB1, kl_HB1⟩ := HB.out _ hX1
      have z1 := hX1.size
      simp only [World.alloc, Array.size_push] at z1
      clear hb1 hX1 
      go_wp2_with fail
      with_reducible refine (HF.out _ HX1.out).mono ?_
      rintro e u2 ⟨rfl, hb2⟩
      have hX2 := HX1.out.trans (hb2.mono HX1.out.size)
      have HX2 := Lib.hid hX2
      obtain ⟨k0_HB2, k1_HB2, k2_HB2, k3_HB2, k4_HB2, kl_HB2⟩ := HB.out _ hX2
      have z2 := hX2.size
      simp only [World.alloc, Array.size_push] at z2
      clear hb2 hX2 k0_HB1 k1_HB1 k2_HB1 k3_HB1 k4_HB1 kl_HB1
      go_wp2_with fail
      with_reducible refine (HQ.out _ HX2.out).mono ?_
      rintro e u3 ⟨rfl, hb3⟩
      have hX3 := HX2.out.trans (hb3.mono HX2.out.size)
      have HX3 := Lib.hid hX3
      obtain ⟨k0_HB3, k1_HB3, k2_HB3, k3_HB3, k4_HB3, kl_HB3⟩ := HB.out _ hX3
      have z3 := hX3.size
      simp only [World.alloc, Array.size_push] at z3
      clear hb3 hX3 k0_HB2 k1_HB2 k2_HB2 k3_HB2 k4_HB2 kl_HB2
      go_wp2_with fail
      with_reducible refine (HBk.out _ HX3.out).mono ?_
      rintro e u4 ⟨rfl, hb4⟩
      have hX4 := HX3.out.trans (hb4.mono HX3.out.size)
      have HX4 := Lib.hid hX4
      obtain ⟨k0_HB4, k1_HB4, k2_HB4, k3_HB4, k4_HB4, kl_HB4⟩ := HB.out _ hX4
      have z4 := hX4.size
      simp only [World.alloc, Array.size_push] at z4
      clear hb4 hX4 k0_HB3 k1_HB3 k2_HB3 k3_HB3 k4_HB3 kl_HB3
      go_wp2_with fail
      with_reducible refine (HT.out _ HX4.out).mono ?_
      rintro e u5 ⟨C, cz, D, dz, rfl, hrt, hb5⟩
      have hX5 := HX4.out.trans (hb5.mono HX4.out.size)
      have HX5 := Lib.hid hX5
      obtain ⟨k0_HB5, k1_HB5, k2_HB5, k3_HB5, k4_HB5, kl_HB5⟩ := HB.out _ hX5
      have z5 := hX5.size
      simp only [World.alloc, Array.size_push] at z5
      have HQ3 := Lib.hid (HQ2.out C D cz dz u5 hrt hX5)
      clear hrt
      clear hb5 hX5 k0_HB4 k1_HB4 k2_HB4 k3_HB4 k4_HB4 kl_HB4
      go_wp2_with fail
      with_reducible refine (HQ3.out).mono ?_
      rintro e u6 ⟨rfl, hb6⟩
      have hX6 := HX5.out.trans (hb6.mono HX5.out.size)
      have HX6 := Lib.hid hX6
      obtain ⟨k0_HB6, k1_HB6, k2_HB6, k3_HB6, k4_HB6, kl_HB6⟩ := HB.out _ hX6
      have z6 := hX6.size
      simp only [World.alloc, Array.size_push] at z6
      clear hb6 hX6 k0_HB5 k1_HB5 k2_HB5 k3_HB5 k4_HB5 kl_HB5
      go_wp2_with fail
      go_wp2_with fail
      with_reducible refine (HAw.out _ HX6.out).mono ?_
      rintro e u7 ⟨rfl, hb7⟩
      have hX7 := HX6.out.trans (hb7.mono HX6.out.size)
      have HX7 := Lib.hid hX7
      obtain ⟨k0_HB7, k1_HB7, k2_HB7, k3_HB7, k4_HB7, kl_HB7⟩ := HB.out _ hX7
      have z7 := hX7.size
      simp only [World.alloc, Array.size_push] at z7
      clear hb7 hX7 k0_HB6 k1_HB6 k2_HB6 k3_HB6 k4_HB6 kl_HB6
      go_wp2
      go_ret
      exact ⟨rfl, HAL.out.trans (HX7.out.mono HAL.out.size)⟩

end Go.Proofs.YtihboibebhokbaaDoor.ruleMaps
