/- RuleBack returns true at every line and every string (the card: the variables that it lists hold what the program text lays). Conditions: none of its own. -/
import Derived.Test.YtihboibebhokbaaDoorCards
import Derived.Test.YtihboibebhokbaaDoorTie
import Derived.WalkKit
import Derived.ProofKit
import Derived.OpenShut
import Derived.ShutString
import Derived.Test.YtihboibebhokbaaDoorPatOpen
import Derived.Test.YtihboibebhokbaaDoorRulAll
namespace Go.Proofs.YtihboibebhokbaaDoor.ruleBack
open Go.ChangeShapes Go.WideShapes Go.ChangeAt Go.RowKit
open Go.ChangeMaps (open_string shut_string)
set_option linter.unusedVariables false

set_option maxHeartbeats 8000000 in
theorem walk (w : World) (ex0 : Bool) (A0 : Option Addr) (xs0 : List ByteArray) (c0 : Nat) (b0 : Bool) (B0 : Option Addr) (ys0 : List ByteArray) (e0 : Nat) (f0 : Bool) (hr0 : RulR w ex0 A0 xs0 c0 b0 B0 ys0 e0 f0 ⟨ex0, ⟨bs xs0, b0⟩, ⟨bs ys0, f0⟩⟩) (hz0 : ∀ x ∈ xs0, x.size ≤ 140737488355000) (hy0 : ∀ x ∈ ys0, x.size ≤ 140737488355000) (s1 : ByteArray) (w1 : s1.size ≤ maxLen) (hm : MaxL w) :
    Calls Tryd.prog 9 #[rulV ex0 A0 xs0.length c0 b0 B0 ys0.length e0 f0, .string s1] w fun e w' => e = .returned (.bool true) ∧ Below w.heap.size w w' := by
  obtain ⟨W0, hW0⟩ : ∃ W0, W0 = w.alloc (.cells #[.bool ex0, .slice A0 xs0.length c0, .bool b0, .slice B0 ys0.length e0, .bool f0] 39) := ⟨_, rfl⟩
  have hal : Below w.heap.size w W0 := by rw [hW0]; exact (Below.refl _ _).alloc (Nat.le_refl _) _
  have HX0 := Lib.hid (Below.refl W0.heap.size W0)
  have HAL := Lib.hid hal
  have hbx : RBox W0 w.heap.size ex0 A0 xs0.length c0 b0 B0 ys0.length e0 f0 := by rw [hW0]; exact RBox.new ..
  have HB := Lib.hid (fun (w' : World) (hb : Below W0.heap.size W0 w') => hbx.keep hb)
  have hm0 := hm.keep hal hm.size
  have HMX := Lib.hid (fun (w' : World) (hb : Below W0.heap.size W0 w') => hm0.keep hb hm0.size)
  have HAw := Lib.hid (fun (w' : World) (hb : Below W0.heap.size W0 w') => awake4_any w' (hm0.keep hb hm0.size))
  have HFt := Lib.hid (fun (w' : World) (hb : Below W0.heap.size W0 w') => fit_any ex0 A0 xs0 c0 b0 B0 ys0 e0 f0 w' (hr0.keep (hal.trans (hb.mono hal.size))) hz0 hy0)
  generalize hfb : fitB xs0 ys0 = fb at HFt
  cases fb with
  | false =>
    clear hbx hr0 hfb hz0 hy0
    subst hW0
    clear hal
    go_enter Tryd.func9, Tryd.ntmps9
    go_wp2_with fail
    with_reducible refine (HFt.out _ HX0.out).mono ?_
    rintro e u1 ⟨rfl, hb1⟩
    have hX1 := HX0.out.trans (hb1.mono HX0.out.size)
    have HX1 := Lib.hid hX1
    obtain ⟨k0_HB1, k1_HB1, k2_HB1, k3_HB1, k4_HB1, kl_HB1⟩ := HB.out _ hX1
    have z1 := hX1.size
    simp only [World.alloc, Array.size_push] at z1
    clear hb1 hX1 
    go_wp2_with fail
    with_reducible refine (HAw.out _ HX1.out).mono ?_
    rintro e u2 ⟨rfl, hb2⟩
    have hX2 := HX1.out.trans (hb2.mono HX1.out.size)
    have HX2 := Lib.hid hX2
    obtain ⟨k0_HB2, k1_HB2, k2_HB2, k3_HB2, k4_HB2, kl_HB2⟩ := HB.out _ hX2
    have z2 := hX2.size
    simp only [World.alloc, Array.size_push] at z2
    clear hb2 hX2 k0_HB1 k1_HB1 k2_HB1 k3_HB1 k4_HB1 kl_HB1
    go_wp2
    go_ret
    exact ⟨rfl, HAL.out.trans (HX2.out.mono HAL.out.size)⟩
  | true =>
    unfold fitB at hfb
    rw [Bool.and_eq_true] at hfb
    obtain ⟨n1, z1, x1⟩ := small4_facts hfb.1
    obtain ⟨n2, z2, x2⟩ := small4_facts hfb.2
    clear hfb
    by_cases hl : s1.size ≤ 300
    rotate_left
    · have i1 : (300 : Int) < (s1.size : Int) := by omega
      clear hbx hr0 hz0 hy0 n1 n2 x1 x2 z1 z2
      subst hW0
      clear hal
      go_enter Tryd.func9, Tryd.ntmps9
      go_wp2_with fail
      with_reducible refine (HFt.out _ HX0.out).mono ?_
      rintro e u1 ⟨rfl, hb1⟩
      have hX1 := HX0.out.trans (hb1.mono HX0.out.size)
      have HX1 := Lib.hid hX1
      obtain ⟨k0_HB1, k1_HB1, k2_HB1, k3_HB1, k4_HB1, kl_HB1⟩ := HB.out _ hX1
      have z1 := hX1.size
      simp only [World.alloc, Array.size_push] at z1
      clear hb1 hX1 
      go_wp2_with fail
      with_reducible refine (HAw.out _ HX1.out).mono ?_
      rintro e u2 ⟨rfl, hb2⟩
      have hX2 := HX1.out.trans (hb2.mono HX1.out.size)
      have HX2 := Lib.hid hX2
      obtain ⟨k0_HB2, k1_HB2, k2_HB2, k3_HB2, k4_HB2, kl_HB2⟩ := HB.out _ hX2
      have z2 := hX2.size
      simp only [World.alloc, Array.size_push] at z2
      clear hb2 hX2 k0_HB1 k1_HB1 k2_HB1 k3_HB1 k4_HB1 kl_HB1
      go_wp2
      go_ret
      exact ⟨rfl, HAL.out.trans (HX2.out.mono HAL.out.size)⟩
    have i1 : ¬ (300 : Int) < (s1.size : Int) := by omega
    have hx5 : ∀ x ∈ xs0, x.size ≤ 100000 := fun x hx => Nat.le_trans (x1 x hx) (by decide)
    have hy5 : ∀ x ∈ ys0, x.size ≤ 100000 := fun x hx => Nat.le_trans (x2 x hx) (by decide)
    obtain ⟨r, hrr⟩ : ∃ r : Pt.Rul, r = ⟨ex0, ⟨bs xs0, b0⟩, ⟨bs ys0, f0⟩⟩ := ⟨_, rfl⟩
    have hsl : Pt.szs 300 r.left := by rw [hrr]; exact z1
    have hsr : Pt.szs 300 r.right := by rw [hrr]; exact z2
    rw [← hrr] at hr0
    clear hrr
    have hsp : s1.data.toList.length ≤ 300 := by rw [← Lib.size_eq]; exact hl
    have hss : (⟨s1.data.toList.toArray⟩ : ByteArray) = s1 := ba_ext (by simp)
    have hF := fun (w' : World) (hb : Below W0.heap.size W0 w') (t : ByteArray) (ht : t.size ≤ 100000) => fwd_any ex0 A0 xs0 c0 b0 B0 ys0 e0 f0 r t w' (hr0.keep (hal.trans (hb.mono hal.size))) hy5 ht (hm0.keep hb hm0.size)
    have hB := fun (w' : World) (hb : Below W0.heap.size W0 w') (t : ByteArray) (ht : t.size ≤ 100000) => back_any ex0 A0 xs0 c0 b0 B0 ys0 e0 f0 r t w' (hr0.keep (hal.trans (hb.mono hal.size))) (by omega) (by omega) hx5 ht (hm0.keep hb hm0.size)
    have HT := Lib.hid (fun (w' : World) (hb : Below W0.heap.size W0 w') => turn_any ex0 A0 xs0 c0 b0 B0 ys0 e0 f0 r w' (hr0.keep (hal.trans (hb.mono hal.size))) (by omega) (by omega))
    have hBt := fun (C D : Option Addr) (cz dz : Nat) (w' : World) (hrt : RulR w' ex0 C ys0 cz f0 D xs0 dz b0 (Pt.turnR r)) (hb : Below W0.heap.size W0 w') => back_any ex0 C ys0 cz f0 D xs0 dz b0 (Pt.turnR r) s1 w' hrt (by omega) (by omega) hy5 (by omega) (hm0.keep hb hm0.size)
    rw [Pt.turn_turn] at hBt
    have HCk := Lib.hid (fun (w' : World) (hb : Below W0.heap.size W0 w') => check4_any ex0 A0 xs0 c0 b0 B0 ys0 e0 f0 r w' (hr0.keep (hal.trans (hb.mono hal.size))))
    have h11 := fun t (h : Pt.fwd r s1.data.toList = some t) => And.intro (Pt.fwd_turn.1 h) (And.intro (fwd_len h hsr hsp) (Pt.fwd_some.1 h).1)
    have h22 := fun t (h : Pt.fwd (Pt.turnR r) s1.data.toList = some t) => And.intro (show Pt.fwd r t = some s1.data.toList from Pt.fwd_turn.1 h) (fwd_len h hsl hsp)
    have HF1 := Lib.hid (fun w' hb => hF w' hb s1 (by omega))
    have HB1 := Lib.hid (fun w' hb => hB w' hb s1 (by omega))
    have HBt := Lib.hid hBt
    unfold GivesTurn at HT
    clear hBt
    cases ho1 : Pt.fwd r s1.data.toList with
    | none =>
      rw [ho1] at HF1 HBt
      generalize Pt.rcheck r = k1 at *
      by_cases hk : k1 = 0
      · subst hk
        cases ho2 : Pt.fwd (Pt.turnR r) s1.data.toList with
        | none =>
          rw [ho2] at HB1
          have HLX := Lib.hid (And.intro hx5 hy5)
          generalize xs0.length = nx at *
          generalize ys0.length = ny at *
          clear hbx hr0 hz0 hy0 n1 n2 x1 x2 z1 z2 hx5 hy5 hF hB h11 h22 ho1 ho2 hsl hsr hsp hss
          subst hW0
          clear hal
          go_enter Tryd.func9, Tryd.ntmps9
          go_wp2_with fail
          with_reducible refine (HFt.out _ HX0.out).mono ?_
          rintro e u1 ⟨rfl, hb1⟩
          have hX1 := HX0.out.trans (hb1.mono HX0.out.size)
          have HX1 := Lib.hid hX1
          obtain ⟨k0_HB1, k1_HB1, k2_HB1, k3_HB1, k4_HB1, kl_HB1⟩ := HB.out _ hX1
          have z1 := hX1.size
          simp only [World.alloc, Array.size_push] at z1
          clear hb1 hX1 
          go_wp2_with fail
          with_reducible refine (HT.out _ HX1.out).mono ?_
          rintro e u2 ⟨C, cz, D, dz, rfl, hrt, hb2⟩
          have hX2 := HX1.out.trans (hb2.mono HX1.out.size)
          have HX2 := Lib.hid hX2
          obtain ⟨k0_HB2, k1_HB2, k2_HB2, k3_HB2, k4_HB2, kl_HB2⟩ := HB.out _ hX2
          have z2 := hX2.size
          simp only [World.alloc, Array.size_push] at z2
          have ha2 : Below u2.heap.size u2 (u2.alloc (.cells #[.bool ex0, .slice C ny cz, .bool f0, .slice D nx dz, .bool b0] 39)) := (Below.refl _ _).alloc (Nat.le_refl _) _
          have hXa := hX2.trans (ha2.mono hX2.size)
          have HXa := Lib.hid hXa
          have HRT := Lib.hid (hrt.keep ha2)
          obtain ⟨a0, a1, a2, a3, a4, al⟩ := HB.out _ hXa
          clear ha2 hXa hrt
          clear hb2 hX2 k0_HB1 k1_HB1 k2_HB1 k3_HB1 k4_HB1 kl_HB1
          go_wp2_with fail
          with_reducible refine (HF1.out _ HXa.out).mono ?_
          rintro e u3 ⟨rfl, hb3⟩
          have hX3 := HXa.out.trans (hb3.mono HXa.out.size)
          have HX3 := Lib.hid hX3
          obtain ⟨k0_HB3, k1_HB3, k2_HB3, k3_HB3, k4_HB3, kl_HB3⟩ := HB.out _ hX3
          have z3 := hX3.size
          simp only [World.alloc, Array.size_push] at z3
          obtain ⟨t0, t1, t2, t3, t4, tl⟩ := (RBox.new u2 ex0 C ny cz f0 D nx dz b0).keep hb3
          have HBt3 := Lib.hid (HBt.out C D cz dz u3 (HRT.out.keep hb3) hX3)
          clear a0 a1 a2 a3 a4 al
          clear hb3 hX3 k0_HB2 k1_HB2 k2_HB2 k3_HB2 k4_HB2 kl_HB2
          go_wp2_with fail
          with_reducible refine (HBt3.out).mono ?_
          rintro e u4 ⟨rfl, hb4⟩
          have hX4 := HX3.out.trans (hb4.mono HX3.out.size)
          have HX4 := Lib.hid hX4
          obtain ⟨k0_HB4, k1_HB4, k2_HB4, k3_HB4, k4_HB4, kl_HB4⟩ := HB.out _ hX4
          have z4 := hX4.size
          simp only [World.alloc, Array.size_push] at z4
          clear t0 t1 t2 t3 t4 tl
          clear hb4 hX4 k0_HB3 k1_HB3 k2_HB3 k3_HB3 k4_HB3 kl_HB3
          go_wp2_with fail
          with_reducible refine (HCk.out _ HX4.out).mono ?_
          rintro e u5 ⟨rfl, hb5⟩
          have hX5 := HX4.out.trans (hb5.mono HX4.out.size)
          have HX5 := Lib.hid hX5
          obtain ⟨k0_HB5, k1_HB5, k2_HB5, k3_HB5, k4_HB5, kl_HB5⟩ := HB.out _ hX5
          have z5 := hX5.size
          simp only [World.alloc, Array.size_push] at z5
          clear hb5 hX5 k0_HB4 k1_HB4 k2_HB4 k3_HB4 k4_HB4 kl_HB4
          go_wp2_with fail
          with_reducible refine (HB1.out _ HX5.out).mono ?_
          rintro e u6 ⟨rfl, hb6⟩
          have hX6 := HX5.out.trans (hb6.mono HX5.out.size)
          have HX6 := Lib.hid hX6
          obtain ⟨k0_HB6, k1_HB6, k2_HB6, k3_HB6, k4_HB6, kl_HB6⟩ := HB.out _ hX6
          have z6 := hX6.size
          simp only [World.alloc, Array.size_push] at z6
          clear hb6 hX6 k0_HB5 k1_HB5 k2_HB5 k3_HB5 k4_HB5 kl_HB5
          go_wp2_with fail
          with_reducible refine (HAw.out _ HX6.out).mono ?_
          rintro e u7 ⟨rfl, hb7⟩
          have hX7 := HX6.out.trans (hb7.mono HX6.out.size)
          have HX7 := Lib.hid hX7
          obtain ⟨k0_HB7, k1_HB7, k2_HB7, k3_HB7, k4_HB7, kl_HB7⟩ := HB.out _ hX7
          have z7 := hX7.size
          simp only [World.alloc, Array.size_push] at z7
          clear hb7 hX7 k0_HB6 k1_HB6 k2_HB6 k3_HB6 k4_HB6 kl_HB6
          go_wp2
          go_ret
          exact ⟨rfl, HAL.out.trans (HX7.out.mono HAL.out.size)⟩
        | some t2 =>
          rw [ho2] at HB1
          obtain ⟨g1, g2⟩ := h22 t2 ho2
          have hz2 : (⟨t2.toArray⟩ : ByteArray).size ≤ 100000 := by rw [size_mk]; omega
          have hF2 := fun w' hb => hF w' hb ⟨t2.toArray⟩ hz2
          have ht2 : (⟨t2.toArray⟩ : ByteArray).data.toList = t2 := by simp
          rw [ht2, g1] at hF2
          unfold GivesFw at hF2 HB1
          simp only [Option.getD_some, Option.isSome_some, hss] at hF2 HB1
          have HF2s := Lib.hid hF2
          clear hF2 g1 g2 ht2
          generalize (⟨t2.toArray⟩ : ByteArray) = T2 at *
          have HLX := Lib.hid (And.intro hx5 hy5)
          generalize xs0.length = nx at *
          generalize ys0.length = ny at *
          clear hbx hr0 hz0 hy0 n1 n2 x1 x2 z1 z2 hx5 hy5 hF hB h11 h22 ho1 ho2 hsl hsr hsp hss
          subst hW0
          clear hal
          go_enter Tryd.func9, Tryd.ntmps9
          go_wp2_with fail
          with_reducible refine (HFt.out _ HX0.out).mono ?_
          rintro e u1 ⟨rfl, hb1⟩
          have hX1 := HX0.out.trans (hb1.mono HX0.out.size)
          have HX1 := Lib.hid hX1
          obtain ⟨k0_HB1, k1_HB1, k2_HB1, k3_HB1, k4_HB1, kl_HB1⟩ := HB.out _ hX1
          have z1 := hX1.size
          simp only [World.alloc, Array.size_push] at z1
          clear hb1 hX1 
          go_wp2_with fail
          with_reducible refine (HT.out _ HX1.out).mono ?_
          rintro e u2 ⟨C, cz, D, dz, rfl, hrt, hb2⟩
          have hX2 := HX1.out.trans (hb2.mono HX1.out.size)
          have HX2 := Lib.hid hX2
          obtain ⟨k0_HB2, k1_HB2, k2_HB2, k3_HB2, k4_HB2, kl_HB2⟩ := HB.out _ hX2
          have z2 := hX2.size
          simp only [World.alloc, Array.size_push] at z2
          have ha2 : Below u2.heap.size u2 (u2.alloc (.cells #[.bool ex0, .slice C ny cz, .bool f0, .slice D nx dz, .bool b0] 39)) := (Below.refl _ _).alloc (Nat.le_refl _) _
          have hXa := hX2.trans (ha2.mono hX2.size)
          have HXa := Lib.hid hXa
          have HRT := Lib.hid (hrt.keep ha2)
          obtain ⟨a0, a1, a2, a3, a4, al⟩ := HB.out _ hXa
          clear ha2 hXa hrt
          clear hb2 hX2 k0_HB1 k1_HB1 k2_HB1 k3_HB1 k4_HB1 kl_HB1
          go_wp2_with fail
          with_reducible refine (HF1.out _ HXa.out).mono ?_
          rintro e u3 ⟨rfl, hb3⟩
          have hX3 := HXa.out.trans (hb3.mono HXa.out.size)
          have HX3 := Lib.hid hX3
          obtain ⟨k0_HB3, k1_HB3, k2_HB3, k3_HB3, k4_HB3, kl_HB3⟩ := HB.out _ hX3
          have z3 := hX3.size
          simp only [World.alloc, Array.size_push] at z3
          obtain ⟨t0, t1, t2, t3, t4, tl⟩ := (RBox.new u2 ex0 C ny cz f0 D nx dz b0).keep hb3
          have HBt3 := Lib.hid (HBt.out C D cz dz u3 (HRT.out.keep hb3) hX3)
          clear a0 a1 a2 a3 a4 al
          clear hb3 hX3 k0_HB2 k1_HB2 k2_HB2 k3_HB2 k4_HB2 kl_HB2
          go_wp2_with fail
          with_reducible refine (HBt3.out).mono ?_
          rintro e u4 ⟨rfl, hb4⟩
          have hX4 := HX3.out.trans (hb4.mono HX3.out.size)
          have HX4 := Lib.hid hX4
          obtain ⟨k0_HB4, k1_HB4, k2_HB4, k3_HB4, k4_HB4, kl_HB4⟩ := HB.out _ hX4
          have z4 := hX4.size
          simp only [World.alloc, Array.size_push] at z4
          clear t0 t1 t2 t3 t4 tl
          clear hb4 hX4 k0_HB3 k1_HB3 k2_HB3 k3_HB3 k4_HB3 kl_HB3
          go_wp2_with fail
          with_reducible refine (HCk.out _ HX4.out).mono ?_
          rintro e u5 ⟨rfl, hb5⟩
          have hX5 := HX4.out.trans (hb5.mono HX4.out.size)
          have HX5 := Lib.hid hX5
          obtain ⟨k0_HB5, k1_HB5, k2_HB5, k3_HB5, k4_HB5, kl_HB5⟩ := HB.out _ hX5
          have z5 := hX5.size
          simp only [World.alloc, Array.size_push] at z5
          clear hb5 hX5 k0_HB4 k1_HB4 k2_HB4 k3_HB4 k4_HB4 kl_HB4
          go_wp2_with fail
          with_reducible refine (HB1.out _ HX5.out).mono ?_
          rintro e u6 ⟨rfl, hb6⟩
          have hX6 := HX5.out.trans (hb6.mono HX5.out.size)
          have HX6 := Lib.hid hX6
          obtain ⟨k0_HB6, k1_HB6, k2_HB6, k3_HB6, k4_HB6, kl_HB6⟩ := HB.out _ hX6
          have z6 := hX6.size
          simp only [World.alloc, Array.size_push] at z6
          clear hb6 hX6 k0_HB5 k1_HB5 k2_HB5 k3_HB5 k4_HB5 kl_HB5
          go_wp2_with fail
          with_reducible refine (HF2s.out _ HX6.out).mono ?_
          rintro e u7 ⟨rfl, hb7⟩
          have hX7 := HX6.out.trans (hb7.mono HX6.out.size)
          have HX7 := Lib.hid hX7
          obtain ⟨k0_HB7, k1_HB7, k2_HB7, k3_HB7, k4_HB7, kl_HB7⟩ := HB.out _ hX7
          have z7 := hX7.size
          simp only [World.alloc, Array.size_push] at z7
          clear hb7 hX7 k0_HB6 k1_HB6 k2_HB6 k3_HB6 k4_HB6 kl_HB6
          go_wp2_with fail
          with_reducible refine (HAw.out _ HX7.out).mono ?_
          rintro e u8 ⟨rfl, hb8⟩
          have hX8 := HX7.out.trans (hb8.mono HX7.out.size)
          have HX8 := Lib.hid hX8
          obtain ⟨k0_HB8, k1_HB8, k2_HB8, k3_HB8, k4_HB8, kl_HB8⟩ := HB.out _ hX8
          have z8 := hX8.size
          simp only [World.alloc, Array.size_push] at z8
          clear hb8 hX8 k0_HB7 k1_HB7 k2_HB7 k3_HB7 k4_HB7 kl_HB7
          go_wp2
          go_ret
          exact ⟨rfl, HAL.out.trans (HX8.out.mono HAL.out.size)⟩
      · have q1 : ((k1 : Int) == 0) = false := by rw [beq_eq_false_iff_ne]; omega
        have q2 : ((k1 : Int) != 0) = true := by rw [bne, q1]; rfl
        clear hk
        cases ho2 : Pt.fwd (Pt.turnR r) s1.data.toList with
        | none =>
          rw [ho2] at HB1
          have HLX := Lib.hid (And.intro hx5 hy5)
          generalize xs0.length = nx at *
          generalize ys0.length = ny at *
          clear hbx hr0 hz0 hy0 n1 n2 x1 x2 z1 z2 hx5 hy5 hF hB h11 h22 ho1 ho2 hsl hsr hsp hss
          subst hW0
          clear hal
          go_enter Tryd.func9, Tryd.ntmps9
          go_wp2_with fail
          with_reducible refine (HFt.out _ HX0.out).mono ?_
          rintro e u1 ⟨rfl, hb1⟩
          have hX1 := HX0.out.trans (hb1.mono HX0.out.size)
          have HX1 := Lib.hid hX1
          obtain ⟨k0_HB1, k1_HB1, k2_HB1, k3_HB1, k4_HB1, kl_HB1⟩ := HB.out _ hX1
          have z1 := hX1.size
          simp only [World.alloc, Array.size_push] at z1
          clear hb1 hX1 
          go_wp2_with fail
          with_reducible refine (HT.out _ HX1.out).mono ?_
          rintro e u2 ⟨C, cz, D, dz, rfl, hrt, hb2⟩
          have hX2 := HX1.out.trans (hb2.mono HX1.out.size)
          have HX2 := Lib.hid hX2
          obtain ⟨k0_HB2, k1_HB2, k2_HB2, k3_HB2, k4_HB2, kl_HB2⟩ := HB.out _ hX2
          have z2 := hX2.size
          simp only [World.alloc, Array.size_push] at z2
          have ha2 : Below u2.heap.size u2 (u2.alloc (.cells #[.bool ex0, .slice C ny cz, .bool f0, .slice D nx dz, .bool b0] 39)) := (Below.refl _ _).alloc (Nat.le_refl _) _
          have hXa := hX2.trans (ha2.mono hX2.size)
          have HXa := Lib.hid hXa
          have HRT := Lib.hid (hrt.keep ha2)
          obtain ⟨a0, a1, a2, a3, a4, al⟩ := HB.out _ hXa
          clear ha2 hXa hrt
          clear hb2 hX2 k0_HB1 k1_HB1 k2_HB1 k3_HB1 k4_HB1 kl_HB1
          go_wp2_with fail
          with_reducible refine (HF1.out _ HXa.out).mono ?_
          rintro e u3 ⟨rfl, hb3⟩
          have hX3 := HXa.out.trans (hb3.mono HXa.out.size)
          have HX3 := Lib.hid hX3
          obtain ⟨k0_HB3, k1_HB3, k2_HB3, k3_HB3, k4_HB3, kl_HB3⟩ := HB.out _ hX3
          have z3 := hX3.size
          simp only [World.alloc, Array.size_push] at z3
          obtain ⟨t0, t1, t2, t3, t4, tl⟩ := (RBox.new u2 ex0 C ny cz f0 D nx dz b0).keep hb3
          have HBt3 := Lib.hid (HBt.out C D cz dz u3 (HRT.out.keep hb3) hX3)
          clear a0 a1 a2 a3 a4 al
          clear hb3 hX3 k0_HB2 k1_HB2 k2_HB2 k3_HB2 k4_HB2 kl_HB2
          go_wp2_with fail
          with_reducible refine (HBt3.out).mono ?_
          rintro e u4 ⟨rfl, hb4⟩
          have hX4 := HX3.out.trans (hb4.mono HX3.out.size)
          have HX4 := Lib.hid hX4
          obtain ⟨k0_HB4, k1_HB4, k2_HB4, k3_HB4, k4_HB4, kl_HB4⟩ := HB.out _ hX4
          have z4 := hX4.size
          simp only [World.alloc, Array.size_push] at z4
          clear t0 t1 t2 t3 t4 tl
          clear hb4 hX4 k0_HB3 k1_HB3 k2_HB3 k3_HB3 k4_HB3 kl_HB3
          go_wp2_with fail
          with_reducible refine (HCk.out _ HX4.out).mono ?_
          rintro e u5 ⟨rfl, hb5⟩
          have hX5 := HX4.out.trans (hb5.mono HX4.out.size)
          have HX5 := Lib.hid hX5
          obtain ⟨k0_HB5, k1_HB5, k2_HB5, k3_HB5, k4_HB5, kl_HB5⟩ := HB.out _ hX5
          have z5 := hX5.size
          simp only [World.alloc, Array.size_push] at z5
          clear hb5 hX5 k0_HB4 k1_HB4 k2_HB4 k3_HB4 k4_HB4 kl_HB4
          go_wp2_with fail
          with_reducible refine (HB1.out _ HX5.out).mono ?_
          rintro e u6 ⟨rfl, hb6⟩
          have hX6 := HX5.out.trans (hb6.mono HX5.out.size)
          have HX6 := Lib.hid hX6
          obtain ⟨k0_HB6, k1_HB6, k2_HB6, k3_HB6, k4_HB6, kl_HB6⟩ := HB.out _ hX6
          have z6 := hX6.size
          simp only [World.alloc, Array.size_push] at z6
          clear hb6 hX6 k0_HB5 k1_HB5 k2_HB5 k3_HB5 k4_HB5 kl_HB5
          go_wp2_with fail
          with_reducible refine (HAw.out _ HX6.out).mono ?_
          rintro e u7 ⟨rfl, hb7⟩
          have hX7 := HX6.out.trans (hb7.mono HX6.out.size)
          have HX7 := Lib.hid hX7
          obtain ⟨k0_HB7, k1_HB7, k2_HB7, k3_HB7, k4_HB7, kl_HB7⟩ := HB.out _ hX7
          have z7 := hX7.size
          simp only [World.alloc, Array.size_push] at z7
          clear hb7 hX7 k0_HB6 k1_HB6 k2_HB6 k3_HB6 k4_HB6 kl_HB6
          go_wp2
          go_ret
          exact ⟨rfl, HAL.out.trans (HX7.out.mono HAL.out.size)⟩
        | some t2 =>
          rw [ho2] at HB1
          obtain ⟨g1, g2⟩ := h22 t2 ho2
          have hz2 : (⟨t2.toArray⟩ : ByteArray).size ≤ 100000 := by rw [size_mk]; omega
          have hF2 := fun w' hb => hF w' hb ⟨t2.toArray⟩ hz2
          have ht2 : (⟨t2.toArray⟩ : ByteArray).data.toList = t2 := by simp
          rw [ht2, g1] at hF2
          unfold GivesFw at hF2 HB1
          simp only [Option.getD_some, Option.isSome_some, hss] at hF2 HB1
          have HF2s := Lib.hid hF2
          clear hF2 g1 g2 ht2
          generalize (⟨t2.toArray⟩ : ByteArray) = T2 at *
          have HLX := Lib.hid (And.intro hx5 hy5)
          generalize xs0.length = nx at *
          generalize ys0.length = ny at *
          clear hbx hr0 hz0 hy0 n1 n2 x1 x2 z1 z2 hx5 hy5 hF hB h11 h22 ho1 ho2 hsl hsr hsp hss
          subst hW0
          clear hal
          go_enter Tryd.func9, Tryd.ntmps9
          go_wp2_with fail
          with_reducible refine (HFt.out _ HX0.out).mono ?_
          rintro e u1 ⟨rfl, hb1⟩
          have hX1 := HX0.out.trans (hb1.mono HX0.out.size)
          have HX1 := Lib.hid hX1
          obtain ⟨k0_HB1, k1_HB1, k2_HB1, k3_HB1, k4_HB1, kl_HB1⟩ := HB.out _ hX1
          have z1 := hX1.size
          simp only [World.alloc, Array.size_push] at z1
          clear hb1 hX1 
          go_wp2_with fail
          with_reducible refine (HT.out _ HX1.out).mono ?_
          rintro e u2 ⟨C, cz, D, dz, rfl, hrt, hb2⟩
          have hX2 := HX1.out.trans (hb2.mono HX1.out.size)
          have HX2 := Lib.hid hX2
          obtain ⟨k0_HB2, k1_HB2, k2_HB2, k3_HB2, k4_HB2, kl_HB2⟩ := HB.out _ hX2
          have z2 := hX2.size
          simp only [World.alloc, Array.size_push] at z2
          have ha2 : Below u2.heap.size u2 (u2.alloc (.cells #[.bool ex0, .slice C ny cz, .bool f0, .slice D nx dz, .bool b0] 39)) := (Below.refl _ _).alloc (Nat.le_refl _) _
          have hXa := hX2.trans (ha2.mono hX2.size)
          have HXa := Lib.hid hXa
          have HRT := Lib.hid (hrt.keep ha2)
          obtain ⟨a0, a1, a2, a3, a4, al⟩ := HB.out _ hXa
          clear ha2 hXa hrt
          clear hb2 hX2 k0_HB1 k1_HB1 k2_HB1 k3_HB1 k4_HB1 kl_HB1
          go_wp2_with fail
          with_reducible refine (HF1.out _ HXa.out).mono ?_
          rintro e u3 ⟨rfl, hb3⟩
          have hX3 := HXa.out.trans (hb3.mono HXa.out.size)
          have HX3 := Lib.hid hX3
          obtain ⟨k0_HB3, k1_HB3, k2_HB3, k3_HB3, k4_HB3, kl_HB3⟩ := HB.out _ hX3
          have z3 := hX3.size
          simp only [World.alloc, Array.size_push] at z3
          obtain ⟨t0, t1, t2, t3, t4, tl⟩ := (RBox.new u2 ex0 C ny cz f0 D nx dz b0).keep hb3
          have HBt3 := Lib.hid (HBt.out C D cz dz u3 (HRT.out.keep hb3) hX3)
          clear a0 a1 a2 a3 a4 al
          clear hb3 hX3 k0_HB2 k1_HB2 k2_HB2 k3_HB2 k4_HB2 kl_HB2
          go_wp2_with fail
          with_reducible refine (HBt3.out).mono ?_
          rintro e u4 ⟨rfl, hb4⟩
          have hX4 := HX3.out.trans (hb4.mono HX3.out.size)
          have HX4 := Lib.hid hX4
          obtain ⟨k0_HB4, k1_HB4, k2_HB4, k3_HB4, k4_HB4, kl_HB4⟩ := HB.out _ hX4
          have z4 := hX4.size
          simp only [World.alloc, Array.size_push] at z4
          clear t0 t1 t2 t3 t4 tl
          clear hb4 hX4 k0_HB3 k1_HB3 k2_HB3 k3_HB3 k4_HB3 kl_HB3
          go_wp2_with fail
          with_reducible refine (HCk.out _ HX4.out).mono ?_
          rintro e u5 ⟨rfl, hb5⟩
          have hX5 := HX4.out.trans (hb5.mono HX4.out.size)
          have HX5 := Lib.hid hX5
          obtain ⟨k0_HB5, k1_HB5, k2_HB5, k3_HB5, k4_HB5, kl_HB5⟩ := HB.out _ hX5
          have z5 := hX5.size
          simp only [World.alloc, Array.size_push] at z5
          clear hb5 hX5 k0_HB4 k1_HB4 k2_HB4 k3_HB4 k4_HB4 kl_HB4
          go_wp2_with fail
          with_reducible refine (HB1.out _ HX5.out).mono ?_
          rintro e u6 ⟨rfl, hb6⟩
          have hX6 := HX5.out.trans (hb6.mono HX5.out.size)
          have HX6 := Lib.hid hX6
          obtain ⟨k0_HB6, k1_HB6, k2_HB6, k3_HB6, k4_HB6, kl_HB6⟩ := HB.out _ hX6
          have z6 := hX6.size
          simp only [World.alloc, Array.size_push] at z6
          clear hb6 hX6 k0_HB5 k1_HB5 k2_HB5 k3_HB5 k4_HB5 kl_HB5
          go_wp2_with fail
          with_reducible refine (HF2s.out _ HX6.out).mono ?_
          rintro e u7 ⟨rfl, hb7⟩
          have hX7 := HX6.out.trans (hb7.mono HX6.out.size)
          have HX7 := Lib.hid hX7
          obtain ⟨k0_HB7, k1_HB7, k2_HB7, k3_HB7, k4_HB7, kl_HB7⟩ := HB.out _ hX7
          have z7 := hX7.size
          simp only [World.alloc, Array.size_push] at z7
          clear hb7 hX7 k0_HB6 k1_HB6 k2_HB6 k3_HB6 k4_HB6 kl_HB6
          go_wp2_with fail
          with_reducible refine (HAw.out _ HX7.out).mono ?_
          rintro e u8 ⟨rfl, hb8⟩
          have hX8 := HX7.out.trans (hb8.mono HX7.out.size)
          have HX8 := Lib.hid hX8
          obtain ⟨k0_HB8, k1_HB8, k2_HB8, k3_HB8, k4_HB8, kl_HB8⟩ := HB.out _ hX8
          have z8 := hX8.size
          simp only [World.alloc, Array.size_push] at z8
          clear hb8 hX8 k0_HB7 k1_HB7 k2_HB7 k3_HB7 k4_HB7 kl_HB7
          go_wp2
          go_ret
          exact ⟨rfl, HAL.out.trans (HX8.out.mono HAL.out.size)⟩
    | some t1 =>
      obtain ⟨g1, g2, g3⟩ := h11 t1 ho1
      rw [ho1] at HF1 HBt
      rw [g3] at HCk
      have hz1 : (⟨t1.toArray⟩ : ByteArray).size ≤ 100000 := by rw [size_mk]; omega
      have hB1 := fun w' hb => hB w' hb ⟨t1.toArray⟩ hz1
      have ht1 : (⟨t1.toArray⟩ : ByteArray).data.toList = t1 := by simp
      rw [ht1, g1] at hB1
      unfold GivesFw at hB1 HF1 HBt
      simp only [Option.getD_some, Option.isSome_some, hss] at hB1 HF1 HBt
      have HB1s := Lib.hid hB1
      clear hB1 g1 g2 g3 ht1
      generalize (⟨t1.toArray⟩ : ByteArray) = T1 at *
      cases ho2 : Pt.fwd (Pt.turnR r) s1.data.toList with
      | none =>
        rw [ho2] at HB1
        have HLX := Lib.hid (And.intro hx5 hy5)
        generalize xs0.length = nx at *
        generalize ys0.length = ny at *
        clear hbx hr0 hz0 hy0 n1 n2 x1 x2 z1 z2 hx5 hy5 hF hB h11 h22 ho1 ho2 hsl hsr hsp hss
        subst hW0
        clear hal
        go_enter Tryd.func9, Tryd.ntmps9
        go_wp2_with fail
        with_reducible refine (HFt.out _ HX0.out).mono ?_
        rintro e u1 ⟨rfl, hb1⟩
        have hX1 := HX0.out.trans (hb1.mono HX0.out.size)
        have HX1 := Lib.hid hX1
        obtain ⟨k0_HB1, k1_HB1, k2_HB1, k3_HB1, k4_HB1, kl_HB1⟩ := HB.out _ hX1
        have z1 := hX1.size
        simp only [World.alloc, Array.size_push] at z1
        clear hb1 hX1 
        go_wp2_with fail
        with_reducible refine (HT.out _ HX1.out).mono ?_
        rintro e u2 ⟨C, cz, D, dz, rfl, hrt, hb2⟩
        have hX2 := HX1.out.trans (hb2.mono HX1.out.size)
        have HX2 := Lib.hid hX2
        obtain ⟨k0_HB2, k1_HB2, k2_HB2, k3_HB2, k4_HB2, kl_HB2⟩ := HB.out _ hX2
        have z2 := hX2.size
        simp only [World.alloc, Array.size_push] at z2
        have ha2 : Below u2.heap.size u2 (u2.alloc (.cells #[.bool ex0, .slice C ny cz, .bool f0, .slice D nx dz, .bool b0] 39)) := (Below.refl _ _).alloc (Nat.le_refl _) _
        have hXa := hX2.trans (ha2.mono hX2.size)
        have HXa := Lib.hid hXa
        have HRT := Lib.hid (hrt.keep ha2)
        obtain ⟨a0, a1, a2, a3, a4, al⟩ := HB.out _ hXa
        clear ha2 hXa hrt
        clear hb2 hX2 k0_HB1 k1_HB1 k2_HB1 k3_HB1 k4_HB1 kl_HB1
        go_wp2_with fail
        with_reducible refine (HF1.out _ HXa.out).mono ?_
        rintro e u3 ⟨rfl, hb3⟩
        have hX3 := HXa.out.trans (hb3.mono HXa.out.size)
        have HX3 := Lib.hid hX3
        obtain ⟨k0_HB3, k1_HB3, k2_HB3, k3_HB3, k4_HB3, kl_HB3⟩ := HB.out _ hX3
        have z3 := hX3.size
        simp only [World.alloc, Array.size_push] at z3
        obtain ⟨t0, t1, t2, t3, t4, tl⟩ := (RBox.new u2 ex0 C ny cz f0 D nx dz b0).keep hb3
        have HBt3 := Lib.hid (HBt.out C D cz dz u3 (HRT.out.keep hb3) hX3)
        clear a0 a1 a2 a3 a4 al
        clear hb3 hX3 k0_HB2 k1_HB2 k2_HB2 k3_HB2 k4_HB2 kl_HB2
        go_wp2_with fail
        with_reducible refine (HBt3.out).mono ?_
        rintro e u4 ⟨rfl, hb4⟩
        have hX4 := HX3.out.trans (hb4.mono HX3.out.size)
        have HX4 := Lib.hid hX4
        obtain ⟨k0_HB4, k1_HB4, k2_HB4, k3_HB4, k4_HB4, kl_HB4⟩ := HB.out _ hX4
        have z4 := hX4.size
        simp only [World.alloc, Array.size_push] at z4
        clear t0 t1 t2 t3 t4 tl
        clear hb4 hX4 k0_HB3 k1_HB3 k2_HB3 k3_HB3 k4_HB3 kl_HB3
        go_wp2_with fail
        with_reducible refine (HCk.out _ HX4.out).mono ?_
        rintro e u5 ⟨rfl, hb5⟩
        have hX5 := HX4.out.trans (hb5.mono HX4.out.size)
        have HX5 := Lib.hid hX5
        obtain ⟨k0_HB5, k1_HB5, k2_HB5, k3_HB5, k4_HB5, kl_HB5⟩ := HB.out _ hX5
        have z5 := hX5.size
        simp only [World.alloc, Array.size_push] at z5
        clear hb5 hX5 k0_HB4 k1_HB4 k2_HB4 k3_HB4 k4_HB4 kl_HB4
        go_wp2_with fail
        with_reducible refine (HB1s.out _ HX5.out).mono ?_
        rintro e u6 ⟨rfl, hb6⟩
        have hX6 := HX5.out.trans (hb6.mono HX5.out.size)
        have HX6 := Lib.hid hX6
        obtain ⟨k0_HB6, k1_HB6, k2_HB6, k3_HB6, k4_HB6, kl_HB6⟩ := HB.out _ hX6
        have z6 := hX6.size
        simp only [World.alloc, Array.size_push] at z6
        clear hb6 hX6 k0_HB5 k1_HB5 k2_HB5 k3_HB5 k4_HB5 kl_HB5
        go_wp2_with fail
        with_reducible refine (HB1.out _ HX6.out).mono ?_
        rintro e u7 ⟨rfl, hb7⟩
        have hX7 := HX6.out.trans (hb7.mono HX6.out.size)
        have HX7 := Lib.hid hX7
        obtain ⟨k0_HB7, k1_HB7, k2_HB7, k3_HB7, k4_HB7, kl_HB7⟩ := HB.out _ hX7
        have z7 := hX7.size
        simp only [World.alloc, Array.size_push] at z7
        clear hb7 hX7 k0_HB6 k1_HB6 k2_HB6 k3_HB6 k4_HB6 kl_HB6
        go_wp2_with fail
        with_reducible refine (HAw.out _ HX7.out).mono ?_
        rintro e u8 ⟨rfl, hb8⟩
        have hX8 := HX7.out.trans (hb8.mono HX7.out.size)
        have HX8 := Lib.hid hX8
        obtain ⟨k0_HB8, k1_HB8, k2_HB8, k3_HB8, k4_HB8, kl_HB8⟩ := HB.out _ hX8
        have z8 := hX8.size
        simp only [World.alloc, Array.size_push] at z8
        clear hb8 hX8 k0_HB7 k1_HB7 k2_HB7 k3_HB7 k4_HB7 kl_HB7
        go_wp2
        go_ret
        exact ⟨rfl, HAL.out.trans (HX8.out.mono HAL.out.size)⟩
      | some t2 =>
        rw [ho2] at HB1
        obtain ⟨g1, g2⟩ := h22 t2 ho2
        have hz2 : (⟨t2.toArray⟩ : ByteArray).size ≤ 100000 := by rw [size_mk]; omega
        have hF2 := fun w' hb => hF w' hb ⟨t2.toArray⟩ hz2
        have ht2 : (⟨t2.toArray⟩ : ByteArray).data.toList = t2 := by simp
        rw [ht2, g1] at hF2
        unfold GivesFw at hF2 HB1
        simp only [Option.getD_some, Option.isSome_some, hss] at hF2 HB1
        have HF2s := Lib.hid hF2
        clear hF2 g1 g2 ht2
        generalize (⟨t2.toArray⟩ : ByteArray) = T2 at *
        have HLX := Lib.hid (And.intro hx5 hy5)
        generalize xs0.length = nx at *
        generalize ys0.length = ny at *
        clear hbx hr0 hz0 hy0 n1 n2 x1 x2 z1 z2 hx5 hy5 hF hB h11 h22 ho1 ho2 hsl hsr hsp hss
        subst hW0
        clear hal
        go_enter Tryd.func9, Tryd.ntmps9
        go_wp2_with fail
        with_reducible refine (HFt.out _ HX0.out).mono ?_
        rintro e u1 ⟨rfl, hb1⟩
        have hX1 := HX0.out.trans (hb1.mono HX0.out.size)
        have HX1 := Lib.hid hX1
        obtain ⟨k0_HB1, k1_HB1, k2_HB1, k3_HB1, k4_HB1, kl_HB1⟩ := HB.out _ hX1
        have z1 := hX1.size
        simp only [World.alloc, Array.size_push] at z1
        clear hb1 hX1 
        go_wp2_with fail
        with_reducible refine (HT.out _ HX1.out).mono ?_
        rintro e u2 ⟨C, cz, D, dz, rfl, hrt, hb2⟩
        have hX2 := HX1.out.trans (hb2.mono HX1.out.size)
        have HX2 := Lib.hid hX2
        obtain ⟨k0_HB2, k1_HB2, k2_HB2, k3_HB2, k4_HB2, kl_HB2⟩ := HB.out _ hX2
        have z2 := hX2.size
        simp only [World.alloc, Array.size_push] at z2
        have ha2 : Below u2.heap.size u2 (u2.alloc (.cells #[.bool ex0, .slice C ny cz, .bool f0, .slice D nx dz, .bool b0] 39)) := (Below.refl _ _).alloc (Nat.le_refl _) _
        have hXa := hX2.trans (ha2.mono hX2.size)
        have HXa := Lib.hid hXa
        have HRT := Lib.hid (hrt.keep ha2)
        obtain ⟨a0, a1, a2, a3, a4, al⟩ := HB.out _ hXa
        clear ha2 hXa hrt
        clear hb2 hX2 k0_HB1 k1_HB1 k2_HB1 k3_HB1 k4_HB1 kl_HB1
        go_wp2_with fail
        with_reducible refine (HF1.out _ HXa.out).mono ?_
        rintro e u3 ⟨rfl, hb3⟩
        have hX3 := HXa.out.trans (hb3.mono HXa.out.size)
        have HX3 := Lib.hid hX3
        obtain ⟨k0_HB3, k1_HB3, k2_HB3, k3_HB3, k4_HB3, kl_HB3⟩ := HB.out _ hX3
        have z3 := hX3.size
        simp only [World.alloc, Array.size_push] at z3
        obtain ⟨t0, t1, t2, t3, t4, tl⟩ := (RBox.new u2 ex0 C ny cz f0 D nx dz b0).keep hb3
        have HBt3 := Lib.hid (HBt.out C D cz dz u3 (HRT.out.keep hb3) hX3)
        clear a0 a1 a2 a3 a4 al
        clear hb3 hX3 k0_HB2 k1_HB2 k2_HB2 k3_HB2 k4_HB2 kl_HB2
        go_wp2_with fail
        with_reducible refine (HBt3.out).mono ?_
        rintro e u4 ⟨rfl, hb4⟩
        have hX4 := HX3.out.trans (hb4.mono HX3.out.size)
        have HX4 := Lib.hid hX4
        obtain ⟨k0_HB4, k1_HB4, k2_HB4, k3_HB4, k4_HB4, kl_HB4⟩ := HB.out _ hX4
        have z4 := hX4.size
        simp only [World.alloc, Array.size_push] at z4
        clear t0 t1 t2 t3 t4 tl
        clear hb4 hX4 k0_HB3 k1_HB3 k2_HB3 k3_HB3 k4_HB3 kl_HB3
        go_wp2_with fail
        with_reducible refine (HCk.out _ HX4.out).mono ?_
        rintro e u5 ⟨rfl, hb5⟩
        have hX5 := HX4.out.trans (hb5.mono HX4.out.size)
        have HX5 := Lib.hid hX5
        obtain ⟨k0_HB5, k1_HB5, k2_HB5, k3_HB5, k4_HB5, kl_HB5⟩ := HB.out _ hX5
        have z5 := hX5.size
        simp only [World.alloc, Array.size_push] at z5
        clear hb5 hX5 k0_HB4 k1_HB4 k2_HB4 k3_HB4 k4_HB4 kl_HB4
        go_wp2_with fail
        with_reducible refine (HB1s.out _ HX5.out).mono ?_
        rintro e u6 ⟨rfl, hb6⟩
        have hX6 := HX5.out.trans (hb6.mono HX5.out.size)
        have HX6 := Lib.hid hX6
        obtain ⟨k0_HB6, k1_HB6, k2_HB6, k3_HB6, k4_HB6, kl_HB6⟩ := HB.out _ hX6
        have z6 := hX6.size
        simp only [World.alloc, Array.size_push] at z6
        clear hb6 hX6 k0_HB5 k1_HB5 k2_HB5 k3_HB5 k4_HB5 kl_HB5
        go_wp2_with fail
        with_reducible refine (HB1.out _ HX6.out).mono ?_
        rintro e u7 ⟨rfl, hb7⟩
        have hX7 := HX6.out.trans (hb7.mono HX6.out.size)
        have HX7 := Lib.hid hX7
        obtain ⟨k0_HB7, k1_HB7, k2_HB7, k3_HB7, k4_HB7, kl_HB7⟩ := HB.out _ hX7
        have z7 := hX7.size
        simp only [World.alloc, Array.size_push] at z7
        clear hb7 hX7 k0_HB6 k1_HB6 k2_HB6 k3_HB6 k4_HB6 kl_HB6
        go_wp2_with fail
        with_reducible refine (HF2s.out _ HX7.out).mono ?_
        rintro e u8 ⟨rfl, hb8⟩
        have hX8 := HX7.out.trans (hb8.mono HX7.out.size)
        have HX8 := Lib.hid hX8
        obtain ⟨k0_HB8, k1_HB8, k2_HB8, k3_HB8, k4_HB8, kl_HB8⟩ := HB.out _ hX8
        have z8 := hX8.size
        simp only [World.alloc, Array.size_push] at z8
        clear hb8 hX8 k0_HB7 k1_HB7 k2_HB7 k3_HB7 k4_HB7 kl_HB7
        go_wp2_with fail
        with_reducible refine (HAw.out _ HX8.out).mono ?_
        rintro e u9 ⟨rfl, hb9⟩
        have hX9 := HX8.out.trans (hb9.mono HX8.out.size)
        have HX9 := Lib.hid hX9
        obtain ⟨k0_HB9, k1_HB9, k2_HB9, k3_HB9, k4_HB9, kl_HB9⟩ := HB.out _ hX9
        have z9 := hX9.size
        simp only [World.alloc, Array.size_push] at z9
        clear hb9 hX9 k0_HB8 k1_HB8 k2_HB8 k3_HB8 k4_HB8 kl_HB8
        go_wp2
        go_ret
        exact ⟨rfl, HAL.out.trans (HX9.out.mono HAL.out.size)⟩

end Go.Proofs.YtihboibebhokbaaDoor.ruleBack
