/- RuleAssociates returns true at every three lines (the card: the variables that it lists hold what the program text lays). Conditions: none of its own. -/
import Derived.Test.YtihboibebhokbaaDoorCards
import Derived.Test.YtihboibebhokbaaDoorTie
import Derived.WalkKit
import Derived.ProofKit
import Derived.OpenShut
import Derived.ShutString
import Derived.Test.YtihboibebhokbaaDoorPatOpen
import Derived.Test.YtihboibebhokbaaDoorRulNarAll
namespace Go.Proofs.YtihboibebhokbaaDoor.ruleAssociates
open Go.ChangeShapes Go.WideShapes Go.ChangeAt Go.RowKit
open Go.ChangeMaps (open_string shut_string)
set_option linter.unusedVariables false

theorem chain_szs {a b c : Pt.Rul} (h : Pt.chain a b = some c) (h1 : Pt.szs 300 a.left) (h2 : Pt.szs 300 a.right) (h3 : Pt.szs 300 b.left) (h4 : Pt.szs 300 b.right) : Pt.szs 600 c.left ∧ Pt.szs 600 c.right := by
  obtain ⟨_, _, x, y, m, hm, hx, hy, _, _, _, _, rfl, _⟩ := Pt.chain_form h
  have hms := Pt.meet_sizes h2 h3 hm
  obtain ⟨n', hn, rfl⟩ := Pt.nright_form hx
  exact ⟨(Pt.nleft_sizes (M := 300) hn h2 h3 h1).2, (Pt.nleft_sizes hy h3 hms h4).2⟩
theorem chain_lens {a b c : Pt.Rul} (h : Pt.chain a b = some c) : c.left.parts.length ≤ 12 ∧ c.right.parts.length ≤ 12 := by
  obtain ⟨h1, h2, _, _⟩ := Pt.rcheck_zero.1 (Pt.chain_ok h)
  exact ⟨(Pt.check_ok.1 h1).2, (Pt.check_ok.1 h2).2⟩
theorem boxesR3 (w : World) (ex : Bool) (A : Option Addr) (n c : Nat) (b : Bool) (B : Option Addr) (m d : Nat) (f : Bool) (ex' : Bool) (A' : Option Addr) (n' c' : Nat) (b' : Bool) (B' : Option Addr) (m' d' : Nat) (f' : Bool) (ex2 : Bool) (A2 : Option Addr) (n2 c2 : Nat) (b2 : Bool) (B2 : Option Addr) (m2 d2 : Nat) (f2 : Bool) :
    RBox (((w.alloc (rulObj ex A n c b B m d f)).alloc (rulObj ex' A' n' c' b' B' m' d' f')).alloc (rulObj ex2 A2 n2 c2 b2 B2 m2 d2 f2)) w.heap.size ex A n c b B m d f ∧ RBox (((w.alloc (rulObj ex A n c b B m d f)).alloc (rulObj ex' A' n' c' b' B' m' d' f')).alloc (rulObj ex2 A2 n2 c2 b2 B2 m2 d2 f2)) (w.heap.size + 1) ex' A' n' c' b' B' m' d' f' ∧ RBox (((w.alloc (rulObj ex A n c b B m d f)).alloc (rulObj ex' A' n' c' b' B' m' d' f')).alloc (rulObj ex2 A2 n2 c2 b2 B2 m2 d2 f2)) (w.heap.size + 1 + 1) ex2 A2 n2 c2 b2 B2 m2 d2 f2 := by
  have e2 : ((w.alloc (rulObj ex A n c b B m d f)).alloc (rulObj ex' A' n' c' b' B' m' d' f')).heap.size = w.heap.size + 1 + 1 := by simp
  obtain ⟨h1, h2⟩ := boxesR w ex A n c b B m d f ex' A' n' c' b' B' m' d' f'
  have h3 := RBox.new ((w.alloc (rulObj ex A n c b B m d f)).alloc (rulObj ex' A' n' c' b' B' m' d' f')) ex2 A2 n2 c2 b2 B2 m2 d2 f2
  rw [e2] at h3
  exact ⟨h1.keep ((Below.refl _ _).alloc (Nat.le_refl _) _), h2.keep ((Below.refl _ _).alloc (Nat.le_refl _) _), h3⟩
theorem RBox.aside {w : World} {g q : Nat} {ex : Bool} {A : Option Addr} {n c : Nat} {b : Bool} {B : Option Addr} {m d : Nat} {f : Bool} (h : RBox w g ex A n c b B m d f) (hq : q ≠ g) (u0 u1 u2 u3 u4 : Value) : RBox (((((w.setCell ⟨q, 0, none⟩ u0).setCell ⟨q, 1, none⟩ u1).setCell ⟨q, 2, none⟩ u2).setCell ⟨q, 3, none⟩ u3).setCell ⟨q, 4, none⟩ u4) g ex A n c b B m d f := by
  have hq2 := hq.symm
  exact ⟨by simp [go_sem, h.c0], by simp [go_sem, h.c1], by simp [go_sem, h.c2], by simp [go_sem, h.c3], by simp [go_sem, h.c4], by simpa [World.setCell] using h.lt⟩
theorem zeros2 (w : World) : ZRul ((w.alloc zeroRul).alloc zeroRul) w.heap.size ∧ ZRul ((w.alloc zeroRul).alloc zeroRul) (w.heap.size + 1) := by
  have h := ZRul.new (w.alloc zeroRul)
  rw [show (w.alloc zeroRul).heap.size = w.heap.size + 1 by simp] at h
  exact ⟨(ZRul.new w).keep ((Below.refl _ _).alloc (Nat.le_refl _) _), h⟩
set_option maxHeartbeats 16000000 in
theorem walk (w : World) (ex0 : Bool) (A0 : Option Addr) (xs0 : List ByteArray) (c0 : Nat) (b0 : Bool) (B0 : Option Addr) (ys0 : List ByteArray) (e0 : Nat) (f0 : Bool) (hr0 : RulR w ex0 A0 xs0 c0 b0 B0 ys0 e0 f0 ⟨ex0, ⟨bs xs0, b0⟩, ⟨bs ys0, f0⟩⟩) (hz0 : ∀ x ∈ xs0, x.size ≤ 140737488355000) (hy0 : ∀ x ∈ ys0, x.size ≤ 140737488355000) (ex1 : Bool) (A1 : Option Addr) (xs1 : List ByteArray) (c1 : Nat) (b1 : Bool) (B1 : Option Addr) (ys1 : List ByteArray) (e1 : Nat) (f1 : Bool) (hr1 : RulR w ex1 A1 xs1 c1 b1 B1 ys1 e1 f1 ⟨ex1, ⟨bs xs1, b1⟩, ⟨bs ys1, f1⟩⟩) (hz1 : ∀ x ∈ xs1, x.size ≤ 140737488355000) (hy1 : ∀ x ∈ ys1, x.size ≤ 140737488355000) (ex2 : Bool) (A2 : Option Addr) (xs2 : List ByteArray) (c2 : Nat) (b2 : Bool) (B2 : Option Addr) (ys2 : List ByteArray) (e2 : Nat) (f2 : Bool) (hr2 : RulR w ex2 A2 xs2 c2 b2 B2 ys2 e2 f2 ⟨ex2, ⟨bs xs2, b2⟩, ⟨bs ys2, f2⟩⟩) (hz2 : ∀ x ∈ xs2, x.size ≤ 140737488355000) (hy2 : ∀ x ∈ ys2, x.size ≤ 140737488355000) (hm : MaxL w) :
    Calls Tryd.prog 13 #[rulV ex0 A0 xs0.length c0 b0 B0 ys0.length e0 f0, rulV ex1 A1 xs1.length c1 b1 B1 ys1.length e1 f1, rulV ex2 A2 xs2.length c2 b2 B2 ys2.length e2 f2] w fun e w' => e = .returned (.bool true) ∧ Below w.heap.size w w' := by
  obtain ⟨W0, hW0⟩ : ∃ W0, W0 = ((w.alloc (.cells #[.bool ex0, .slice A0 xs0.length c0, .bool b0, .slice B0 ys0.length e0, .bool f0] 39)).alloc (.cells #[.bool ex1, .slice A1 xs1.length c1, .bool b1, .slice B1 ys1.length e1, .bool f1] 39)).alloc (.cells #[.bool ex2, .slice A2 xs2.length c2, .bool b2, .slice B2 ys2.length e2, .bool f2] 39) := ⟨_, rfl⟩
  have hal : Below w.heap.size w W0 := by rw [hW0]; exact (((Below.refl _ _).alloc (Nat.le_refl _) _).alloc (by simp) _).alloc (by simp; omega) _
  have HX0 := Lib.hid (Below.refl W0.heap.size W0)
  have HAL := Lib.hid hal
  have hws : W0.heap.size = w.heap.size + 1 + 1 + 1 := by rw [hW0]; simp
  have HWS := Lib.hid hws
  obtain ⟨hbx, hpx, hcx⟩ : RBox W0 w.heap.size ex0 A0 xs0.length c0 b0 B0 ys0.length e0 f0 ∧ RBox W0 (w.heap.size + 1) ex1 A1 xs1.length c1 b1 B1 ys1.length e1 f1 ∧ RBox W0 (w.heap.size + 1 + 1) ex2 A2 xs2.length c2 b2 B2 ys2.length e2 f2 := by rw [hW0]; exact boxesR3 ..
  have HB := Lib.hid (fun (w' : World) (hb : Below W0.heap.size W0 w') => hbx.keep hb)
  have HP := Lib.hid (fun (w' : World) (hb : Below W0.heap.size W0 w') => hpx.keep hb)
  have HR := Lib.hid (fun (w' : World) (hb : Below W0.heap.size W0 w') => hcx.keep hb)
  have hm0 := hm.keep hal hm.size
  have HAw := Lib.hid (fun (w' : World) (hb : Below W0.heap.size W0 w') => awake4_any w' (hm0.keep hb hm0.size))
  have HFa := Lib.hid (fun (w' : World) (hb : Below W0.heap.size W0 w') => fit_any ex0 A0 xs0 c0 b0 B0 ys0 e0 f0 w' (hr0.keep (hal.trans (hb.mono hal.size))) hz0 hy0)
  have HFb := Lib.hid (fun (w' : World) (hb : Below W0.heap.size W0 w') => fit_any ex1 A1 xs1 c1 b1 B1 ys1 e1 f1 w' (hr1.keep (hal.trans (hb.mono hal.size))) hz1 hy1)
  have HFc := Lib.hid (fun (w' : World) (hb : Below W0.heap.size W0 w') => fit_any ex2 A2 xs2 c2 b2 B2 ys2 e2 f2 w' (hr2.keep (hal.trans (hb.mono hal.size))) hz2 hy2)
  generalize hfb : fitB xs0 ys0 = fb0 at HFa
  cases fb0 with
  | false =>
    clear hfb
    generalize xs0.length = nx at *
    generalize ys0.length = ny at *
    generalize xs1.length = mx at *
    generalize ys1.length = my at *
    generalize xs2.length = ox at *
    generalize ys2.length = oy at *
    clear hbx hpx hcx hr0 hr1 hr2 hz0 hy0 hz1 hy1 hz2 hy2 hws
    subst hW0
    clear hal
    go_enter Tryd.func13, Tryd.ntmps13
    go_wp2_with fail
    with_reducible refine (HFa.out _ HX0.out).mono ?_
    rintro e u1 ⟨rfl, hb1⟩
    have hX1 := HX0.out.trans (hb1.mono HX0.out.size)
    have HX1 := Lib.hid hX1
    obtain ⟨k0_HB1, k1_HB1, k2_HB1, k3_HB1, k4_HB1, kl_HB1⟩ := HB.out _ hX1
    obtain ⟨q0_HP1, q1_HP1, q2_HP1, q3_HP1, q4_HP1, ql_HP1⟩ := HP.out _ hX1
    obtain ⟨r0_HR1, r1_HR1, r2_HR1, r3_HR1, r4_HR1, rl_HR1⟩ := HR.out _ hX1
    have z1 := hX1.size
    simp only [World.alloc, Array.size_push] at z1
    clear hb1 hX1 
    go_wp2_with fail
    with_reducible refine (HAw.out _ HX1.out).mono ?_
    rintro e u2 ⟨rfl, hb2⟩
    have hX2 := HX1.out.trans (hb2.mono HX1.out.size)
    have HX2 := Lib.hid hX2
    obtain ⟨k0_HB2, k1_HB2, k2_HB2, k3_HB2, k4_HB2, kl_HB2⟩ := HB.out _ hX2
    obtain ⟨q0_HP2, q1_HP2, q2_HP2, q3_HP2, q4_HP2, ql_HP2⟩ := HP.out _ hX2
    obtain ⟨r0_HR2, r1_HR2, r2_HR2, r3_HR2, r4_HR2, rl_HR2⟩ := HR.out _ hX2
    have z2 := hX2.size
    simp only [World.alloc, Array.size_push] at z2
    clear hb2 hX2 k0_HB1 k1_HB1 k2_HB1 k3_HB1 k4_HB1 kl_HB1 q0_HP1 q1_HP1 q2_HP1 q3_HP1 q4_HP1 ql_HP1 r0_HR1 r1_HR1 r2_HR1 r3_HR1 r4_HR1 rl_HR1
    go_wp2
    go_ret
    exact ⟨rfl, HAL.out.trans (HX2.out.mono HAL.out.size)⟩
  | true =>
    unfold fitB at hfb
    rw [Bool.and_eq_true] at hfb
    obtain ⟨n0, g0, x0⟩ := small4_facts hfb.1
    obtain ⟨m0, h0, y0⟩ := small4_facts hfb.2
    clear hfb
    generalize hfb : fitB xs1 ys1 = fb1 at HFb
    cases fb1 with
    | false =>
      clear hfb n0 g0 x0 m0 h0 y0
      generalize xs0.length = nx at *
      generalize ys0.length = ny at *
      generalize xs1.length = mx at *
      generalize ys1.length = my at *
      generalize xs2.length = ox at *
      generalize ys2.length = oy at *
      clear hbx hpx hcx hr0 hr1 hr2 hz0 hy0 hz1 hy1 hz2 hy2 hws
      subst hW0
      clear hal
      go_enter Tryd.func13, Tryd.ntmps13
      go_wp2_with fail
      with_reducible refine (HFa.out _ HX0.out).mono ?_
      rintro e u1 ⟨rfl, hb1⟩
      have hX1 := HX0.out.trans (hb1.mono HX0.out.size)
      have HX1 := Lib.hid hX1
      obtain ⟨k0_HB1, k1_HB1, k2_HB1, k3_HB1, k4_HB1, kl_HB1⟩ := HB.out _ hX1
      obtain ⟨q0_HP1, q1_HP1, q2_HP1, q3_HP1, q4_HP1, ql_HP1⟩ := HP.out _ hX1
      obtain ⟨r0_HR1, r1_HR1, r2_HR1, r3_HR1, r4_HR1, rl_HR1⟩ := HR.out _ hX1
      have z1 := hX1.size
      simp only [World.alloc, Array.size_push] at z1
      clear hb1 hX1 
      go_wp2_with fail
      with_reducible refine (HFb.out _ HX1.out).mono ?_
      rintro e u2 ⟨rfl, hb2⟩
      have hX2 := HX1.out.trans (hb2.mono HX1.out.size)
      have HX2 := Lib.hid hX2
      obtain ⟨k0_HB2, k1_HB2, k2_HB2, k3_HB2, k4_HB2, kl_HB2⟩ := HB.out _ hX2
      obtain ⟨q0_HP2, q1_HP2, q2_HP2, q3_HP2, q4_HP2, ql_HP2⟩ := HP.out _ hX2
      obtain ⟨r0_HR2, r1_HR2, r2_HR2, r3_HR2, r4_HR2, rl_HR2⟩ := HR.out _ hX2
      have z2 := hX2.size
      simp only [World.alloc, Array.size_push] at z2
      clear hb2 hX2 k0_HB1 k1_HB1 k2_HB1 k3_HB1 k4_HB1 kl_HB1 q0_HP1 q1_HP1 q2_HP1 q3_HP1 q4_HP1 ql_HP1 r0_HR1 r1_HR1 r2_HR1 r3_HR1 r4_HR1 rl_HR1
      go_wp2_with fail
      with_reducible refine (HAw.out _ HX2.out).mono ?_
      rintro e u3 ⟨rfl, hb3⟩
      have hX3 := HX2.out.trans (hb3.mono HX2.out.size)
      have HX3 := Lib.hid hX3
      obtain ⟨k0_HB3, k1_HB3, k2_HB3, k3_HB3, k4_HB3, kl_HB3⟩ := HB.out _ hX3
      obtain ⟨q0_HP3, q1_HP3, q2_HP3, q3_HP3, q4_HP3, ql_HP3⟩ := HP.out _ hX3
      obtain ⟨r0_HR3, r1_HR3, r2_HR3, r3_HR3, r4_HR3, rl_HR3⟩ := HR.out _ hX3
      have z3 := hX3.size
      simp only [World.alloc, Array.size_push] at z3
      clear hb3 hX3 k0_HB2 k1_HB2 k2_HB2 k3_HB2 k4_HB2 kl_HB2 q0_HP2 q1_HP2 q2_HP2 q3_HP2 q4_HP2 ql_HP2 r0_HR2 r1_HR2 r2_HR2 r3_HR2 r4_HR2 rl_HR2
      go_wp2
      go_ret
      exact ⟨rfl, HAL.out.trans (HX3.out.mono HAL.out.size)⟩
    | true =>
      unfold fitB at hfb
      rw [Bool.and_eq_true] at hfb
      obtain ⟨n1, g1, x1⟩ := small4_facts hfb.1
      obtain ⟨m1, h1, y1⟩ := small4_facts hfb.2
      clear hfb
      generalize hfb : fitB xs2 ys2 = fb2 at HFc
      cases fb2 with
      | false =>
        clear hfb n0 g0 x0 m0 h0 y0 n1 g1 x1 m1 h1 y1
        generalize xs0.length = nx at *
        generalize ys0.length = ny at *
        generalize xs1.length = mx at *
        generalize ys1.length = my at *
        generalize xs2.length = ox at *
        generalize ys2.length = oy at *
        clear hbx hpx hcx hr0 hr1 hr2 hz0 hy0 hz1 hy1 hz2 hy2 hws
        subst hW0
        clear hal
        go_enter Tryd.func13, Tryd.ntmps13
        go_wp2_with fail
        with_reducible refine (HFa.out _ HX0.out).mono ?_
        rintro e u1 ⟨rfl, hb1⟩
        have hX1 := HX0.out.trans (hb1.mono HX0.out.size)
        have HX1 := Lib.hid hX1
        obtain ⟨k0_HB1, k1_HB1, k2_HB1, k3_HB1, k4_HB1, kl_HB1⟩ := HB.out _ hX1
        obtain ⟨q0_HP1, q1_HP1, q2_HP1, q3_HP1, q4_HP1, ql_HP1⟩ := HP.out _ hX1
        obtain ⟨r0_HR1, r1_HR1, r2_HR1, r3_HR1, r4_HR1, rl_HR1⟩ := HR.out _ hX1
        have z1 := hX1.size
        simp only [World.alloc, Array.size_push] at z1
        clear hb1 hX1 
        go_wp2_with fail
        with_reducible refine (HFb.out _ HX1.out).mono ?_
        rintro e u2 ⟨rfl, hb2⟩
        have hX2 := HX1.out.trans (hb2.mono HX1.out.size)
        have HX2 := Lib.hid hX2
        obtain ⟨k0_HB2, k1_HB2, k2_HB2, k3_HB2, k4_HB2, kl_HB2⟩ := HB.out _ hX2
        obtain ⟨q0_HP2, q1_HP2, q2_HP2, q3_HP2, q4_HP2, ql_HP2⟩ := HP.out _ hX2
        obtain ⟨r0_HR2, r1_HR2, r2_HR2, r3_HR2, r4_HR2, rl_HR2⟩ := HR.out _ hX2
        have z2 := hX2.size
        simp only [World.alloc, Array.size_push] at z2
        clear hb2 hX2 k0_HB1 k1_HB1 k2_HB1 k3_HB1 k4_HB1 kl_HB1 q0_HP1 q1_HP1 q2_HP1 q3_HP1 q4_HP1 ql_HP1 r0_HR1 r1_HR1 r2_HR1 r3_HR1 r4_HR1 rl_HR1
        go_wp2_with fail
        with_reducible refine (HFc.out _ HX2.out).mono ?_
        rintro e u3 ⟨rfl, hb3⟩
        have hX3 := HX2.out.trans (hb3.mono HX2.out.size)
        have HX3 := Lib.hid hX3
        obtain ⟨k0_HB3, k1_HB3, k2_HB3, k3_HB3, k4_HB3, kl_HB3⟩ := HB.out _ hX3
        obtain ⟨q0_HP3, q1_HP3, q2_HP3, q3_HP3, q4_HP3, ql_HP3⟩ := HP.out _ hX3
        obtain ⟨r0_HR3, r1_HR3, r2_HR3, r3_HR3, r4_HR3, rl_HR3⟩ := HR.out _ hX3
        have z3 := hX3.size
        simp only [World.alloc, Array.size_push] at z3
        clear hb3 hX3 k0_HB2 k1_HB2 k2_HB2 k3_HB2 k4_HB2 kl_HB2 q0_HP2 q1_HP2 q2_HP2 q3_HP2 q4_HP2 ql_HP2 r0_HR2 r1_HR2 r2_HR2 r3_HR2 r4_HR2 rl_HR2
        go_wp2_with fail
        with_reducible refine (HAw.out _ HX3.out).mono ?_
        rintro e u4 ⟨rfl, hb4⟩
        have hX4 := HX3.out.trans (hb4.mono HX3.out.size)
        have HX4 := Lib.hid hX4
        obtain ⟨k0_HB4, k1_HB4, k2_HB4, k3_HB4, k4_HB4, kl_HB4⟩ := HB.out _ hX4
        obtain ⟨q0_HP4, q1_HP4, q2_HP4, q3_HP4, q4_HP4, ql_HP4⟩ := HP.out _ hX4
        obtain ⟨r0_HR4, r1_HR4, r2_HR4, r3_HR4, r4_HR4, rl_HR4⟩ := HR.out _ hX4
        have z4 := hX4.size
        simp only [World.alloc, Array.size_push] at z4
        clear hb4 hX4 k0_HB3 k1_HB3 k2_HB3 k3_HB3 k4_HB3 kl_HB3 q0_HP3 q1_HP3 q2_HP3 q3_HP3 q4_HP3 ql_HP3 r0_HR3 r1_HR3 r2_HR3 r3_HR3 r4_HR3 rl_HR3
        go_wp2
        go_ret
        exact ⟨rfl, HAL.out.trans (HX4.out.mono HAL.out.size)⟩
      | true =>
        unfold fitB at hfb
        rw [Bool.and_eq_true] at hfb
        obtain ⟨n2, g2, x2⟩ := small4_facts hfb.1
        obtain ⟨m2, h2, y2⟩ := small4_facts hfb.2
        clear hfb
        obtain ⟨ra, hra⟩ : ∃ r : Pt.Rul, r = ⟨ex0, ⟨bs xs0, b0⟩, ⟨bs ys0, f0⟩⟩ := ⟨_, rfl⟩
        have la : Pt.szs 300 ra.left := by rw [hra]; exact g0
        have sa : Pt.szs 300 ra.right := by rw [hra]; exact h0
        rw [← hra] at hr0
        obtain ⟨rb, hrb⟩ : ∃ r : Pt.Rul, r = ⟨ex1, ⟨bs xs1, b1⟩, ⟨bs ys1, f1⟩⟩ := ⟨_, rfl⟩
        have lb : Pt.szs 300 rb.left := by rw [hrb]; exact g1
        have sb : Pt.szs 300 rb.right := by rw [hrb]; exact h1
        rw [← hrb] at hr1
        obtain ⟨rc, hrc⟩ : ∃ r : Pt.Rul, r = ⟨ex2, ⟨bs xs2, b2⟩, ⟨bs ys2, f2⟩⟩ := ⟨_, rfl⟩
        have lc : Pt.szs 300 rc.left := by rw [hrc]; exact g2
        have sc : Pt.szs 300 rc.right := by rw [hrc]; exact h2
        rw [← hrc] at hr2
        have HCab := Lib.hid (fun (w' : World) (hb : Below W0.heap.size W0 w') => chain_any ex0 A0 xs0 c0 b0 B0 ys0 e0 f0 ra ex1 A1 xs1 c1 b1 B1 ys1 e1 f1 rb w' (hr0.keep (hal.trans (hb.mono hal.size))) (hr1.keep (hal.trans (hb.mono hal.size))) (la.more (by decide)) (sa.more (by decide)) (lb.more (by decide)) (sb.more (by decide)) (by omega) (by omega))
        have HCbc := Lib.hid (fun (w' : World) (hb : Below W0.heap.size W0 w') => chain_any ex1 A1 xs1 c1 b1 B1 ys1 e1 f1 rb ex2 A2 xs2 c2 b2 B2 ys2 e2 f2 rc w' (hr1.keep (hal.trans (hb.mono hal.size))) (hr2.keep (hal.trans (hb.mono hal.size))) (lb.more (by decide)) (sb.more (by decide)) (lc.more (by decide)) (sc.more (by decide)) (by omega) (by omega))
        have HCx := Lib.hid (fun (x : Pt.Rul) (hx : Pt.chain ra rb = some x) (ex5 : Bool) (C5 : Option Addr) (zs5 : List ByteArray) (cz5 : Nat) (g5 : Bool) (D5 : Option Addr) (ws5 : List ByteArray) (dz5 : Nat) (h5 : Bool) (w' : World) (hb : Below W0.heap.size W0 w') (hq : RulR w' ex5 C5 zs5 cz5 g5 D5 ws5 dz5 h5 x) => chain_any ex5 C5 zs5 cz5 g5 D5 ws5 dz5 h5 x ex2 A2 xs2 c2 b2 B2 ys2 e2 f2 rc w' hq (hr2.keep (hal.trans (hb.mono hal.size))) ((chain_szs hx la sa lb sb).1.more (by decide)) ((chain_szs hx la sa lb sb).2.more (by decide)) (lc.more (by decide)) (sc.more (by decide)) (by have h := chain_lens hx; have := hq.left.len; omega) (by have h := chain_lens hx; have := hq.right.len; omega))
        have HCy := Lib.hid (fun (y : Pt.Rul) (hy : Pt.chain rb rc = some y) (ex6 : Bool) (C6 : Option Addr) (zs6 : List ByteArray) (cz6 : Nat) (g6 : Bool) (D6 : Option Addr) (ws6 : List ByteArray) (dz6 : Nat) (h6 : Bool) (w' : World) (hb : Below W0.heap.size W0 w') (hq : RulR w' ex6 C6 zs6 cz6 g6 D6 ws6 dz6 h6 y) => chain_any ex0 A0 xs0 c0 b0 B0 ys0 e0 f0 ra ex6 C6 zs6 cz6 g6 D6 ws6 dz6 h6 y w' (hr0.keep (hal.trans (hb.mono hal.size))) hq (la.more (by decide)) (sa.more (by decide)) ((chain_szs hy lb sb lc sc).1.more (by decide)) ((chain_szs hy lb sb lc sc).2.more (by decide)) (by omega) (by omega))
        have hass := fun h1 h2 h3 h4 => Pt.chain_assoc (a := ra) (b := rb) (c := rc) h1 h2 h3 h4
        clear n0 g0 x0 m0 h0 y0 n1 g1 x1 m1 h1 y1 n2 g2 x2 m2 h2 y2 la sa lb sb lc sc hra hrb hrc
        generalize hk1 : Pt.chainE ra rb = k1 at *
        generalize hk2 : Pt.chainE rb rc = k2 at *
        clear hk1 hk2
        by_cases he : k1 = 0 ∧ k2 = 0
        rotate_left
        · clear hass HCx HCy
          generalize Pt.chain ra rb = o1 at *
          generalize Pt.chain rb rc = o2 at *
          by_cases h1 : k1 = 0
          rotate_left
          · clear he
            have p11 : ((k1 : Int) == 0) = false := by rw [beq_eq_false_iff_ne]; omega
            have p12 : ((k1 : Int) != 0) = true := by rw [bne, p11]; rfl
            clear h1
            generalize xs0.length = nx at *
            generalize ys0.length = ny at *
            generalize xs1.length = mx at *
            generalize ys1.length = my at *
            generalize xs2.length = ox at *
            generalize ys2.length = oy at *
            clear hbx hpx hcx hr0 hr1 hr2 hz0 hy0 hz1 hy1 hz2 hy2 hws
            subst hW0
            clear hal
            go_enter Tryd.func13, Tryd.ntmps13
            go_wp2_with fail
            with_reducible refine (HFa.out _ HX0.out).mono ?_
            rintro e u1 ⟨rfl, hb1⟩
            have hX1 := HX0.out.trans (hb1.mono HX0.out.size)
            have HX1 := Lib.hid hX1
            obtain ⟨k0_HB1, k1_HB1, k2_HB1, k3_HB1, k4_HB1, kl_HB1⟩ := HB.out _ hX1
            obtain ⟨q0_HP1, q1_HP1, q2_HP1, q3_HP1, q4_HP1, ql_HP1⟩ := HP.out _ hX1
            obtain ⟨r0_HR1, r1_HR1, r2_HR1, r3_HR1, r4_HR1, rl_HR1⟩ := HR.out _ hX1
            have z1 := hX1.size
            simp only [World.alloc, Array.size_push] at z1
            clear hb1 hX1 
            go_wp2_with fail
            with_reducible refine (HFb.out _ HX1.out).mono ?_
            rintro e u2 ⟨rfl, hb2⟩
            have hX2 := HX1.out.trans (hb2.mono HX1.out.size)
            have HX2 := Lib.hid hX2
            obtain ⟨k0_HB2, k1_HB2, k2_HB2, k3_HB2, k4_HB2, kl_HB2⟩ := HB.out _ hX2
            obtain ⟨q0_HP2, q1_HP2, q2_HP2, q3_HP2, q4_HP2, ql_HP2⟩ := HP.out _ hX2
            obtain ⟨r0_HR2, r1_HR2, r2_HR2, r3_HR2, r4_HR2, rl_HR2⟩ := HR.out _ hX2
            have z2 := hX2.size
            simp only [World.alloc, Array.size_push] at z2
            clear hb2 hX2 k0_HB1 k1_HB1 k2_HB1 k3_HB1 k4_HB1 kl_HB1 q0_HP1 q1_HP1 q2_HP1 q3_HP1 q4_HP1 ql_HP1 r0_HR1 r1_HR1 r2_HR1 r3_HR1 r4_HR1 rl_HR1
            go_wp2_with fail
            with_reducible refine (HFc.out _ HX2.out).mono ?_
            rintro e u3 ⟨rfl, hb3⟩
            have hX3 := HX2.out.trans (hb3.mono HX2.out.size)
            have HX3 := Lib.hid hX3
            obtain ⟨k0_HB3, k1_HB3, k2_HB3, k3_HB3, k4_HB3, kl_HB3⟩ := HB.out _ hX3
            obtain ⟨q0_HP3, q1_HP3, q2_HP3, q3_HP3, q4_HP3, ql_HP3⟩ := HP.out _ hX3
            obtain ⟨r0_HR3, r1_HR3, r2_HR3, r3_HR3, r4_HR3, rl_HR3⟩ := HR.out _ hX3
            have z3 := hX3.size
            simp only [World.alloc, Array.size_push] at z3
            clear hb3 hX3 k0_HB2 k1_HB2 k2_HB2 k3_HB2 k4_HB2 kl_HB2 q0_HP2 q1_HP2 q2_HP2 q3_HP2 q4_HP2 ql_HP2 r0_HR2 r1_HR2 r2_HR2 r3_HR2 r4_HR2 rl_HR2
            go_wp2_with fail
            with_reducible refine (HCab.out _ HX3.out).mono ?_
            rintro e u4 ⟨ex5, C5, zs5, cz5, g5, D5, ws5, dz5, h5, rfl, hrr5, hb4⟩
            have hX4 := HX3.out.trans (hb4.mono HX3.out.size)
            have HX4 := Lib.hid hX4
            obtain ⟨k0_HB4, k1_HB4, k2_HB4, k3_HB4, k4_HB4, kl_HB4⟩ := HB.out _ hX4
            obtain ⟨q0_HP4, q1_HP4, q2_HP4, q3_HP4, q4_HP4, ql_HP4⟩ := HP.out _ hX4
            obtain ⟨r0_HR4, r1_HR4, r2_HR4, r3_HR4, r4_HR4, rl_HR4⟩ := HR.out _ hX4
            have z4 := hX4.size
            simp only [World.alloc, Array.size_push] at z4
            have HR5 := Lib.hid hrr5
            clear hrr5
            clear hb4 hX4 k0_HB3 k1_HB3 k2_HB3 k3_HB3 k4_HB3 kl_HB3 q0_HP3 q1_HP3 q2_HP3 q3_HP3 q4_HP3 ql_HP3 r0_HR3 r1_HR3 r2_HR3 r3_HR3 r4_HR3 rl_HR3
            have ha4 : Below u4.heap.size u4 (u4.alloc (.cells #[.bool ex5, .slice C5 zs5.length cz5, .bool g5, .slice D5 ws5.length dz5, .bool h5] 39)) := (Below.refl _ _).alloc (Nat.le_refl _) _
            have hXa4 := HX4.out.trans (ha4.mono HX4.out.size)
            have HXa4 := Lib.hid hXa4
            obtain ⟨k0_HBa4, k1_HBa4, k2_HBa4, k3_HBa4, k4_HBa4, kl_HBa4⟩ := HB.out _ hXa4
            obtain ⟨q0_HPa4, q1_HPa4, q2_HPa4, q3_HPa4, q4_HPa4, ql_HPa4⟩ := HP.out _ hXa4
            obtain ⟨r0_HRa4, r1_HRa4, r2_HRa4, r3_HRa4, r4_HRa4, rl_HRa4⟩ := HR.out _ hXa4
            have za4 := hXa4.size
            simp only [World.alloc, Array.size_push] at za4
            have KYb := Lib.hid (fun (w' : World) (hb : Below (u4.alloc (.cells #[.bool ex5, .slice C5 zs5.length cz5, .bool g5, .slice D5 ws5.length dz5, .bool h5] 39)).heap.size (u4.alloc (.cells #[.bool ex5, .slice C5 zs5.length cz5, .bool g5, .slice D5 ws5.length dz5, .bool h5] 39)) w') => (RBox.new u4 ex5 C5 zs5.length cz5 g5 D5 ws5.length dz5 h5).keep hb)
            have HY0 := Lib.hid (Below.refl (u4.alloc (.cells #[.bool ex5, .slice C5 zs5.length cz5, .bool g5, .slice D5 ws5.length dz5, .bool h5] 39)).heap.size (u4.alloc (.cells #[.bool ex5, .slice C5 zs5.length cz5, .bool g5, .slice D5 ws5.length dz5, .bool h5] 39)))
            obtain ⟨t0_KYba4, t1_KYba4, t2_KYba4, t3_KYba4, t4_KYba4, tl_KYba4⟩ := KYb.out _ HY0.out
            clear hXa4 k0_HB4 k1_HB4 k2_HB4 k3_HB4 k4_HB4 kl_HB4 q0_HP4 q1_HP4 q2_HP4 q3_HP4 q4_HP4 ql_HP4 r0_HR4 r1_HR4 r2_HR4 r3_HR4 r4_HR4 rl_HR4
            have HR5a := Lib.hid (HR5.out.keep ((Below.refl _ _).alloc (Nat.le_refl _) (.cells #[.bool ex5, .slice C5 zs5.length cz5, .bool g5, .slice D5 ws5.length dz5, .bool h5] 39)))
            go_wp2_with fail
            with_reducible refine (HCbc.out _ HXa4.out).mono ?_
            rintro e u5 ⟨ex6, C6, zs6, cz6, g6, D6, ws6, dz6, h6, rfl, hrr6, hb5⟩
            have hX5 := HXa4.out.trans (hb5.mono HXa4.out.size)
            have HX5 := Lib.hid hX5
            obtain ⟨k0_HB5, k1_HB5, k2_HB5, k3_HB5, k4_HB5, kl_HB5⟩ := HB.out _ hX5
            obtain ⟨q0_HP5, q1_HP5, q2_HP5, q3_HP5, q4_HP5, ql_HP5⟩ := HP.out _ hX5
            obtain ⟨r0_HR5, r1_HR5, r2_HR5, r3_HR5, r4_HR5, rl_HR5⟩ := HR.out _ hX5
            have hY5 := HY0.out.trans (hb5.mono HY0.out.size)
            have HY5 := Lib.hid hY5
            obtain ⟨t0_KYb5, t1_KYb5, t2_KYb5, t3_KYb5, t4_KYb5, tl_KYb5⟩ := KYb.out _ hY5
            have z5 := hX5.size
            simp only [World.alloc, Array.size_push] at z5
            have HR6 := Lib.hid hrr6
            clear hrr6
            clear hb5 hX5 hY5 k0_HBa4 k1_HBa4 k2_HBa4 k3_HBa4 k4_HBa4 kl_HBa4 q0_HPa4 q1_HPa4 q2_HPa4 q3_HPa4 q4_HPa4 ql_HPa4 r0_HRa4 r1_HRa4 r2_HRa4 r3_HRa4 r4_HRa4 rl_HRa4 t0_KYba4 t1_KYba4 t2_KYba4 t3_KYba4 t4_KYba4 tl_KYba4
            have ha5 : Below u5.heap.size u5 (u5.alloc (.cells #[.bool ex6, .slice C6 zs6.length cz6, .bool g6, .slice D6 ws6.length dz6, .bool h6] 39)) := (Below.refl _ _).alloc (Nat.le_refl _) _
            have hXa5 := HX5.out.trans (ha5.mono HX5.out.size)
            have HXa5 := Lib.hid hXa5
            obtain ⟨k0_HBa5, k1_HBa5, k2_HBa5, k3_HBa5, k4_HBa5, kl_HBa5⟩ := HB.out _ hXa5
            obtain ⟨q0_HPa5, q1_HPa5, q2_HPa5, q3_HPa5, q4_HPa5, ql_HPa5⟩ := HP.out _ hXa5
            obtain ⟨r0_HRa5, r1_HRa5, r2_HRa5, r3_HRa5, r4_HRa5, rl_HRa5⟩ := HR.out _ hXa5
            have hYa5 := HY5.out.trans (ha5.mono HY5.out.size)
            have HYa5 := Lib.hid hYa5
            obtain ⟨t0_KYba5, t1_KYba5, t2_KYba5, t3_KYba5, t4_KYba5, tl_KYba5⟩ := KYb.out _ hYa5
            have za5 := hXa5.size
            simp only [World.alloc, Array.size_push] at za5
            have KZb := Lib.hid (fun (w' : World) (hb : Below (u5.alloc (.cells #[.bool ex6, .slice C6 zs6.length cz6, .bool g6, .slice D6 ws6.length dz6, .bool h6] 39)).heap.size (u5.alloc (.cells #[.bool ex6, .slice C6 zs6.length cz6, .bool g6, .slice D6 ws6.length dz6, .bool h6] 39)) w') => (RBox.new u5 ex6 C6 zs6.length cz6 g6 D6 ws6.length dz6 h6).keep hb)
            have HZ0 := Lib.hid (Below.refl (u5.alloc (.cells #[.bool ex6, .slice C6 zs6.length cz6, .bool g6, .slice D6 ws6.length dz6, .bool h6] 39)).heap.size (u5.alloc (.cells #[.bool ex6, .slice C6 zs6.length cz6, .bool g6, .slice D6 ws6.length dz6, .bool h6] 39)))
            obtain ⟨v0_KZba5, v1_KZba5, v2_KZba5, v3_KZba5, v4_KZba5, vl_KZba5⟩ := KZb.out _ HZ0.out
            clear hXa5 hYa5 k0_HB5 k1_HB5 k2_HB5 k3_HB5 k4_HB5 kl_HB5 q0_HP5 q1_HP5 q2_HP5 q3_HP5 q4_HP5 ql_HP5 r0_HR5 r1_HR5 r2_HR5 r3_HR5 r4_HR5 rl_HR5 t0_KYb5 t1_KYb5 t2_KYb5 t3_KYb5 t4_KYb5 tl_KYb5
            have HR6a := Lib.hid (HR6.out.keep ((Below.refl _ _).alloc (Nat.le_refl _) (.cells #[.bool ex6, .slice C6 zs6.length cz6, .bool g6, .slice D6 ws6.length dz6, .bool h6] 39)))
            generalize o1.isSome = j1 at *
            generalize o2.isSome = j2 at *
            go_wp2_with fail
            with_reducible refine (HAw.out _ HXa5.out).mono ?_
            rintro e u6 ⟨rfl, hb6⟩
            have hX6 := HXa5.out.trans (hb6.mono HXa5.out.size)
            have HX6 := Lib.hid hX6
            obtain ⟨k0_HB6, k1_HB6, k2_HB6, k3_HB6, k4_HB6, kl_HB6⟩ := HB.out _ hX6
            obtain ⟨q0_HP6, q1_HP6, q2_HP6, q3_HP6, q4_HP6, ql_HP6⟩ := HP.out _ hX6
            obtain ⟨r0_HR6, r1_HR6, r2_HR6, r3_HR6, r4_HR6, rl_HR6⟩ := HR.out _ hX6
            have hY6 := HYa5.out.trans (hb6.mono HYa5.out.size)
            have HY6 := Lib.hid hY6
            obtain ⟨t0_KYb6, t1_KYb6, t2_KYb6, t3_KYb6, t4_KYb6, tl_KYb6⟩ := KYb.out _ hY6
            have hZ6 := HZ0.out.trans (hb6.mono HZ0.out.size)
            have HZ6 := Lib.hid hZ6
            obtain ⟨v0_KZb6, v1_KZb6, v2_KZb6, v3_KZb6, v4_KZb6, vl_KZb6⟩ := KZb.out _ hZ6
            have z6 := hX6.size
            simp only [World.alloc, Array.size_push] at z6
            clear hb6 hX6 hY6 hZ6 k0_HBa5 k1_HBa5 k2_HBa5 k3_HBa5 k4_HBa5 kl_HBa5 q0_HPa5 q1_HPa5 q2_HPa5 q3_HPa5 q4_HPa5 ql_HPa5 r0_HRa5 r1_HRa5 r2_HRa5 r3_HRa5 r4_HRa5 rl_HRa5 t0_KYba5 t1_KYba5 t2_KYba5 t3_KYba5 t4_KYba5 tl_KYba5 v0_KZba5 v1_KZba5 v2_KZba5 v3_KZba5 v4_KZba5 vl_KZba5
            go_wp2
            go_ret
            exact ⟨rfl, HAL.out.trans (HX6.out.mono HAL.out.size)⟩
          subst h1
          have h2 : k2 ≠ 0 := fun h => he ⟨rfl, h⟩
          clear he
          have p21 : ((k2 : Int) == 0) = false := by rw [beq_eq_false_iff_ne]; omega
          have p22 : ((k2 : Int) != 0) = true := by rw [bne, p21]; rfl
          clear h2
          generalize xs0.length = nx at *
          generalize ys0.length = ny at *
          generalize xs1.length = mx at *
          generalize ys1.length = my at *
          generalize xs2.length = ox at *
          generalize ys2.length = oy at *
          clear hbx hpx hcx hr0 hr1 hr2 hz0 hy0 hz1 hy1 hz2 hy2 hws
          subst hW0
          clear hal
          go_enter Tryd.func13, Tryd.ntmps13
          go_wp2_with fail
          with_reducible refine (HFa.out _ HX0.out).mono ?_
          rintro e u1 ⟨rfl, hb1⟩
          have hX1 := HX0.out.trans (hb1.mono HX0.out.size)
          have HX1 := Lib.hid hX1
          obtain ⟨k0_HB1, k1_HB1, k2_HB1, k3_HB1, k4_HB1, kl_HB1⟩ := HB.out _ hX1
          obtain ⟨q0_HP1, q1_HP1, q2_HP1, q3_HP1, q4_HP1, ql_HP1⟩ := HP.out _ hX1
          obtain ⟨r0_HR1, r1_HR1, r2_HR1, r3_HR1, r4_HR1, rl_HR1⟩ := HR.out _ hX1
          have z1 := hX1.size
          simp only [World.alloc, Array.size_push] at z1
          clear hb1 hX1 
          go_wp2_with fail
          with_reducible refine (HFb.out _ HX1.out).mono ?_
          rintro e u2 ⟨rfl, hb2⟩
          have hX2 := HX1.out.trans (hb2.mono HX1.out.size)
          have HX2 := Lib.hid hX2
          obtain ⟨k0_HB2, k1_HB2, k2_HB2, k3_HB2, k4_HB2, kl_HB2⟩ := HB.out _ hX2
          obtain ⟨q0_HP2, q1_HP2, q2_HP2, q3_HP2, q4_HP2, ql_HP2⟩ := HP.out _ hX2
          obtain ⟨r0_HR2, r1_HR2, r2_HR2, r3_HR2, r4_HR2, rl_HR2⟩ := HR.out _ hX2
          have z2 := hX2.size
          simp only [World.alloc, Array.size_push] at z2
          clear hb2 hX2 k0_HB1 k1_HB1 k2_HB1 k3_HB1 k4_HB1 kl_HB1 q0_HP1 q1_HP1 q2_HP1 q3_HP1 q4_HP1 ql_HP1 r0_HR1 r1_HR1 r2_HR1 r3_HR1 r4_HR1 rl_HR1
          go_wp2_with fail
          with_reducible refine (HFc.out _ HX2.out).mono ?_
          rintro e u3 ⟨rfl, hb3⟩
          have hX3 := HX2.out.trans (hb3.mono HX2.out.size)
          have HX3 := Lib.hid hX3
          obtain ⟨k0_HB3, k1_HB3, k2_HB3, k3_HB3, k4_HB3, kl_HB3⟩ := HB.out _ hX3
          obtain ⟨q0_HP3, q1_HP3, q2_HP3, q3_HP3, q4_HP3, ql_HP3⟩ := HP.out _ hX3
          obtain ⟨r0_HR3, r1_HR3, r2_HR3, r3_HR3, r4_HR3, rl_HR3⟩ := HR.out _ hX3
          have z3 := hX3.size
          simp only [World.alloc, Array.size_push] at z3
          clear hb3 hX3 k0_HB2 k1_HB2 k2_HB2 k3_HB2 k4_HB2 kl_HB2 q0_HP2 q1_HP2 q2_HP2 q3_HP2 q4_HP2 ql_HP2 r0_HR2 r1_HR2 r2_HR2 r3_HR2 r4_HR2 rl_HR2
          go_wp2_with fail
          with_reducible refine (HCab.out _ HX3.out).mono ?_
          rintro e u4 ⟨ex5, C5, zs5, cz5, g5, D5, ws5, dz5, h5, rfl, hrr5, hb4⟩
          have hX4 := HX3.out.trans (hb4.mono HX3.out.size)
          have HX4 := Lib.hid hX4
          obtain ⟨k0_HB4, k1_HB4, k2_HB4, k3_HB4, k4_HB4, kl_HB4⟩ := HB.out _ hX4
          obtain ⟨q0_HP4, q1_HP4, q2_HP4, q3_HP4, q4_HP4, ql_HP4⟩ := HP.out _ hX4
          obtain ⟨r0_HR4, r1_HR4, r2_HR4, r3_HR4, r4_HR4, rl_HR4⟩ := HR.out _ hX4
          have z4 := hX4.size
          simp only [World.alloc, Array.size_push] at z4
          have HR5 := Lib.hid hrr5
          clear hrr5
          clear hb4 hX4 k0_HB3 k1_HB3 k2_HB3 k3_HB3 k4_HB3 kl_HB3 q0_HP3 q1_HP3 q2_HP3 q3_HP3 q4_HP3 ql_HP3 r0_HR3 r1_HR3 r2_HR3 r3_HR3 r4_HR3 rl_HR3
          have ha4 : Below u4.heap.size u4 (u4.alloc (.cells #[.bool ex5, .slice C5 zs5.length cz5, .bool g5, .slice D5 ws5.length dz5, .bool h5] 39)) := (Below.refl _ _).alloc (Nat.le_refl _) _
          have hXa4 := HX4.out.trans (ha4.mono HX4.out.size)
          have HXa4 := Lib.hid hXa4
          obtain ⟨k0_HBa4, k1_HBa4, k2_HBa4, k3_HBa4, k4_HBa4, kl_HBa4⟩ := HB.out _ hXa4
          obtain ⟨q0_HPa4, q1_HPa4, q2_HPa4, q3_HPa4, q4_HPa4, ql_HPa4⟩ := HP.out _ hXa4
          obtain ⟨r0_HRa4, r1_HRa4, r2_HRa4, r3_HRa4, r4_HRa4, rl_HRa4⟩ := HR.out _ hXa4
          have za4 := hXa4.size
          simp only [World.alloc, Array.size_push] at za4
          have KYb := Lib.hid (fun (w' : World) (hb : Below (u4.alloc (.cells #[.bool ex5, .slice C5 zs5.length cz5, .bool g5, .slice D5 ws5.length dz5, .bool h5] 39)).heap.size (u4.alloc (.cells #[.bool ex5, .slice C5 zs5.length cz5, .bool g5, .slice D5 ws5.length dz5, .bool h5] 39)) w') => (RBox.new u4 ex5 C5 zs5.length cz5 g5 D5 ws5.length dz5 h5).keep hb)
          have HY0 := Lib.hid (Below.refl (u4.alloc (.cells #[.bool ex5, .slice C5 zs5.length cz5, .bool g5, .slice D5 ws5.length dz5, .bool h5] 39)).heap.size (u4.alloc (.cells #[.bool ex5, .slice C5 zs5.length cz5, .bool g5, .slice D5 ws5.length dz5, .bool h5] 39)))
          obtain ⟨t0_KYba4, t1_KYba4, t2_KYba4, t3_KYba4, t4_KYba4, tl_KYba4⟩ := KYb.out _ HY0.out
          clear hXa4 k0_HB4 k1_HB4 k2_HB4 k3_HB4 k4_HB4 kl_HB4 q0_HP4 q1_HP4 q2_HP4 q3_HP4 q4_HP4 ql_HP4 r0_HR4 r1_HR4 r2_HR4 r3_HR4 r4_HR4 rl_HR4
          have HR5a := Lib.hid (HR5.out.keep ((Below.refl _ _).alloc (Nat.le_refl _) (.cells #[.bool ex5, .slice C5 zs5.length cz5, .bool g5, .slice D5 ws5.length dz5, .bool h5] 39)))
          go_wp2_with fail
          with_reducible refine (HCbc.out _ HXa4.out).mono ?_
          rintro e u5 ⟨ex6, C6, zs6, cz6, g6, D6, ws6, dz6, h6, rfl, hrr6, hb5⟩
          have hX5 := HXa4.out.trans (hb5.mono HXa4.out.size)
          have HX5 := Lib.hid hX5
          obtain ⟨k0_HB5, k1_HB5, k2_HB5, k3_HB5, k4_HB5, kl_HB5⟩ := HB.out _ hX5
          obtain ⟨q0_HP5, q1_HP5, q2_HP5, q3_HP5, q4_HP5, ql_HP5⟩ := HP.out _ hX5
          obtain ⟨r0_HR5, r1_HR5, r2_HR5, r3_HR5, r4_HR5, rl_HR5⟩ := HR.out _ hX5
          have hY5 := HY0.out.trans (hb5.mono HY0.out.size)
          have HY5 := Lib.hid hY5
          obtain ⟨t0_KYb5, t1_KYb5, t2_KYb5, t3_KYb5, t4_KYb5, tl_KYb5⟩ := KYb.out _ hY5
          have z5 := hX5.size
          simp only [World.alloc, Array.size_push] at z5
          have HR6 := Lib.hid hrr6
          clear hrr6
          clear hb5 hX5 hY5 k0_HBa4 k1_HBa4 k2_HBa4 k3_HBa4 k4_HBa4 kl_HBa4 q0_HPa4 q1_HPa4 q2_HPa4 q3_HPa4 q4_HPa4 ql_HPa4 r0_HRa4 r1_HRa4 r2_HRa4 r3_HRa4 r4_HRa4 rl_HRa4 t0_KYba4 t1_KYba4 t2_KYba4 t3_KYba4 t4_KYba4 tl_KYba4
          have ha5 : Below u5.heap.size u5 (u5.alloc (.cells #[.bool ex6, .slice C6 zs6.length cz6, .bool g6, .slice D6 ws6.length dz6, .bool h6] 39)) := (Below.refl _ _).alloc (Nat.le_refl _) _
          have hXa5 := HX5.out.trans (ha5.mono HX5.out.size)
          have HXa5 := Lib.hid hXa5
          obtain ⟨k0_HBa5, k1_HBa5, k2_HBa5, k3_HBa5, k4_HBa5, kl_HBa5⟩ := HB.out _ hXa5
          obtain ⟨q0_HPa5, q1_HPa5, q2_HPa5, q3_HPa5, q4_HPa5, ql_HPa5⟩ := HP.out _ hXa5
          obtain ⟨r0_HRa5, r1_HRa5, r2_HRa5, r3_HRa5, r4_HRa5, rl_HRa5⟩ := HR.out _ hXa5
          have hYa5 := HY5.out.trans (ha5.mono HY5.out.size)
          have HYa5 := Lib.hid hYa5
          obtain ⟨t0_KYba5, t1_KYba5, t2_KYba5, t3_KYba5, t4_KYba5, tl_KYba5⟩ := KYb.out _ hYa5
          have za5 := hXa5.size
          simp only [World.alloc, Array.size_push] at za5
          have KZb := Lib.hid (fun (w' : World) (hb : Below (u5.alloc (.cells #[.bool ex6, .slice C6 zs6.length cz6, .bool g6, .slice D6 ws6.length dz6, .bool h6] 39)).heap.size (u5.alloc (.cells #[.bool ex6, .slice C6 zs6.length cz6, .bool g6, .slice D6 ws6.length dz6, .bool h6] 39)) w') => (RBox.new u5 ex6 C6 zs6.length cz6 g6 D6 ws6.length dz6 h6).keep hb)
          have HZ0 := Lib.hid (Below.refl (u5.alloc (.cells #[.bool ex6, .slice C6 zs6.length cz6, .bool g6, .slice D6 ws6.length dz6, .bool h6] 39)).heap.size (u5.alloc (.cells #[.bool ex6, .slice C6 zs6.length cz6, .bool g6, .slice D6 ws6.length dz6, .bool h6] 39)))
          obtain ⟨v0_KZba5, v1_KZba5, v2_KZba5, v3_KZba5, v4_KZba5, vl_KZba5⟩ := KZb.out _ HZ0.out
          clear hXa5 hYa5 k0_HB5 k1_HB5 k2_HB5 k3_HB5 k4_HB5 kl_HB5 q0_HP5 q1_HP5 q2_HP5 q3_HP5 q4_HP5 ql_HP5 r0_HR5 r1_HR5 r2_HR5 r3_HR5 r4_HR5 rl_HR5 t0_KYb5 t1_KYb5 t2_KYb5 t3_KYb5 t4_KYb5 tl_KYb5
          have HR6a := Lib.hid (HR6.out.keep ((Below.refl _ _).alloc (Nat.le_refl _) (.cells #[.bool ex6, .slice C6 zs6.length cz6, .bool g6, .slice D6 ws6.length dz6, .bool h6] 39)))
          generalize o1.isSome = j1 at *
          generalize o2.isSome = j2 at *
          go_wp2_with fail
          with_reducible refine (HAw.out _ HXa5.out).mono ?_
          rintro e u6 ⟨rfl, hb6⟩
          have hX6 := HXa5.out.trans (hb6.mono HXa5.out.size)
          have HX6 := Lib.hid hX6
          obtain ⟨k0_HB6, k1_HB6, k2_HB6, k3_HB6, k4_HB6, kl_HB6⟩ := HB.out _ hX6
          obtain ⟨q0_HP6, q1_HP6, q2_HP6, q3_HP6, q4_HP6, ql_HP6⟩ := HP.out _ hX6
          obtain ⟨r0_HR6, r1_HR6, r2_HR6, r3_HR6, r4_HR6, rl_HR6⟩ := HR.out _ hX6
          have hY6 := HYa5.out.trans (hb6.mono HYa5.out.size)
          have HY6 := Lib.hid hY6
          obtain ⟨t0_KYb6, t1_KYb6, t2_KYb6, t3_KYb6, t4_KYb6, tl_KYb6⟩ := KYb.out _ hY6
          have hZ6 := HZ0.out.trans (hb6.mono HZ0.out.size)
          have HZ6 := Lib.hid hZ6
          obtain ⟨v0_KZb6, v1_KZb6, v2_KZb6, v3_KZb6, v4_KZb6, vl_KZb6⟩ := KZb.out _ hZ6
          have z6 := hX6.size
          simp only [World.alloc, Array.size_push] at z6
          clear hb6 hX6 hY6 hZ6 k0_HBa5 k1_HBa5 k2_HBa5 k3_HBa5 k4_HBa5 kl_HBa5 q0_HPa5 q1_HPa5 q2_HPa5 q3_HPa5 q4_HPa5 ql_HPa5 r0_HRa5 r1_HRa5 r2_HRa5 r3_HRa5 r4_HRa5 rl_HRa5 t0_KYba5 t1_KYba5 t2_KYba5 t3_KYba5 t4_KYba5 tl_KYba5 v0_KZba5 v1_KZba5 v2_KZba5 v3_KZba5 v4_KZba5 vl_KZba5
          go_wp2
          go_ret
          exact ⟨rfl, HAL.out.trans (HX6.out.mono HAL.out.size)⟩
        obtain ⟨h1, h2⟩ := he
        subst h1 h2
        have hass := hass rfl rfl
        obtain ⟨o1, ho1⟩ : ∃ o, o = Pt.chain ra rb := ⟨_, rfl⟩
        obtain ⟨o2, ho2⟩ : ∃ o, o = Pt.chain rb rc := ⟨_, rfl⟩
        rw [← ho1] at HCab hass HCx
        rw [← ho2] at HCbc hass HCy
        obtain ⟨L3, hL3⟩ : ∃ L, L = o1.bind (fun x => Pt.chain x rc) := ⟨_, rfl⟩
        obtain ⟨L4, hL4⟩ : ∃ L, L = o2.bind (fun y => Pt.chain ra y) := ⟨_, rfl⟩
        obtain ⟨K3, hK3⟩ : ∃ k : Nat, k = o1.elim 0 (fun x => Pt.chainE x rc) := ⟨_, rfl⟩
        obtain ⟨K4, hK4⟩ : ∃ k : Nat, k = o2.elim 0 (fun y => Pt.chainE ra y) := ⟨_, rfl⟩
        rw [← hL3, ← hL4] at hass
        have hass2 : K3 = 0 → K4 = 0 → L3 = L4 := fun a1 a2 => hass (fun x hx => by rw [hx] at hK3; exact hK3.symm.trans a1) (fun y hy => by rw [hy] at hK4; exact hK4.symm.trans a2)
        have HAS := Lib.hid hass2
        have HL3 := Lib.hid hL3
        have HL4 := Lib.hid hL4
        have HK3 := Lib.hid hK3
        have HK4 := Lib.hid hK4
        clear hass hass2 hL3 hL4 hK3 hK4 ho1 ho2
        generalize xs0.length = nx at *
        generalize ys0.length = ny at *
        generalize xs1.length = mx at *
        generalize ys1.length = my at *
        generalize xs2.length = ox at *
        generalize ys2.length = oy at *
        clear hbx hpx hcx hr0 hr1 hr2 hz0 hy0 hz1 hy1 hz2 hy2 hws
        subst hW0
        clear hal
        go_enter Tryd.func13, Tryd.ntmps13
        go_wp2_with fail
        with_reducible refine (HFa.out _ HX0.out).mono ?_
        rintro e u1 ⟨rfl, hb1⟩
        have hX1 := HX0.out.trans (hb1.mono HX0.out.size)
        have HX1 := Lib.hid hX1
        obtain ⟨k0_HB1, k1_HB1, k2_HB1, k3_HB1, k4_HB1, kl_HB1⟩ := HB.out _ hX1
        obtain ⟨q0_HP1, q1_HP1, q2_HP1, q3_HP1, q4_HP1, ql_HP1⟩ := HP.out _ hX1
        obtain ⟨r0_HR1, r1_HR1, r2_HR1, r3_HR1, r4_HR1, rl_HR1⟩ := HR.out _ hX1
        have z1 := hX1.size
        simp only [World.alloc, Array.size_push] at z1
        clear hb1 hX1 
        go_wp2_with fail
        with_reducible refine (HFb.out _ HX1.out).mono ?_
        rintro e u2 ⟨rfl, hb2⟩
        have hX2 := HX1.out.trans (hb2.mono HX1.out.size)
        have HX2 := Lib.hid hX2
        obtain ⟨k0_HB2, k1_HB2, k2_HB2, k3_HB2, k4_HB2, kl_HB2⟩ := HB.out _ hX2
        obtain ⟨q0_HP2, q1_HP2, q2_HP2, q3_HP2, q4_HP2, ql_HP2⟩ := HP.out _ hX2
        obtain ⟨r0_HR2, r1_HR2, r2_HR2, r3_HR2, r4_HR2, rl_HR2⟩ := HR.out _ hX2
        have z2 := hX2.size
        simp only [World.alloc, Array.size_push] at z2
        clear hb2 hX2 k0_HB1 k1_HB1 k2_HB1 k3_HB1 k4_HB1 kl_HB1 q0_HP1 q1_HP1 q2_HP1 q3_HP1 q4_HP1 ql_HP1 r0_HR1 r1_HR1 r2_HR1 r3_HR1 r4_HR1 rl_HR1
        go_wp2_with fail
        with_reducible refine (HFc.out _ HX2.out).mono ?_
        rintro e u3 ⟨rfl, hb3⟩
        have hX3 := HX2.out.trans (hb3.mono HX2.out.size)
        have HX3 := Lib.hid hX3
        obtain ⟨k0_HB3, k1_HB3, k2_HB3, k3_HB3, k4_HB3, kl_HB3⟩ := HB.out _ hX3
        obtain ⟨q0_HP3, q1_HP3, q2_HP3, q3_HP3, q4_HP3, ql_HP3⟩ := HP.out _ hX3
        obtain ⟨r0_HR3, r1_HR3, r2_HR3, r3_HR3, r4_HR3, rl_HR3⟩ := HR.out _ hX3
        have z3 := hX3.size
        simp only [World.alloc, Array.size_push] at z3
        clear hb3 hX3 k0_HB2 k1_HB2 k2_HB2 k3_HB2 k4_HB2 kl_HB2 q0_HP2 q1_HP2 q2_HP2 q3_HP2 q4_HP2 ql_HP2 r0_HR2 r1_HR2 r2_HR2 r3_HR2 r4_HR2 rl_HR2
        go_wp2_with fail
        with_reducible refine (HCab.out _ HX3.out).mono ?_
        rintro e u4 ⟨ex5, C5, zs5, cz5, g5, D5, ws5, dz5, h5, rfl, hrr5, hb4⟩
        have hX4 := HX3.out.trans (hb4.mono HX3.out.size)
        have HX4 := Lib.hid hX4
        obtain ⟨k0_HB4, k1_HB4, k2_HB4, k3_HB4, k4_HB4, kl_HB4⟩ := HB.out _ hX4
        obtain ⟨q0_HP4, q1_HP4, q2_HP4, q3_HP4, q4_HP4, ql_HP4⟩ := HP.out _ hX4
        obtain ⟨r0_HR4, r1_HR4, r2_HR4, r3_HR4, r4_HR4, rl_HR4⟩ := HR.out _ hX4
        have z4 := hX4.size
        simp only [World.alloc, Array.size_push] at z4
        have HR5 := Lib.hid hrr5
        clear hrr5
        clear hb4 hX4 k0_HB3 k1_HB3 k2_HB3 k3_HB3 k4_HB3 kl_HB3 q0_HP3 q1_HP3 q2_HP3 q3_HP3 q4_HP3 ql_HP3 r0_HR3 r1_HR3 r2_HR3 r3_HR3 r4_HR3 rl_HR3
        have ha4 : Below u4.heap.size u4 (u4.alloc (.cells #[.bool ex5, .slice C5 zs5.length cz5, .bool g5, .slice D5 ws5.length dz5, .bool h5] 39)) := (Below.refl _ _).alloc (Nat.le_refl _) _
        have hXa4 := HX4.out.trans (ha4.mono HX4.out.size)
        have HXa4 := Lib.hid hXa4
        obtain ⟨k0_HBa4, k1_HBa4, k2_HBa4, k3_HBa4, k4_HBa4, kl_HBa4⟩ := HB.out _ hXa4
        obtain ⟨q0_HPa4, q1_HPa4, q2_HPa4, q3_HPa4, q4_HPa4, ql_HPa4⟩ := HP.out _ hXa4
        obtain ⟨r0_HRa4, r1_HRa4, r2_HRa4, r3_HRa4, r4_HRa4, rl_HRa4⟩ := HR.out _ hXa4
        have za4 := hXa4.size
        simp only [World.alloc, Array.size_push] at za4
        have KYb := Lib.hid (fun (w' : World) (hb : Below (u4.alloc (.cells #[.bool ex5, .slice C5 zs5.length cz5, .bool g5, .slice D5 ws5.length dz5, .bool h5] 39)).heap.size (u4.alloc (.cells #[.bool ex5, .slice C5 zs5.length cz5, .bool g5, .slice D5 ws5.length dz5, .bool h5] 39)) w') => (RBox.new u4 ex5 C5 zs5.length cz5 g5 D5 ws5.length dz5 h5).keep hb)
        have HY0 := Lib.hid (Below.refl (u4.alloc (.cells #[.bool ex5, .slice C5 zs5.length cz5, .bool g5, .slice D5 ws5.length dz5, .bool h5] 39)).heap.size (u4.alloc (.cells #[.bool ex5, .slice C5 zs5.length cz5, .bool g5, .slice D5 ws5.length dz5, .bool h5] 39)))
        obtain ⟨t0_KYba4, t1_KYba4, t2_KYba4, t3_KYba4, t4_KYba4, tl_KYba4⟩ := KYb.out _ HY0.out
        clear hXa4 k0_HB4 k1_HB4 k2_HB4 k3_HB4 k4_HB4 kl_HB4 q0_HP4 q1_HP4 q2_HP4 q3_HP4 q4_HP4 ql_HP4 r0_HR4 r1_HR4 r2_HR4 r3_HR4 r4_HR4 rl_HR4
        have HR5a := Lib.hid (HR5.out.keep ((Below.refl _ _).alloc (Nat.le_refl _) (.cells #[.bool ex5, .slice C5 zs5.length cz5, .bool g5, .slice D5 ws5.length dz5, .bool h5] 39)))
        go_wp2_with fail
        with_reducible refine (HCbc.out _ HXa4.out).mono ?_
        rintro e u5 ⟨ex6, C6, zs6, cz6, g6, D6, ws6, dz6, h6, rfl, hrr6, hb5⟩
        have hX5 := HXa4.out.trans (hb5.mono HXa4.out.size)
        have HX5 := Lib.hid hX5
        obtain ⟨k0_HB5, k1_HB5, k2_HB5, k3_HB5, k4_HB5, kl_HB5⟩ := HB.out _ hX5
        obtain ⟨q0_HP5, q1_HP5, q2_HP5, q3_HP5, q4_HP5, ql_HP5⟩ := HP.out _ hX5
        obtain ⟨r0_HR5, r1_HR5, r2_HR5, r3_HR5, r4_HR5, rl_HR5⟩ := HR.out _ hX5
        have hY5 := HY0.out.trans (hb5.mono HY0.out.size)
        have HY5 := Lib.hid hY5
        obtain ⟨t0_KYb5, t1_KYb5, t2_KYb5, t3_KYb5, t4_KYb5, tl_KYb5⟩ := KYb.out _ hY5
        have z5 := hX5.size
        simp only [World.alloc, Array.size_push] at z5
        have HR6 := Lib.hid hrr6
        clear hrr6
        clear hb5 hX5 hY5 k0_HBa4 k1_HBa4 k2_HBa4 k3_HBa4 k4_HBa4 kl_HBa4 q0_HPa4 q1_HPa4 q2_HPa4 q3_HPa4 q4_HPa4 ql_HPa4 r0_HRa4 r1_HRa4 r2_HRa4 r3_HRa4 r4_HRa4 rl_HRa4 t0_KYba4 t1_KYba4 t2_KYba4 t3_KYba4 t4_KYba4 tl_KYba4
        have ha5 : Below u5.heap.size u5 (u5.alloc (.cells #[.bool ex6, .slice C6 zs6.length cz6, .bool g6, .slice D6 ws6.length dz6, .bool h6] 39)) := (Below.refl _ _).alloc (Nat.le_refl _) _
        have hXa5 := HX5.out.trans (ha5.mono HX5.out.size)
        have HXa5 := Lib.hid hXa5
        obtain ⟨k0_HBa5, k1_HBa5, k2_HBa5, k3_HBa5, k4_HBa5, kl_HBa5⟩ := HB.out _ hXa5
        obtain ⟨q0_HPa5, q1_HPa5, q2_HPa5, q3_HPa5, q4_HPa5, ql_HPa5⟩ := HP.out _ hXa5
        obtain ⟨r0_HRa5, r1_HRa5, r2_HRa5, r3_HRa5, r4_HRa5, rl_HRa5⟩ := HR.out _ hXa5
        have hYa5 := HY5.out.trans (ha5.mono HY5.out.size)
        have HYa5 := Lib.hid hYa5
        obtain ⟨t0_KYba5, t1_KYba5, t2_KYba5, t3_KYba5, t4_KYba5, tl_KYba5⟩ := KYb.out _ hYa5
        have za5 := hXa5.size
        simp only [World.alloc, Array.size_push] at za5
        have KZb := Lib.hid (fun (w' : World) (hb : Below (u5.alloc (.cells #[.bool ex6, .slice C6 zs6.length cz6, .bool g6, .slice D6 ws6.length dz6, .bool h6] 39)).heap.size (u5.alloc (.cells #[.bool ex6, .slice C6 zs6.length cz6, .bool g6, .slice D6 ws6.length dz6, .bool h6] 39)) w') => (RBox.new u5 ex6 C6 zs6.length cz6 g6 D6 ws6.length dz6 h6).keep hb)
        have HZ0 := Lib.hid (Below.refl (u5.alloc (.cells #[.bool ex6, .slice C6 zs6.length cz6, .bool g6, .slice D6 ws6.length dz6, .bool h6] 39)).heap.size (u5.alloc (.cells #[.bool ex6, .slice C6 zs6.length cz6, .bool g6, .slice D6 ws6.length dz6, .bool h6] 39)))
        obtain ⟨v0_KZba5, v1_KZba5, v2_KZba5, v3_KZba5, v4_KZba5, vl_KZba5⟩ := KZb.out _ HZ0.out
        clear hXa5 hYa5 k0_HB5 k1_HB5 k2_HB5 k3_HB5 k4_HB5 kl_HB5 q0_HP5 q1_HP5 q2_HP5 q3_HP5 q4_HP5 ql_HP5 r0_HR5 r1_HR5 r2_HR5 r3_HR5 r4_HR5 rl_HR5 t0_KYb5 t1_KYb5 t2_KYb5 t3_KYb5 t4_KYb5 tl_KYb5
        have HR6a := Lib.hid (HR6.out.keep ((Below.refl _ _).alloc (Nat.le_refl _) (.cells #[.bool ex6, .slice C6 zs6.length cz6, .bool g6, .slice D6 ws6.length dz6, .bool h6] 39)))
        have hz6 := zeros2 (u5.alloc (.cells #[.bool ex6, .slice C6 zs6.length cz6, .bool g6, .slice D6 ws6.length dz6, .bool h6] 39))
        rw [show (World.heap (u5.alloc (.cells #[.bool ex6, .slice C6 zs6.length cz6, .bool g6, .slice D6 ws6.length dz6, .bool h6] 39))).size = u5.heap.size + 1 by simp] at hz6
        have ha6 : Below (World.heap (u5.alloc (.cells #[.bool ex6, .slice C6 zs6.length cz6, .bool g6, .slice D6 ws6.length dz6, .bool h6] 39))).size (u5.alloc (.cells #[.bool ex6, .slice C6 zs6.length cz6, .bool g6, .slice D6 ws6.length dz6, .bool h6] 39)) (((u5.alloc (.cells #[.bool ex6, .slice C6 zs6.length cz6, .bool g6, .slice D6 ws6.length dz6, .bool h6] 39)).alloc (.cells #[.bool false, .slice none 0 0, .bool false, .slice none 0 0, .bool false] 39)).alloc (.cells #[.bool false, .slice none 0 0, .bool false, .slice none 0 0, .bool false] 39)) := ((Below.refl _ _).alloc (Nat.le_refl _) _).alloc (by simp) _
        have hc6 : (World.heap (((u5.alloc (.cells #[.bool ex6, .slice C6 zs6.length cz6, .bool g6, .slice D6 ws6.length dz6, .bool h6] 39)).alloc (.cells #[.bool false, .slice none 0 0, .bool false, .slice none 0 0, .bool false] 39)).alloc (.cells #[.bool false, .slice none 0 0, .bool false, .slice none 0 0, .bool false] 39))).size = u5.heap.size + 1 + 1 + 1 := by simp
        have hX6 := HXa5.out.trans (ha6.mono HXa5.out.size)
        have HX6 := Lib.hid hX6
        obtain ⟨k0_HB6, k1_HB6, k2_HB6, k3_HB6, k4_HB6, kl_HB6⟩ := HB.out _ hX6
        obtain ⟨q0_HP6, q1_HP6, q2_HP6, q3_HP6, q4_HP6, ql_HP6⟩ := HP.out _ hX6
        obtain ⟨r0_HR6, r1_HR6, r2_HR6, r3_HR6, r4_HR6, rl_HR6⟩ := HR.out _ hX6
        have hY6 := HYa5.out.trans (ha6.mono HYa5.out.size)
        have HY6 := Lib.hid hY6
        obtain ⟨t0_KYb6, t1_KYb6, t2_KYb6, t3_KYb6, t4_KYb6, tl_KYb6⟩ := KYb.out _ hY6
        have hZ6 := HZ0.out.trans (ha6.mono HZ0.out.size)
        have HZ6 := Lib.hid hZ6
        obtain ⟨v0_KZb6, v1_KZb6, v2_KZb6, v3_KZb6, v4_KZb6, vl_KZb6⟩ := KZb.out _ hZ6
        have z6 := hX6.size
        simp only [World.alloc, Array.size_push] at z6
        have HZ1 := Lib.hid hz6.1
        have HZ2 := Lib.hid hz6.2
        have HR5v := Lib.hid (HR5a.out.keep hY6)
        have HR6v := Lib.hid (HR6a.out.keep hZ6)
        have hu5 : w.heap.size + 1 + 1 + 1 ≤ u5.heap.size := by have := HX5.out.size; simp only [World.alloc, Array.size_push] at this; omega
        obtain ⟨⟨z0, z1, z2, z3, z4, z5, z6, z7, z8, z9, zl⟩, ⟨y0, y1, y2, y3, y4, y5, y6, y7, y8, y9, yl⟩⟩ := hz6
        clear ha6 hX6 hY6 hZ6 k0_HBa5 k1_HBa5 k2_HBa5 k3_HBa5 k4_HBa5 kl_HBa5 q0_HPa5 q1_HPa5 q2_HPa5 q3_HPa5 q4_HPa5 ql_HPa5 r0_HRa5 r1_HRa5 r2_HRa5 r3_HRa5 r4_HRa5 rl_HRa5 t0_KYba5 t1_KYba5 t2_KYba5 t3_KYba5 t4_KYba5 tl_KYba5 v0_KZba5 v1_KZba5 v2_KZba5 v3_KZba5 v4_KZba5 vl_KZba5
        go_upto_if 52 with fail
        go_cut [9, 15] (fun p9 p15 wx => ∃ (ex7 : Bool) (C7 : Option Addr) (zs7 : List ByteArray) (cz7 : Nat) (g7 : Bool) (D7 : Option Addr) (ws7 : List ByteArray) (dz7 : Nat) (h7 : Bool), p9 = .int .i64 (K3 : Int) ∧ p15 = .bool L3.isSome ∧ Below (World.heap (((w.alloc (.cells #[.bool ex0, .slice A0 nx c0, .bool b0, .slice B0 ny e0, .bool f0] 39)).alloc (.cells #[.bool ex1, .slice A1 mx c1, .bool b1, .slice B1 my e1, .bool f1] 39)).alloc (.cells #[.bool ex2, .slice A2 ox c2, .bool b2, .slice B2 oy e2, .bool f2] 39))).size (((w.alloc (.cells #[.bool ex0, .slice A0 nx c0, .bool b0, .slice B0 ny e0, .bool f0] 39)).alloc (.cells #[.bool ex1, .slice A1 mx c1, .bool b1, .slice B1 my e1, .bool f1] 39)).alloc (.cells #[.bool ex2, .slice A2 ox c2, .bool b2, .slice B2 oy e2, .bool f2] 39)) wx ∧ RBox wx w.heap.size ex0 A0 nx c0 b0 B0 ny e0 f0 ∧ RBox wx u5.heap.size ex6 C6 zs6.length cz6 g6 D6 ws6.length dz6 h6 ∧ RulR wx ex6 C6 zs6 cz6 g6 D6 ws6 dz6 h6 (o2.getD Pt.zeroR) ∧ RBox wx (u5.heap.size + 1) ex7 C7 zs7.length cz7 g7 D7 ws7.length dz7 h7 ∧ RulR wx ex7 C7 zs7 cz7 g7 D7 ws7 dz7 h7 (L3.getD Pt.zeroR) ∧ ZRul wx (u5.heap.size + 1 + 1))
        case first =>
          cases o1 with
          | none =>
            have hL : L3 = none := HL3.out
            have hK : K3 = 0 := HK3.out
            subst hL
            subst hK
            set_option maxRecDepth 100000 in go_wp2_with fail
            go_meet
            exact ⟨false, none, [], 0, false, none, [], 0, false, rfl, rfl, HX6.out, HB.out _ HX6.out, KZb.out _ HZ6.out, HR6v.out, ⟨HZ1.out.c0, HZ1.out.c1, HZ1.out.c2, HZ1.out.c3, HZ1.out.c4, HZ1.out.lt⟩, rulR_zero _, HZ2.out⟩
          | some x =>
            have hL : L3 = Pt.chain x rc := HL3.out
            have hK : K3 = Pt.chainE x rc := HK3.out
            have HCz := Lib.hid (HCx.out x rfl ex5 C5 zs5 cz5 g5 D5 ws5 dz5 h5 (((u5.alloc (.cells #[.bool ex6, .slice C6 zs6.length cz6, .bool g6, .slice D6 ws6.length dz6, .bool h6] 39)).alloc (.cells #[.bool false, .slice none 0 0, .bool false, .slice none 0 0, .bool false] 39)).alloc (.cells #[.bool false, .slice none 0 0, .bool false, .slice none 0 0, .bool false] 39)) HX6.out HR5v.out)
            rw [← hL, ← hK] at HCz
            clear hL hK
            set_option maxRecDepth 100000 in go_wp2_with fail
            with_reducible refine HCz.out.mono ?_
            rintro e u7 ⟨ex7, C7, zs7, cz7, g7, D7, ws7, dz7, h7, rfl, hrr7, hb7⟩
            have hX7 := HX6.out.trans (hb7.mono HX6.out.size)
            have HX7 := Lib.hid hX7
            have HZ7 := Lib.hid (HZ6.out.trans (hb7.mono HZ6.out.size))
            have HZa := Lib.hid (HZ1.out.keep hb7)
            have HZb := Lib.hid (HZ2.out.keep hb7)
            have HR6w := Lib.hid (HR6v.out.keep hb7)
            obtain ⟨m0, m1, m2, m3, m4, m5, m6, m7, m8, m9, ml⟩ := HZa.out
            have HRR := Lib.hid hrr7
            clear hb7 hX7 hrr7
            set_option maxRecDepth 100000 in go_wp2_with fail
            go_meet
            exact ⟨ex7, C7, zs7, cz7, g7, D7, ws7, dz7, h7, rfl, rfl, Below.set5 HX7.out _ (by simp; omega) _ _ _ _ _, RBox.aside (HB.out _ HX7.out) (by omega) _ _ _ _ _, RBox.aside (KZb.out _ HZ7.out) (by omega) _ _ _ _ _, HR6w.out.grow5 _ _ _ _ _ _ HZa.out, RBox.set5 HZa.out .., HRR.out.grow5 _ _ _ _ _ _ HZa.out, HZb.out.aside (by omega) _ _ _ _ _⟩
        case rest =>
          obtain ⟨ex7, C7, zs7, cz7, g7, D7, ws7, dz7, h7, rfl, rfl, HXv, hba, hby, hry, hbl, hrl, hzr⟩ := hcut
          have HX7 := Lib.hid HXv
          have HBL := Lib.hid hbl
          have HRL := Lib.hid hrl
          have HZR := Lib.hid hzr
          have HRY := Lib.hid hry
          obtain ⟨a0, a1, a2, a3, a4, al⟩ := hba
          obtain ⟨v0, v1, v2, v3, v4, vl⟩ := hby
          clear HXv hbl hrl hry z0 z1 z2 z3 z4 z5 z6 z7 z8 z9 zl y0 y1 y2 y3 y4 y5 y6 y7 y8 y9 yl k0_HB6 k1_HB6 k2_HB6 k3_HB6 k4_HB6 kl_HB6 q0_HP6 q1_HP6 q2_HP6 q3_HP6 q4_HP6 ql_HP6 r0_HR6 r1_HR6 r2_HR6 r3_HR6 r4_HR6 rl_HR6 t0_KYb6 t1_KYb6 t2_KYb6 t3_KYb6 t4_KYb6 tl_KYb6 v0_KZb6 v1_KZb6 v2_KZb6 v3_KZb6 v4_KZb6 vl_KZb6
          go_upto_if 60 with fail
          go_cut [12, 16] (fun p12 p16 wx => ∃ (ex8 : Bool) (C8 : Option Addr) (zs8 : List ByteArray) (cz8 : Nat) (g8 : Bool) (D8 : Option Addr) (ws8 : List ByteArray) (dz8 : Nat) (h8 : Bool), p12 = .int .i64 (K4 : Int) ∧ p16 = .bool L4.isSome ∧ Below (World.heap (((w.alloc (.cells #[.bool ex0, .slice A0 nx c0, .bool b0, .slice B0 ny e0, .bool f0] 39)).alloc (.cells #[.bool ex1, .slice A1 mx c1, .bool b1, .slice B1 my e1, .bool f1] 39)).alloc (.cells #[.bool ex2, .slice A2 ox c2, .bool b2, .slice B2 oy e2, .bool f2] 39))).size (((w.alloc (.cells #[.bool ex0, .slice A0 nx c0, .bool b0, .slice B0 ny e0, .bool f0] 39)).alloc (.cells #[.bool ex1, .slice A1 mx c1, .bool b1, .slice B1 my e1, .bool f1] 39)).alloc (.cells #[.bool ex2, .slice A2 ox c2, .bool b2, .slice B2 oy e2, .bool f2] 39)) wx ∧ RBox wx (u5.heap.size + 1) ex7 C7 zs7.length cz7 g7 D7 ws7.length dz7 h7 ∧ RulR wx ex7 C7 zs7 cz7 g7 D7 ws7 dz7 h7 (L3.getD Pt.zeroR) ∧ RBox wx (u5.heap.size + 1 + 1) ex8 C8 zs8.length cz8 g8 D8 ws8.length dz8 h8 ∧ RulR wx ex8 C8 zs8 cz8 g8 D8 ws8 dz8 h8 (L4.getD Pt.zeroR))
          case first =>
            cases o2 with
            | none =>
              have hL : L4 = none := HL4.out
              have hK : K4 = 0 := HK4.out
              subst hL
              subst hK
              set_option maxRecDepth 100000 in go_wp2_with fail
              go_meet
              exact ⟨false, none, [], 0, false, none, [], 0, false, rfl, rfl, HX7.out, HBL.out, HRL.out, ⟨HZR.out.c0, HZR.out.c1, HZR.out.c2, HZR.out.c3, HZR.out.c4, HZR.out.lt⟩, rulR_zero _⟩
            | some y =>
              have hL : L4 = Pt.chain ra y := HL4.out
              have hK : K4 = Pt.chainE ra y := HK4.out
              have HCz := Lib.hid (HCy.out y rfl ex6 C6 zs6 cz6 g6 D6 ws6 dz6 h6 wc HX7.out HRY.out)
              rw [← hL, ← hK] at HCz
              clear hL hK
              set_option maxRecDepth 100000 in go_wp2_with fail
              with_reducible refine HCz.out.mono ?_
              rintro e u8 ⟨ex8, C8, zs8, cz8, g8, D8, ws8, dz8, h8, rfl, hrr8, hb8⟩
              have hX8 := HX7.out.trans (hb8.mono HX7.out.size)
              have HX8 := Lib.hid hX8
              have HZb := Lib.hid (HZR.out.keep hb8)
              have HBl := Lib.hid (HBL.out.keep hb8)
              have HRl := Lib.hid (HRL.out.keep hb8)
              obtain ⟨m0, m1, m2, m3, m4, m5, m6, m7, m8, m9, ml⟩ := HZb.out
              have HRR := Lib.hid hrr8
              clear hb8 hX8 hrr8
              set_option maxRecDepth 100000 in go_wp2_with fail
              go_meet
              exact ⟨ex8, C8, zs8, cz8, g8, D8, ws8, dz8, h8, rfl, rfl, Below.set5 HX8.out _ (by simp; omega) _ _ _ _ _, RBox.aside HBl.out (by omega) _ _ _ _ _, HRl.out.grow5 _ _ _ _ _ _ HZb.out, RBox.set5 HZb.out .., HRR.out.grow5 _ _ _ _ _ _ HZb.out⟩
          case rest =>
            obtain ⟨ex8, C8, zs8, cz8, g8, D8, ws8, dz8, h8, rfl, rfl, HXv, hbl, hrl, hbr, hrr⟩ := hcut
            have HX8 := Lib.hid HXv
            have HRl := Lib.hid hrl
            have HRr := Lib.hid hrr
            obtain ⟨t0, t1, t2, t3, t4, tl⟩ := hbl
            obtain ⟨v0, v1, v2, v3, v4, vl⟩ := hbr
            clear HXv hrl hrr a0 a1 a2 a3 a4 al hzr
            generalize hj3 : L3.isSome = j3 at *
            generalize hj4 : L4.isSome = j4 at *
            by_cases h3 : K3 = 0
            rotate_left
            · skip
              have p31 : ((K3 : Int) == 0) = false := by rw [beq_eq_false_iff_ne]; omega
              have p32 : ((K3 : Int) != 0) = true := by rw [bne, p31]; rfl
              clear h3 hj3 hj4
              go_wp2_with fail
              with_reducible refine (HAw.out _ HX8.out).mono ?_
              rintro e u9 ⟨rfl, hb9⟩
              have HX9 := Lib.hid (HX8.out.trans (hb9.mono HX8.out.size))
              clear hb9
              go_wp2
              go_ret
              exact ⟨rfl, HAL.out.trans (HX9.out.mono HAL.out.size)⟩
            by_cases h4 : K4 = 0
            rotate_left
            · subst h3
              have p41 : ((K4 : Int) == 0) = false := by rw [beq_eq_false_iff_ne]; omega
              have p42 : ((K4 : Int) != 0) = true := by rw [bne, p41]; rfl
              clear h4 hj3 hj4
              go_wp2_with fail
              with_reducible refine (HAw.out _ HX8.out).mono ?_
              rintro e u9 ⟨rfl, hb9⟩
              have HX9 := Lib.hid (HX8.out.trans (hb9.mono HX8.out.size))
              clear hb9
              go_wp2
              go_ret
              exact ⟨rfl, HAL.out.trans (HX9.out.mono HAL.out.size)⟩
            obtain rfl := HAS.out h3 h4
            subst h3
            subst h4
            obtain rfl : j3 = j4 := hj3.symm.trans hj4
            clear hj3 hj4
            have HE := Lib.hid (same_lines ex7 C7 zs7 cz7 g7 D7 ws7 dz7 h7 ex8 C8 zs8 cz8 g8 D8 ws8 dz8 h8 (L3.getD Pt.zeroR) wc HRl.out HRr.out)
            cases j3
            all_goals
              go_wp2_with fail
              with_reducible refine HE.out.mono ?_
              rintro e u8 ⟨rfl, hb8⟩
              have HXe := Lib.hid (HX8.out.trans (hb8.mono HX8.out.size))
              clear hb8
              go_wp2_with fail
              with_reducible refine (HAw.out _ HXe.out).mono ?_
              rintro e u9 ⟨rfl, hb9⟩
              have HX9 := Lib.hid (HXe.out.trans (hb9.mono HXe.out.size))
              clear hb9
              go_wp2
              go_ret
              exact ⟨rfl, HAL.out.trans (HX9.out.mono HAL.out.size)⟩

end Go.Proofs.YtihboibebhokbaaDoor.ruleAssociates
