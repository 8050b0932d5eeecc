/- RuleAgrees returns true at every two lines (the card: the variables that it lists hold what the program text lays). Conditions: none of its own. -/
import Derived.Test.YthgcnlhlhipllaaGreatDoorCards
import Derived.Test.YthgcnlhlhipllaaGreatDoorTie
import Derived.WalkKit
import Derived.ProofKit
import Derived.OpenShut
import Derived.ShutString
import Derived.Test.YthgcnlhlhipllaaGreatDoorPatOpen
import Derived.Test.YthgcnlhlhipllaaGreatDoorRulQAg
namespace Go.Proofs.YthgcnlhlhipllaaGreatDoor.ruleAgrees
open Go.ChangeShapes Go.WideShapes Go.ChangeAt Go.RowKit
open Go.ChangeMaps (open_string shut_string)
set_option linter.unusedVariables false

set_option maxHeartbeats 16000000 in
theorem walk (w : World) (ex0 : Bool) (A0 : Option Addr) (xs0 : List ByteArray) (c0 : Nat) (b0 : Bool) (B0 : Option Addr) (ys0 : List ByteArray) (e0 : Nat) (f0 : Bool) (hr0 : RulR w ex0 A0 xs0 c0 b0 B0 ys0 e0 f0 ⟨ex0, ⟨bs xs0, b0⟩, ⟨bs ys0, f0⟩⟩) (hz0 : ∀ x ∈ xs0, x.size ≤ 140737488355000) (hy0 : ∀ x ∈ ys0, x.size ≤ 140737488355000) (ex1 : Bool) (A1 : Option Addr) (xs1 : List ByteArray) (c1 : Nat) (b1 : Bool) (B1 : Option Addr) (ys1 : List ByteArray) (e1 : Nat) (f1 : Bool) (hr1 : RulR w ex1 A1 xs1 c1 b1 B1 ys1 e1 f1 ⟨ex1, ⟨bs xs1, b1⟩, ⟨bs ys1, f1⟩⟩) (hz1 : ∀ x ∈ xs1, x.size ≤ 140737488355000) (hy1 : ∀ x ∈ ys1, x.size ≤ 140737488355000) (hm : MaxL w) :
    Calls Tryz.prog 4 #[rulV ex0 A0 xs0.length c0 b0 B0 ys0.length e0 f0, rulV ex1 A1 xs1.length c1 b1 B1 ys1.length e1 f1] w fun e w' => e = .returned (.bool true) ∧ Below w.heap.size w w' := by
  obtain ⟨W0, hW0⟩ : ∃ W0, W0 = (w.alloc (.cells #[.bool ex0, .slice A0 xs0.length c0, .bool b0, .slice B0 ys0.length e0, .bool f0] 26)).alloc (.cells #[.bool ex1, .slice A1 xs1.length c1, .bool b1, .slice B1 ys1.length e1, .bool f1] 26) := ⟨_, rfl⟩
  have hal : Below w.heap.size w W0 := by rw [hW0]; exact ((Below.refl _ _).alloc (Nat.le_refl _) _).alloc (by simp) _
  have HX0 := Lib.hid (Below.refl W0.heap.size W0)
  have HAL := Lib.hid hal
  obtain ⟨hbx, hpx⟩ : RBox W0 w.heap.size ex0 A0 xs0.length c0 b0 B0 ys0.length e0 f0 ∧ RBox W0 (w.heap.size + 1) ex1 A1 xs1.length c1 b1 B1 ys1.length e1 f1 := by rw [hW0]; exact boxesR ..
  have HB := Lib.hid (fun (w' : World) (hb : Below W0.heap.size W0 w') => hbx.keep hb)
  have HP := Lib.hid (fun (w' : World) (hb : Below W0.heap.size W0 w') => hpx.keep hb)
  have hm0 := hm.keep hal hm.size
  have HAw := Lib.hid (fun (w' : World) (hb : Below W0.heap.size W0 w') => awake4_any w' (hm0.keep hb hm0.size))
  have HFt := Lib.hid (fun (w' : World) (hb : Below W0.heap.size W0 w') => fit_any ex0 A0 xs0 c0 b0 B0 ys0 e0 f0 w' (hr0.keep (hal.trans (hb.mono hal.size))) hz0 hy0)
  have HFu := Lib.hid (fun (w' : World) (hb : Below W0.heap.size W0 w') => fit_any ex1 A1 xs1 c1 b1 B1 ys1 e1 f1 w' (hr1.keep (hal.trans (hb.mono hal.size))) hz1 hy1)
  generalize hfb : fitB xs0 ys0 = fb at HFt
  cases fb with
  | false =>
    clear hfb
    generalize xs0.length = nx at *
    generalize ys0.length = ny at *
    generalize xs1.length = mx at *
    generalize ys1.length = my at *
    clear hbx hpx hr0 hr1 hz0 hy0 hz1 hy1
    subst hW0
    clear hal
    go_enter Tryz.func4, Tryz.ntmps4
    go_wp2_with fail
    with_reducible refine (HFt.out _ HX0.out).mono ?_
    rintro e u1 ⟨rfl, hb1⟩
    have hX1 := HX0.out.trans (hb1.mono HX0.out.size)
    have HX1 := Lib.hid hX1
    obtain ⟨k0_HB1, k1_HB1, k2_HB1, k3_HB1, k4_HB1, kl_HB1⟩ := HB.out _ hX1
    obtain ⟨q0_HP1, q1_HP1, q2_HP1, q3_HP1, q4_HP1, ql_HP1⟩ := HP.out _ hX1
    have z1 := hX1.size
    simp only [World.alloc, Array.size_push] at z1
    clear hb1 hX1 
    go_wp2_with fail
    with_reducible refine (HAw.out _ HX1.out).mono ?_
    rintro e u2 ⟨rfl, hb2⟩
    have hX2 := HX1.out.trans (hb2.mono HX1.out.size)
    have HX2 := Lib.hid hX2
    obtain ⟨k0_HB2, k1_HB2, k2_HB2, k3_HB2, k4_HB2, kl_HB2⟩ := HB.out _ hX2
    obtain ⟨q0_HP2, q1_HP2, q2_HP2, q3_HP2, q4_HP2, ql_HP2⟩ := HP.out _ hX2
    have z2 := hX2.size
    simp only [World.alloc, Array.size_push] at z2
    clear hb2 hX2 k0_HB1 k1_HB1 k2_HB1 k3_HB1 k4_HB1 kl_HB1 q0_HP1 q1_HP1 q2_HP1 q3_HP1 q4_HP1 ql_HP1
    go_wp2
    go_ret
    exact ⟨rfl, HAL.out.trans (HX2.out.mono HAL.out.size)⟩
  | true =>
    unfold fitB at hfb
    rw [Bool.and_eq_true] at hfb
    obtain ⟨n1, g1, x1⟩ := small4_facts hfb.1
    obtain ⟨n2, g2, x2⟩ := small4_facts hfb.2
    clear hfb
    generalize hfc : fitB xs1 ys1 = fc at HFu
    cases fc with
    | false =>
      clear hfc n1 n2 g1 g2 x1 x2
      generalize xs0.length = nx at *
      generalize ys0.length = ny at *
      generalize xs1.length = mx at *
      generalize ys1.length = my at *
      clear hbx hpx hr0 hr1 hz0 hy0 hz1 hy1
      subst hW0
      clear hal
      go_enter Tryz.func4, Tryz.ntmps4
      go_wp2_with fail
      with_reducible refine (HFt.out _ HX0.out).mono ?_
      rintro e u1 ⟨rfl, hb1⟩
      have hX1 := HX0.out.trans (hb1.mono HX0.out.size)
      have HX1 := Lib.hid hX1
      obtain ⟨k0_HB1, k1_HB1, k2_HB1, k3_HB1, k4_HB1, kl_HB1⟩ := HB.out _ hX1
      obtain ⟨q0_HP1, q1_HP1, q2_HP1, q3_HP1, q4_HP1, ql_HP1⟩ := HP.out _ hX1
      have z1 := hX1.size
      simp only [World.alloc, Array.size_push] at z1
      clear hb1 hX1 
      go_wp2_with fail
      with_reducible refine (HFu.out _ HX1.out).mono ?_
      rintro e u2 ⟨rfl, hb2⟩
      have hX2 := HX1.out.trans (hb2.mono HX1.out.size)
      have HX2 := Lib.hid hX2
      obtain ⟨k0_HB2, k1_HB2, k2_HB2, k3_HB2, k4_HB2, kl_HB2⟩ := HB.out _ hX2
      obtain ⟨q0_HP2, q1_HP2, q2_HP2, q3_HP2, q4_HP2, ql_HP2⟩ := HP.out _ hX2
      have z2 := hX2.size
      simp only [World.alloc, Array.size_push] at z2
      clear hb2 hX2 k0_HB1 k1_HB1 k2_HB1 k3_HB1 k4_HB1 kl_HB1 q0_HP1 q1_HP1 q2_HP1 q3_HP1 q4_HP1 ql_HP1
      go_wp2_with fail
      with_reducible refine (HAw.out _ HX2.out).mono ?_
      rintro e u3 ⟨rfl, hb3⟩
      have hX3 := HX2.out.trans (hb3.mono HX2.out.size)
      have HX3 := Lib.hid hX3
      obtain ⟨k0_HB3, k1_HB3, k2_HB3, k3_HB3, k4_HB3, kl_HB3⟩ := HB.out _ hX3
      obtain ⟨q0_HP3, q1_HP3, q2_HP3, q3_HP3, q4_HP3, ql_HP3⟩ := HP.out _ hX3
      have z3 := hX3.size
      simp only [World.alloc, Array.size_push] at z3
      clear hb3 hX3 k0_HB2 k1_HB2 k2_HB2 k3_HB2 k4_HB2 kl_HB2 q0_HP2 q1_HP2 q2_HP2 q3_HP2 q4_HP2 ql_HP2
      go_wp2
      go_ret
      exact ⟨rfl, HAL.out.trans (HX3.out.mono HAL.out.size)⟩
    | true =>
      unfold fitB at hfc
      rw [Bool.and_eq_true] at hfc
      obtain ⟨n3, g3, x3⟩ := small4_facts hfc.1
      obtain ⟨n4, g4, x4⟩ := small4_facts hfc.2
      clear hfc
      obtain ⟨r, hrr⟩ : ∃ r : Pt.Rul, r = ⟨ex0, ⟨bs xs0, b0⟩, ⟨bs ys0, f0⟩⟩ := ⟨_, rfl⟩
      obtain ⟨q, hqq⟩ : ∃ q : Pt.Rul, q = ⟨ex1, ⟨bs xs1, b1⟩, ⟨bs ys1, f1⟩⟩ := ⟨_, rfl⟩
      have h1 : Pt.szs 300 r.left := by rw [hrr]; exact g1
      have h2 : Pt.szs 300 r.right := by rw [hrr]; exact g2
      have h3 : Pt.szs 300 q.left := by rw [hqq]; exact g3
      have h4 : Pt.szs 300 q.right := by rw [hqq]; exact g4
      rw [← hrr] at hr0
      rw [← hqq] at hr1
      have HAg := Lib.hid (fun (w' : World) (hb : Below W0.heap.size W0 w') => agree_any ex0 A0 xs0 c0 b0 B0 ys0 e0 f0 r ex1 A1 xs1 c1 b1 B1 ys1 e1 f1 q w' (hr0.keep (hal.trans (hb.mono hal.size))) (hr1.keep (hal.trans (hb.mono hal.size))) h1 h2 h3 h4)
      have HQg := Lib.hid (fun (w' : World) (hb : Below W0.heap.size W0 w') => qagree_any ex0 A0 xs0 c0 b0 B0 ys0 e0 f0 r ex1 A1 xs1 c1 b1 B1 ys1 e1 f1 q w' (hr0.keep (hal.trans (hb.mono hal.size))) (hr1.keep (hal.trans (hb.mono hal.size))) h1 h2 h3 h4)
      clear n1 n2 n3 n4 g1 g2 g3 g4 x1 x2 x3 x4 h1 h2 h3 h4 hrr hqq
      generalize Pt.agreeE r q = k at *
      generalize xs0.length = nx at *
      generalize ys0.length = ny at *
      generalize xs1.length = mx at *
      generalize ys1.length = my at *
      clear hbx hpx hr0 hr1 hz0 hy0 hz1 hy1
      subst hW0
      clear hal
      go_enter Tryz.func4, Tryz.ntmps4
      go_wp2_with fail
      with_reducible refine (HFt.out _ HX0.out).mono ?_
      rintro e u1 ⟨rfl, hb1⟩
      have hX1 := HX0.out.trans (hb1.mono HX0.out.size)
      have HX1 := Lib.hid hX1
      obtain ⟨k0_HB1, k1_HB1, k2_HB1, k3_HB1, k4_HB1, kl_HB1⟩ := HB.out _ hX1
      obtain ⟨q0_HP1, q1_HP1, q2_HP1, q3_HP1, q4_HP1, ql_HP1⟩ := HP.out _ hX1
      have z1 := hX1.size
      simp only [World.alloc, Array.size_push] at z1
      clear hb1 hX1 
      go_wp2_with fail
      with_reducible refine (HFu.out _ HX1.out).mono ?_
      rintro e u2 ⟨rfl, hb2⟩
      have hX2 := HX1.out.trans (hb2.mono HX1.out.size)
      have HX2 := Lib.hid hX2
      obtain ⟨k0_HB2, k1_HB2, k2_HB2, k3_HB2, k4_HB2, kl_HB2⟩ := HB.out _ hX2
      obtain ⟨q0_HP2, q1_HP2, q2_HP2, q3_HP2, q4_HP2, ql_HP2⟩ := HP.out _ hX2
      have z2 := hX2.size
      simp only [World.alloc, Array.size_push] at z2
      clear hb2 hX2 k0_HB1 k1_HB1 k2_HB1 k3_HB1 k4_HB1 kl_HB1 q0_HP1 q1_HP1 q2_HP1 q3_HP1 q4_HP1 ql_HP1
      go_wp2_with fail
      with_reducible refine (HAg.out _ HX2.out).mono ?_
      rintro e u3 ⟨C5, zs5, cz5, g5, o, rfl, hpz, hag, hno, hb3⟩
      have hX3 := HX2.out.trans (hb3.mono HX2.out.size)
      have HX3 := Lib.hid hX3
      obtain ⟨k0_HB3, k1_HB3, k2_HB3, k3_HB3, k4_HB3, kl_HB3⟩ := HB.out _ hX3
      obtain ⟨q0_HP3, q1_HP3, q2_HP3, q3_HP3, q4_HP3, ql_HP3⟩ := HP.out _ hX3
      have z3 := hX3.size
      simp only [World.alloc, Array.size_push] at z3
      have HA5 := Lib.hid hag
      have HN5 := Lib.hid hno
      have HR5 := Lib.hid hpz
      clear hpz hag hno
      clear hb3 hX3 k0_HB2 k1_HB2 k2_HB2 k3_HB2 k4_HB2 kl_HB2 q0_HP2 q1_HP2 q2_HP2 q3_HP2 q4_HP2 ql_HP2
      have ha3 : Below u3.heap.size u3 (u3.alloc (.cells #[.slice C5 zs5.length cz5, .bool g5] 24)) := (Below.refl _ _).alloc (Nat.le_refl _) _
      have hXa3 := HX3.out.trans (ha3.mono HX3.out.size)
      have HXa3 := Lib.hid hXa3
      obtain ⟨k0_HBa3, k1_HBa3, k2_HBa3, k3_HBa3, k4_HBa3, kl_HBa3⟩ := HB.out _ hXa3
      obtain ⟨q0_HPa3, q1_HPa3, q2_HPa3, q3_HPa3, q4_HPa3, ql_HPa3⟩ := HP.out _ hXa3
      have za3 := hXa3.size
      simp only [World.alloc, Array.size_push] at za3
      have KYb := Lib.hid (fun (w' : World) (hb : Below (u3.alloc (.cells #[.slice C5 zs5.length cz5, .bool g5] 24)).heap.size (u3.alloc (.cells #[.slice C5 zs5.length cz5, .bool g5] 24)) w') => (PBox.new u3 C5 zs5.length cz5 g5).keep hb)
      have HY0 := Lib.hid (Below.refl (u3.alloc (.cells #[.slice C5 zs5.length cz5, .bool g5] 24)).heap.size (u3.alloc (.cells #[.slice C5 zs5.length cz5, .bool g5] 24)))
      obtain ⟨t0_KYba3, t1_KYba3, tl_KYba3⟩ := KYb.out _ HY0.out
      clear hXa3 k0_HB3 k1_HB3 k2_HB3 k3_HB3 k4_HB3 kl_HB3 q0_HP3 q1_HP3 q2_HP3 q3_HP3 q4_HP3 ql_HP3
      have HR5a := Lib.hid (HR5.out.keep ((Below.refl _ _).alloc (Nat.le_refl _) (.cells #[.slice C5 zs5.length cz5, .bool g5] 24)))
      go_wp2_with fail
      with_reducible refine (HQg.out _ HXa3.out).mono ?_
      rintro e u4 ⟨C6, zs6, cz6, g6, o6, rfl, hpz, hag, hno, hb4⟩
      have hX4 := HXa3.out.trans (hb4.mono HXa3.out.size)
      have HX4 := Lib.hid hX4
      obtain ⟨k0_HB4, k1_HB4, k2_HB4, k3_HB4, k4_HB4, kl_HB4⟩ := HB.out _ hX4
      obtain ⟨q0_HP4, q1_HP4, q2_HP4, q3_HP4, q4_HP4, ql_HP4⟩ := HP.out _ hX4
      have hY4 := HY0.out.trans (hb4.mono HY0.out.size)
      have HY4 := Lib.hid hY4
      obtain ⟨t0_KYb4, t1_KYb4, tl_KYb4⟩ := KYb.out _ hY4
      have z4 := hX4.size
      simp only [World.alloc, Array.size_push] at z4
      have hoo : o6 = o := by
        by_cases hk : k = 0
        · exact (hag hk).one (HA5.out hk)
        · rw [hno hk, HN5.out hk]
      subst hoo
      have HR6 := Lib.hid hpz
      clear hpz hag hno
      clear hb4 hX4 hY4 k0_HBa3 k1_HBa3 k2_HBa3 k3_HBa3 k4_HBa3 kl_HBa3 q0_HPa3 q1_HPa3 q2_HPa3 q3_HPa3 q4_HPa3 ql_HPa3 t0_KYba3 t1_KYba3 tl_KYba3
      have ha4 : Below u4.heap.size u4 (u4.alloc (.cells #[.slice C6 zs6.length cz6, .bool g6] 24)) := (Below.refl _ _).alloc (Nat.le_refl _) _
      have hXa4 := HX4.out.trans (ha4.mono HX4.out.size)
      have HXa4 := Lib.hid hXa4
      obtain ⟨k0_HBa4, k1_HBa4, k2_HBa4, k3_HBa4, k4_HBa4, kl_HBa4⟩ := HB.out _ hXa4
      obtain ⟨q0_HPa4, q1_HPa4, q2_HPa4, q3_HPa4, q4_HPa4, ql_HPa4⟩ := HP.out _ hXa4
      have hYa4 := HY4.out.trans (ha4.mono HY4.out.size)
      have HYa4 := Lib.hid hYa4
      obtain ⟨t0_KYba4, t1_KYba4, tl_KYba4⟩ := KYb.out _ hYa4
      have za4 := hXa4.size
      simp only [World.alloc, Array.size_push] at za4
      have KZb := Lib.hid (fun (w' : World) (hb : Below (u4.alloc (.cells #[.slice C6 zs6.length cz6, .bool g6] 24)).heap.size (u4.alloc (.cells #[.slice C6 zs6.length cz6, .bool g6] 24)) w') => (PBox.new u4 C6 zs6.length cz6 g6).keep hb)
      have HZ0 := Lib.hid (Below.refl (u4.alloc (.cells #[.slice C6 zs6.length cz6, .bool g6] 24)).heap.size (u4.alloc (.cells #[.slice C6 zs6.length cz6, .bool g6] 24)))
      obtain ⟨t0_KZba4, t1_KZba4, tl_KZba4⟩ := KZb.out _ HZ0.out
      clear hXa4 hYa4 k0_HB4 k1_HB4 k2_HB4 k3_HB4 k4_HB4 kl_HB4 q0_HP4 q1_HP4 q2_HP4 q3_HP4 q4_HP4 ql_HP4 t0_KYb4 t1_KYb4 tl_KYb4
      have HE := Lib.hid (same_pats C5 C6 zs5 zs6 cz5 cz6 g5 g6 (o6.getD Pt.none_) _ (HR5a.out.keep HYa4.out) (HR6.out.keep ((Below.refl _ _).alloc (Nat.le_refl _) (.cells #[.slice C6 zs6.length cz6, .bool g6] 24))))
      clear HA5 HN5
      generalize o6.isSome = j at *
      cases j
      all_goals
        go_wp2_with fail
        with_reducible refine (HE.out).mono ?_
        rintro e u5 ⟨rfl, hb5⟩
        have hX5 := HXa4.out.trans (hb5.mono HXa4.out.size)
        have HX5 := Lib.hid hX5
        obtain ⟨k0_HB5, k1_HB5, k2_HB5, k3_HB5, k4_HB5, kl_HB5⟩ := HB.out _ hX5
        obtain ⟨q0_HP5, q1_HP5, q2_HP5, q3_HP5, q4_HP5, ql_HP5⟩ := HP.out _ hX5
        have hY5 := HYa4.out.trans (hb5.mono HYa4.out.size)
        have HY5 := Lib.hid hY5
        obtain ⟨t0_KYb5, t1_KYb5, tl_KYb5⟩ := KYb.out _ hY5
        have hZ5 := HZ0.out.trans (hb5.mono HZ0.out.size)
        have HZ5 := Lib.hid hZ5
        obtain ⟨t0_KZb5, t1_KZb5, tl_KZb5⟩ := KZb.out _ hZ5
        have z5 := hX5.size
        simp only [World.alloc, Array.size_push] at z5
        clear hb5 hX5 hY5 hZ5 k0_HBa4 k1_HBa4 k2_HBa4 k3_HBa4 k4_HBa4 kl_HBa4 q0_HPa4 q1_HPa4 q2_HPa4 q3_HPa4 q4_HPa4 ql_HPa4 t0_KYba4 t1_KYba4 tl_KYba4 t0_KZba4 t1_KZba4 tl_KZba4
        go_wp2_with fail
        with_reducible refine (HAw.out _ HX5.out).mono ?_
        rintro e u6 ⟨rfl, hb6⟩
        have hX6 := HX5.out.trans (hb6.mono HX5.out.size)
        have HX6 := Lib.hid hX6
        obtain ⟨k0_HB6, k1_HB6, k2_HB6, k3_HB6, k4_HB6, kl_HB6⟩ := HB.out _ hX6
        obtain ⟨q0_HP6, q1_HP6, q2_HP6, q3_HP6, q4_HP6, ql_HP6⟩ := HP.out _ hX6
        have hY6 := HY5.out.trans (hb6.mono HY5.out.size)
        have HY6 := Lib.hid hY6
        obtain ⟨t0_KYb6, t1_KYb6, tl_KYb6⟩ := KYb.out _ hY6
        have hZ6 := HZ5.out.trans (hb6.mono HZ5.out.size)
        have HZ6 := Lib.hid hZ6
        obtain ⟨t0_KZb6, t1_KZb6, tl_KZb6⟩ := KZb.out _ hZ6
        have z6 := hX6.size
        simp only [World.alloc, Array.size_push] at z6
        clear hb6 hX6 hY6 hZ6 k0_HB5 k1_HB5 k2_HB5 k3_HB5 k4_HB5 kl_HB5 q0_HP5 q1_HP5 q2_HP5 q3_HP5 q4_HP5 ql_HP5 t0_KYb5 t1_KYb5 tl_KYb5 t0_KZb5 t1_KZb5 tl_KZb5
        go_wp2
        go_ret
        exact ⟨rfl, HAL.out.trans (HX6.out.mono HAL.out.size)⟩

end Go.Proofs.YthgcnlhlhipllaaGreatDoor.ruleAgrees
