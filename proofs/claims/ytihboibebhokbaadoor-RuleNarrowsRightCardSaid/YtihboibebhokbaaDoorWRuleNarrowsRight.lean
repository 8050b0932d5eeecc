/- RuleNarrowsRight returns true at every line and every pattern (the card: the variables that it lists hold what the program text lays). Conditions: none of its own. -/
import Derived.Test.YtihboibebhokbaaDoorCards
import Derived.Test.YtihboibebhokbaaDoorTie
import Derived.WalkKit
import Derived.ProofKit
import Derived.OpenShut
import Derived.ShutString
import Derived.Test.YtihboibebhokbaaDoorPatOpen
import Derived.Test.YtihboibebhokbaaDoorRulNarAll
namespace Go.Proofs.YtihboibebhokbaaDoor.ruleNarrowsRight
open Go.ChangeShapes Go.WideShapes Go.ChangeAt Go.RowKit
open Go.ChangeMaps (open_string shut_string)
set_option linter.unusedVariables false

set_option maxHeartbeats 16000000 in
theorem walk (w : World) (ex0 : Bool) (A0 : Option Addr) (xs0 : List ByteArray) (c0 : Nat) (b0 : Bool) (B0 : Option Addr) (ys0 : List ByteArray) (e0 : Nat) (f0 : Bool) (hr0 : RulR w ex0 A0 xs0 c0 b0 B0 ys0 e0 f0 ⟨ex0, ⟨bs xs0, b0⟩, ⟨bs ys0, f0⟩⟩) (hz0 : ∀ x ∈ xs0, x.size ≤ 140737488355000) (hy0 : ∀ x ∈ ys0, x.size ≤ 140737488355000) (A1 : Option Addr) (xs1 : List ByteArray) (c1 : Nat) (b1 : Bool) (hp1 : PatR w A1 xs1 c1 b1 ⟨bs xs1, b1⟩) (hz1 : ∀ x ∈ xs1, x.size ≤ 140737488355000) (hm : MaxL w) :
    Calls Tryd.prog 8 #[rulV ex0 A0 xs0.length c0 b0 B0 ys0.length e0 f0, patV A1 xs1.length c1 b1] w fun e w' => e = .returned (.bool true) ∧ Below w.heap.size w w' := by
  obtain ⟨W0, hW0⟩ : ∃ W0, W0 = (w.alloc (.cells #[.bool ex0, .slice A0 xs0.length c0, .bool b0, .slice B0 ys0.length e0, .bool f0] 39)).alloc (.cells #[.slice A1 xs1.length c1, .bool b1] 24) := ⟨_, rfl⟩
  have hal : Below w.heap.size w W0 := by rw [hW0]; exact ((Below.refl _ _).alloc (Nat.le_refl _) _).alloc (by simp) _
  have HX0 := Lib.hid (Below.refl W0.heap.size W0)
  have HAL := Lib.hid hal
  obtain ⟨hbx, hpx⟩ : RBox W0 w.heap.size ex0 A0 xs0.length c0 b0 B0 ys0.length e0 f0 ∧ PBox W0 (w.heap.size + 1) A1 xs1.length c1 b1 := by rw [hW0]; exact boxes2 ..
  have HB := Lib.hid (fun (w' : World) (hb : Below W0.heap.size W0 w') => hbx.keep hb)
  have HP := Lib.hid (fun (w' : World) (hb : Below W0.heap.size W0 w') => hpx.keep hb)
  have hm0 := hm.keep hal hm.size
  have HMX := Lib.hid (fun (w' : World) (hb : Below W0.heap.size W0 w') => hm0.keep hb hm0.size)
  have HAw := Lib.hid (fun (w' : World) (hb : Below W0.heap.size W0 w') => awake4_any w' (hm0.keep hb hm0.size))
  have HFt := Lib.hid (fun (w' : World) (hb : Below W0.heap.size W0 w') => fit_any ex0 A0 xs0 c0 b0 B0 ys0 e0 f0 w' (hr0.keep (hal.trans (hb.mono hal.size))) hz0 hy0)
  have HSm := Lib.hid (fun (w' : World) (hb : Below W0.heap.size W0 w') => small4_any A1 xs1 c1 b1 _ w' (hp1.keep (hal.trans (hb.mono hal.size))) (fun x hx => Nat.le_trans (hz1 x hx) (by decide)))
  generalize hfb : fitB xs0 ys0 = fb at HFt
  cases fb with
  | false =>
    clear hfb
    generalize xs0.length = nx at *
    generalize ys0.length = ny at *
    generalize xs1.length = np at *
    clear hbx hpx hr0 hp1 hz0 hy0 hz1
    subst hW0
    clear hal
    go_enter Tryd.func8, Tryd.ntmps8
    go_wp2_with fail
    with_reducible refine (HFt.out _ HX0.out).mono ?_
    rintro e u1 ⟨rfl, hb1⟩
    have hX1 := HX0.out.trans (hb1.mono HX0.out.size)
    have HX1 := Lib.hid hX1
    obtain ⟨k0_HB1, k1_HB1, k2_HB1, k3_HB1, k4_HB1, kl_HB1⟩ := HB.out _ hX1
    obtain ⟨p0_HP1, p1_HP1, pl_HP1⟩ := HP.out _ hX1
    have z1 := hX1.size
    simp only [World.alloc, Array.size_push] at z1
    clear hb1 hX1 
    go_wp2_with fail
    with_reducible refine (HAw.out _ HX1.out).mono ?_
    rintro e u2 ⟨rfl, hb2⟩
    have hX2 := HX1.out.trans (hb2.mono HX1.out.size)
    have HX2 := Lib.hid hX2
    obtain ⟨k0_HB2, k1_HB2, k2_HB2, k3_HB2, k4_HB2, kl_HB2⟩ := HB.out _ hX2
    obtain ⟨p0_HP2, p1_HP2, pl_HP2⟩ := HP.out _ hX2
    have z2 := hX2.size
    simp only [World.alloc, Array.size_push] at z2
    clear hb2 hX2 k0_HB1 k1_HB1 k2_HB1 k3_HB1 k4_HB1 kl_HB1 p0_HP1 p1_HP1 pl_HP1
    go_wp2
    go_ret
    exact ⟨rfl, HAL.out.trans (HX2.out.mono HAL.out.size)⟩
  | true =>
    unfold fitB at hfb
    rw [Bool.and_eq_true] at hfb
    obtain ⟨n1, g1, x1⟩ := small4_facts hfb.1
    obtain ⟨n2, g2, x2⟩ := small4_facts hfb.2
    clear hfb
    generalize hsb : small4B (bs xs1) = sb at HSm
    cases sb with
    | false =>
      clear hsb n1 n2 g1 g2 x1 x2
      generalize xs0.length = nx at *
      generalize ys0.length = ny at *
      generalize xs1.length = np at *
      clear hbx hpx hr0 hp1 hz0 hy0 hz1
      subst hW0
      clear hal
      go_enter Tryd.func8, Tryd.ntmps8
      go_wp2_with fail
      with_reducible refine (HFt.out _ HX0.out).mono ?_
      rintro e u1 ⟨rfl, hb1⟩
      have hX1 := HX0.out.trans (hb1.mono HX0.out.size)
      have HX1 := Lib.hid hX1
      obtain ⟨k0_HB1, k1_HB1, k2_HB1, k3_HB1, k4_HB1, kl_HB1⟩ := HB.out _ hX1
      obtain ⟨p0_HP1, p1_HP1, pl_HP1⟩ := HP.out _ hX1
      have z1 := hX1.size
      simp only [World.alloc, Array.size_push] at z1
      clear hb1 hX1 
      go_wp2_with fail
      with_reducible refine (HSm.out _ HX1.out).mono ?_
      rintro e u2 ⟨rfl, hb2⟩
      have hX2 := HX1.out.trans (hb2.mono HX1.out.size)
      have HX2 := Lib.hid hX2
      obtain ⟨k0_HB2, k1_HB2, k2_HB2, k3_HB2, k4_HB2, kl_HB2⟩ := HB.out _ hX2
      obtain ⟨p0_HP2, p1_HP2, pl_HP2⟩ := HP.out _ hX2
      have z2 := hX2.size
      simp only [World.alloc, Array.size_push] at z2
      clear hb2 hX2 k0_HB1 k1_HB1 k2_HB1 k3_HB1 k4_HB1 kl_HB1 p0_HP1 p1_HP1 pl_HP1
      go_wp2_with fail
      with_reducible refine (HAw.out _ HX2.out).mono ?_
      rintro e u3 ⟨rfl, hb3⟩
      have hX3 := HX2.out.trans (hb3.mono HX2.out.size)
      have HX3 := Lib.hid hX3
      obtain ⟨k0_HB3, k1_HB3, k2_HB3, k3_HB3, k4_HB3, kl_HB3⟩ := HB.out _ hX3
      obtain ⟨p0_HP3, p1_HP3, pl_HP3⟩ := HP.out _ hX3
      have z3 := hX3.size
      simp only [World.alloc, Array.size_push] at z3
      clear hb3 hX3 k0_HB2 k1_HB2 k2_HB2 k3_HB2 k4_HB2 kl_HB2 p0_HP2 p1_HP2 pl_HP2
      go_wp2
      go_ret
      exact ⟨rfl, HAL.out.trans (HX3.out.mono HAL.out.size)⟩
    | true =>
      obtain ⟨n3, g3, x3⟩ := small4_facts hsb
      clear hsb
      obtain ⟨r, hrr⟩ : ∃ r : Pt.Rul, r = ⟨ex0, ⟨bs xs0, b0⟩, ⟨bs ys0, f0⟩⟩ := ⟨_, rfl⟩
      obtain ⟨p, hpp⟩ : ∃ p : Pt.Pat, p = ⟨bs xs1, b1⟩ := ⟨_, rfl⟩
      have hsl : Pt.szs 300 r.left := by rw [hrr]; exact g1
      have hsr : Pt.szs 300 r.right := by rw [hrr]; exact g2
      have hsp : Pt.szs 300 p := by rw [hpp]; exact g3
      rw [← hrr] at hr0
      rw [← hpp] at hp1
      have HNL := Lib.hid (fun (w' : World) (hb : Below W0.heap.size W0 w') => nleft_any ex0 A0 xs0 c0 b0 B0 ys0 e0 f0 r A1 xs1 c1 b1 p w' (hr0.keep (hal.trans (hb.mono hal.size))) (hp1.keep (hal.trans (hb.mono hal.size))) (hsl.more (by decide)) (hsr.more (by decide)) (hsp.more (by decide)))
      have HNR := Lib.hid (fun (w' : World) (hb : Below W0.heap.size W0 w') => nright_any ex0 A0 xs0 c0 b0 B0 ys0 e0 f0 r A1 xs1 c1 b1 p w' (hr0.keep (hal.trans (hb.mono hal.size))) (hp1.keep (hal.trans (hb.mono hal.size))) (hsl.more (by decide)) (hsr.more (by decide)) (hsp.more (by decide)) (by omega) (by omega))
      have HQR := Lib.hid (fun (w' : World) (hb : Below W0.heap.size W0 w') => qnr_any ex0 A0 xs0 c0 b0 B0 ys0 e0 f0 r A1 xs1 c1 b1 p w' (hr0.keep (hal.trans (hb.mono hal.size))) (hp1.keep (hal.trans (hb.mono hal.size))) (hsl.more (by decide)) (hsr.more (by decide)) (hsp.more (by decide)) (by omega) (by omega))
      clear HNL
      generalize Pt.nright r p = o at *
      generalize Pt.nrightE r p = k at *
      clear n1 n2 n3 g1 g2 g3 x1 x2 x3 hsl hsr hsp hrr hpp
      generalize xs0.length = nx at *
      generalize ys0.length = ny at *
      generalize xs1.length = np at *
      clear hbx hpx hr0 hp1 hz0 hy0 hz1
      subst hW0
      clear hal
      go_enter Tryd.func8, Tryd.ntmps8
      go_wp2_with fail
      with_reducible refine (HFt.out _ HX0.out).mono ?_
      rintro e u1 ⟨rfl, hb1⟩
      have hX1 := HX0.out.trans (hb1.mono HX0.out.size)
      have HX1 := Lib.hid hX1
      obtain ⟨k0_HB1, k1_HB1, k2_HB1, k3_HB1, k4_HB1, kl_HB1⟩ := HB.out _ hX1
      obtain ⟨p0_HP1, p1_HP1, pl_HP1⟩ := HP.out _ hX1
      have z1 := hX1.size
      simp only [World.alloc, Array.size_push] at z1
      clear hb1 hX1 
      go_wp2_with fail
      with_reducible refine (HSm.out _ HX1.out).mono ?_
      rintro e u2 ⟨rfl, hb2⟩
      have hX2 := HX1.out.trans (hb2.mono HX1.out.size)
      have HX2 := Lib.hid hX2
      obtain ⟨k0_HB2, k1_HB2, k2_HB2, k3_HB2, k4_HB2, kl_HB2⟩ := HB.out _ hX2
      obtain ⟨p0_HP2, p1_HP2, pl_HP2⟩ := HP.out _ hX2
      have z2 := hX2.size
      simp only [World.alloc, Array.size_push] at z2
      clear hb2 hX2 k0_HB1 k1_HB1 k2_HB1 k3_HB1 k4_HB1 kl_HB1 p0_HP1 p1_HP1 pl_HP1
      go_wp2_with fail
      with_reducible refine (HNR.out _ HX2.out).mono ?_
      rintro e u3 ⟨ex5, C5, zs5, cz5, g5, D5, ws5, dz5, h5, rfl, hrr5, hb3⟩
      have hX3 := HX2.out.trans (hb3.mono HX2.out.size)
      have HX3 := Lib.hid hX3
      obtain ⟨k0_HB3, k1_HB3, k2_HB3, k3_HB3, k4_HB3, kl_HB3⟩ := HB.out _ hX3
      obtain ⟨p0_HP3, p1_HP3, pl_HP3⟩ := HP.out _ hX3
      have z3 := hX3.size
      simp only [World.alloc, Array.size_push] at z3
      have HR5 := Lib.hid hrr5
      clear hrr5
      clear hb3 hX3 k0_HB2 k1_HB2 k2_HB2 k3_HB2 k4_HB2 kl_HB2 p0_HP2 p1_HP2 pl_HP2
      have ha3 : Below u3.heap.size u3 (u3.alloc (.cells #[.bool ex5, .slice C5 zs5.length cz5, .bool g5, .slice D5 ws5.length dz5, .bool h5] 39)) := (Below.refl _ _).alloc (Nat.le_refl _) _
      have hXa3 := HX3.out.trans (ha3.mono HX3.out.size)
      have HXa3 := Lib.hid hXa3
      obtain ⟨k0_HBa3, k1_HBa3, k2_HBa3, k3_HBa3, k4_HBa3, kl_HBa3⟩ := HB.out _ hXa3
      obtain ⟨p0_HPa3, p1_HPa3, pl_HPa3⟩ := HP.out _ hXa3
      have za3 := hXa3.size
      simp only [World.alloc, Array.size_push] at za3
      have KYb := Lib.hid (fun (w' : World) (hb : Below (u3.alloc (.cells #[.bool ex5, .slice C5 zs5.length cz5, .bool g5, .slice D5 ws5.length dz5, .bool h5] 39)).heap.size (u3.alloc (.cells #[.bool ex5, .slice C5 zs5.length cz5, .bool g5, .slice D5 ws5.length dz5, .bool h5] 39)) w') => (RBox.new u3 ex5 C5 zs5.length cz5 g5 D5 ws5.length dz5 h5).keep hb)
      have HY0 := Lib.hid (Below.refl (u3.alloc (.cells #[.bool ex5, .slice C5 zs5.length cz5, .bool g5, .slice D5 ws5.length dz5, .bool h5] 39)).heap.size (u3.alloc (.cells #[.bool ex5, .slice C5 zs5.length cz5, .bool g5, .slice D5 ws5.length dz5, .bool h5] 39)))
      obtain ⟨t0_KYba3, t1_KYba3, t2_KYba3, t3_KYba3, t4_KYba3, tl_KYba3⟩ := KYb.out _ HY0.out
      clear hXa3 k0_HB3 k1_HB3 k2_HB3 k3_HB3 k4_HB3 kl_HB3 p0_HP3 p1_HP3 pl_HP3
      have HR5a := Lib.hid (HR5.out.keep ((Below.refl _ _).alloc (Nat.le_refl _) (.cells #[.bool ex5, .slice C5 zs5.length cz5, .bool g5, .slice D5 ws5.length dz5, .bool h5] 39)))
      go_wp2_with fail
      with_reducible refine (HQR.out _ HXa3.out).mono ?_
      rintro e u4 ⟨ex6, C6, zs6, cz6, g6, D6, ws6, dz6, h6, rfl, hrr6, hb4⟩
      have hX4 := HXa3.out.trans (hb4.mono HXa3.out.size)
      have HX4 := Lib.hid hX4
      obtain ⟨k0_HB4, k1_HB4, k2_HB4, k3_HB4, k4_HB4, kl_HB4⟩ := HB.out _ hX4
      obtain ⟨p0_HP4, p1_HP4, pl_HP4⟩ := HP.out _ hX4
      have hY4 := HY0.out.trans (hb4.mono HY0.out.size)
      have HY4 := Lib.hid hY4
      obtain ⟨t0_KYb4, t1_KYb4, t2_KYb4, t3_KYb4, t4_KYb4, tl_KYb4⟩ := KYb.out _ hY4
      have z4 := hX4.size
      simp only [World.alloc, Array.size_push] at z4
      have HR6 := Lib.hid hrr6
      clear hrr6
      clear hb4 hX4 hY4 k0_HBa3 k1_HBa3 k2_HBa3 k3_HBa3 k4_HBa3 kl_HBa3 p0_HPa3 p1_HPa3 pl_HPa3 t0_KYba3 t1_KYba3 t2_KYba3 t3_KYba3 t4_KYba3 tl_KYba3
      have ha4 : Below u4.heap.size u4 (u4.alloc (.cells #[.bool ex6, .slice C6 zs6.length cz6, .bool g6, .slice D6 ws6.length dz6, .bool h6] 39)) := (Below.refl _ _).alloc (Nat.le_refl _) _
      have hXa4 := HX4.out.trans (ha4.mono HX4.out.size)
      have HXa4 := Lib.hid hXa4
      obtain ⟨k0_HBa4, k1_HBa4, k2_HBa4, k3_HBa4, k4_HBa4, kl_HBa4⟩ := HB.out _ hXa4
      obtain ⟨p0_HPa4, p1_HPa4, pl_HPa4⟩ := HP.out _ hXa4
      have hYa4 := HY4.out.trans (ha4.mono HY4.out.size)
      have HYa4 := Lib.hid hYa4
      obtain ⟨t0_KYba4, t1_KYba4, t2_KYba4, t3_KYba4, t4_KYba4, tl_KYba4⟩ := KYb.out _ hYa4
      have za4 := hXa4.size
      simp only [World.alloc, Array.size_push] at za4
      have KZb := Lib.hid (fun (w' : World) (hb : Below (u4.alloc (.cells #[.bool ex6, .slice C6 zs6.length cz6, .bool g6, .slice D6 ws6.length dz6, .bool h6] 39)).heap.size (u4.alloc (.cells #[.bool ex6, .slice C6 zs6.length cz6, .bool g6, .slice D6 ws6.length dz6, .bool h6] 39)) w') => (RBox.new u4 ex6 C6 zs6.length cz6 g6 D6 ws6.length dz6 h6).keep hb)
      have HZ0 := Lib.hid (Below.refl (u4.alloc (.cells #[.bool ex6, .slice C6 zs6.length cz6, .bool g6, .slice D6 ws6.length dz6, .bool h6] 39)).heap.size (u4.alloc (.cells #[.bool ex6, .slice C6 zs6.length cz6, .bool g6, .slice D6 ws6.length dz6, .bool h6] 39)))
      obtain ⟨t0_KZba4, t1_KZba4, t2_KZba4, t3_KZba4, t4_KZba4, tl_KZba4⟩ := KZb.out _ HZ0.out
      clear hXa4 hYa4 k0_HB4 k1_HB4 k2_HB4 k3_HB4 k4_HB4 kl_HB4 p0_HP4 p1_HP4 pl_HP4 t0_KYb4 t1_KYb4 t2_KYb4 t3_KYb4 t4_KYb4 tl_KYb4
      have HE := Lib.hid (same_lines ex5 C5 zs5 cz5 g5 D5 ws5 dz5 h5 ex6 C6 zs6 cz6 g6 D6 ws6 dz6 h6 (o.getD Pt.zeroR) _ (HR5a.out.keep HYa4.out) (HR6.out.keep ((Below.refl _ _).alloc (Nat.le_refl _) (.cells #[.bool ex6, .slice C6 zs6.length cz6, .bool g6, .slice D6 ws6.length dz6, .bool h6] 39))))
      generalize o.isSome = j at *
      cases j
      all_goals
        go_wp2_with fail
        with_reducible refine (HE.out).mono ?_
        rintro e u5 ⟨rfl, hb5⟩
        have hX5 := HXa4.out.trans (hb5.mono HXa4.out.size)
        have HX5 := Lib.hid hX5
        obtain ⟨k0_HB5, k1_HB5, k2_HB5, k3_HB5, k4_HB5, kl_HB5⟩ := HB.out _ hX5
        obtain ⟨p0_HP5, p1_HP5, pl_HP5⟩ := HP.out _ hX5
        have hY5 := HYa4.out.trans (hb5.mono HYa4.out.size)
        have HY5 := Lib.hid hY5
        obtain ⟨t0_KYb5, t1_KYb5, t2_KYb5, t3_KYb5, t4_KYb5, tl_KYb5⟩ := KYb.out _ hY5
        have hZ5 := HZ0.out.trans (hb5.mono HZ0.out.size)
        have HZ5 := Lib.hid hZ5
        obtain ⟨t0_KZb5, t1_KZb5, t2_KZb5, t3_KZb5, t4_KZb5, tl_KZb5⟩ := KZb.out _ hZ5
        have z5 := hX5.size
        simp only [World.alloc, Array.size_push] at z5
        clear hb5 hX5 hY5 hZ5 k0_HBa4 k1_HBa4 k2_HBa4 k3_HBa4 k4_HBa4 kl_HBa4 p0_HPa4 p1_HPa4 pl_HPa4 t0_KYba4 t1_KYba4 t2_KYba4 t3_KYba4 t4_KYba4 tl_KYba4 t0_KZba4 t1_KZba4 t2_KZba4 t3_KZba4 t4_KZba4 tl_KZba4
        go_wp2_with fail
        with_reducible refine (HAw.out _ HX5.out).mono ?_
        rintro e u6 ⟨rfl, hb6⟩
        have hX6 := HX5.out.trans (hb6.mono HX5.out.size)
        have HX6 := Lib.hid hX6
        obtain ⟨k0_HB6, k1_HB6, k2_HB6, k3_HB6, k4_HB6, kl_HB6⟩ := HB.out _ hX6
        obtain ⟨p0_HP6, p1_HP6, pl_HP6⟩ := HP.out _ hX6
        have hY6 := HY5.out.trans (hb6.mono HY5.out.size)
        have HY6 := Lib.hid hY6
        obtain ⟨t0_KYb6, t1_KYb6, t2_KYb6, t3_KYb6, t4_KYb6, tl_KYb6⟩ := KYb.out _ hY6
        have hZ6 := HZ5.out.trans (hb6.mono HZ5.out.size)
        have HZ6 := Lib.hid hZ6
        obtain ⟨t0_KZb6, t1_KZb6, t2_KZb6, t3_KZb6, t4_KZb6, tl_KZb6⟩ := KZb.out _ hZ6
        have z6 := hX6.size
        simp only [World.alloc, Array.size_push] at z6
        clear hb6 hX6 hY6 hZ6 k0_HB5 k1_HB5 k2_HB5 k3_HB5 k4_HB5 kl_HB5 p0_HP5 p1_HP5 pl_HP5 t0_KYb5 t1_KYb5 t2_KYb5 t3_KYb5 t4_KYb5 tl_KYb5 t0_KZb5 t1_KZb5 t2_KZb5 t3_KZb5 t4_KZb5 tl_KZb5
        go_wp2
        go_ret
        exact ⟨rfl, HAL.out.trans (HX6.out.mono HAL.out.size)⟩

end Go.Proofs.YtihboibebhokbaaDoor.ruleNarrowsRight
