/- RuleNarrowMeans returns true at every line and every string and every pattern (the card: the variables that it lists hold what the program text lays). Conditions: none of its own. -/
import Derived.Test.YtihboibebhokbaaDoorCards
import Derived.Test.YtihboibebhokbaaDoorTie
import Derived.WalkKit
import Derived.ProofKit
import Derived.OpenShut
import Derived.ShutString
import Derived.Test.YtihboibebhokbaaDoorPatOpen
import Derived.Test.YtihboibebhokbaaDoorRulNar
namespace Go.Proofs.YtihboibebhokbaaDoor.ruleNarrowMeans
open Go.ChangeShapes Go.WideShapes Go.ChangeAt Go.RowKit
open Go.ChangeMaps (open_string shut_string)
set_option linter.unusedVariables false

set_option maxHeartbeats 16000000 in
theorem walk (w : World) (ex0 : Bool) (A0 : Option Addr) (xs0 : List ByteArray) (c0 : Nat) (b0 : Bool) (B0 : Option Addr) (ys0 : List ByteArray) (e0 : Nat) (f0 : Bool) (hr0 : RulR w ex0 A0 xs0 c0 b0 B0 ys0 e0 f0 ⟨ex0, ⟨bs xs0, b0⟩, ⟨bs ys0, f0⟩⟩) (hz0 : ∀ x ∈ xs0, x.size ≤ 140737488355000) (hy0 : ∀ x ∈ ys0, x.size ≤ 140737488355000) (A1 : Option Addr) (xs1 : List ByteArray) (c1 : Nat) (b1 : Bool) (hp1 : PatR w A1 xs1 c1 b1 ⟨bs xs1, b1⟩) (hz1 : ∀ x ∈ xs1, x.size ≤ 140737488355000) (s2 : ByteArray) (w2 : s2.size ≤ maxLen) (hm : MaxL w) :
    Calls Tryd.prog 10 #[rulV ex0 A0 xs0.length c0 b0 B0 ys0.length e0 f0, patV A1 xs1.length c1 b1, .string s2] w fun e w' => e = .returned (.bool true) ∧ Below w.heap.size w w' := by
  obtain ⟨W0, hW0⟩ : ∃ W0, W0 = (w.alloc (.cells #[.bool ex0, .slice A0 xs0.length c0, .bool b0, .slice B0 ys0.length e0, .bool f0] 39)).alloc (.cells #[.slice A1 xs1.length c1, .bool b1] 24) := ⟨_, rfl⟩
  have hal : Below w.heap.size w W0 := by rw [hW0]; exact ((Below.refl _ _).alloc (Nat.le_refl _) _).alloc (by simp) _
  have HX0 := Lib.hid (Below.refl W0.heap.size W0)
  have HAL := Lib.hid hal
  obtain ⟨hbx, hpx⟩ : RBox W0 w.heap.size ex0 A0 xs0.length c0 b0 B0 ys0.length e0 f0 ∧ PBox W0 (w.heap.size + 1) A1 xs1.length c1 b1 := by rw [hW0]; exact boxes2 ..
  have HB := Lib.hid (fun (w' : World) (hb : Below W0.heap.size W0 w') => hbx.keep hb)
  have HP := Lib.hid (fun (w' : World) (hb : Below W0.heap.size W0 w') => hpx.keep hb)
  have hm0 := hm.keep hal hm.size
  have HMX := Lib.hid (fun (w' : World) (hb : Below W0.heap.size W0 w') => hm0.keep hb hm0.size)
  have HAw := Lib.hid (fun (w' : World) (hb : Below W0.heap.size W0 w') => awake4_any w' (hm0.keep hb hm0.size))
  have HFt := Lib.hid (fun (w' : World) (hb : Below W0.heap.size W0 w') => fit_any ex0 A0 xs0 c0 b0 B0 ys0 e0 f0 w' (hr0.keep (hal.trans (hb.mono hal.size))) hz0 hy0)
  have HSm := Lib.hid (fun (w' : World) (hb : Below W0.heap.size W0 w') => small4_any A1 xs1 c1 b1 _ w' (hp1.keep (hal.trans (hb.mono hal.size))) (fun x hx => Nat.le_trans (hz1 x hx) (by decide)))
  generalize hfb : fitB xs0 ys0 = fb at HFt
  cases fb with
  | false =>
    clear hfb
    generalize xs0.length = nx at *
    generalize ys0.length = ny at *
    generalize xs1.length = np at *
    clear hbx hpx hr0 hp1 hz0 hy0 hz1
    subst hW0
    clear hal
    go_enter Tryd.func10, Tryd.ntmps10
    go_wp2_with fail
    with_reducible refine (HFt.out _ HX0.out).mono ?_
    rintro e u1 ⟨rfl, hb1⟩
    have hX1 := HX0.out.trans (hb1.mono HX0.out.size)
    have HX1 := Lib.hid hX1
    obtain ⟨k0_HB1, k1_HB1, k2_HB1, k3_HB1, k4_HB1, kl_HB1⟩ := HB.out _ hX1
    obtain ⟨p0_HP1, p1_HP1, pl_HP1⟩ := HP.out _ hX1
    have z1 := hX1.size
    simp only [World.alloc, Array.size_push] at z1
    clear hb1 hX1 
    go_wp2_with fail
    with_reducible refine (HAw.out _ HX1.out).mono ?_
    rintro e u2 ⟨rfl, hb2⟩
    have hX2 := HX1.out.trans (hb2.mono HX1.out.size)
    have HX2 := Lib.hid hX2
    obtain ⟨k0_HB2, k1_HB2, k2_HB2, k3_HB2, k4_HB2, kl_HB2⟩ := HB.out _ hX2
    obtain ⟨p0_HP2, p1_HP2, pl_HP2⟩ := HP.out _ hX2
    have z2 := hX2.size
    simp only [World.alloc, Array.size_push] at z2
    clear hb2 hX2 k0_HB1 k1_HB1 k2_HB1 k3_HB1 k4_HB1 kl_HB1 p0_HP1 p1_HP1 pl_HP1
    go_wp2
    go_ret
    exact ⟨rfl, HAL.out.trans (HX2.out.mono HAL.out.size)⟩
  | true =>
    unfold fitB at hfb
    rw [Bool.and_eq_true] at hfb
    obtain ⟨n1, g1, x1⟩ := small4_facts hfb.1
    obtain ⟨n2, g2, x2⟩ := small4_facts hfb.2
    clear hfb
    generalize hsb : small4B (bs xs1) = sb at HSm
    cases sb with
    | false =>
      clear hsb n1 n2 g1 g2 x1 x2
      generalize xs0.length = nx at *
      generalize ys0.length = ny at *
      generalize xs1.length = np at *
      clear hbx hpx hr0 hp1 hz0 hy0 hz1
      subst hW0
      clear hal
      go_enter Tryd.func10, Tryd.ntmps10
      go_wp2_with fail
      with_reducible refine (HFt.out _ HX0.out).mono ?_
      rintro e u1 ⟨rfl, hb1⟩
      have hX1 := HX0.out.trans (hb1.mono HX0.out.size)
      have HX1 := Lib.hid hX1
      obtain ⟨k0_HB1, k1_HB1, k2_HB1, k3_HB1, k4_HB1, kl_HB1⟩ := HB.out _ hX1
      obtain ⟨p0_HP1, p1_HP1, pl_HP1⟩ := HP.out _ hX1
      have z1 := hX1.size
      simp only [World.alloc, Array.size_push] at z1
      clear hb1 hX1 
      go_wp2_with fail
      with_reducible refine (HSm.out _ HX1.out).mono ?_
      rintro e u2 ⟨rfl, hb2⟩
      have hX2 := HX1.out.trans (hb2.mono HX1.out.size)
      have HX2 := Lib.hid hX2
      obtain ⟨k0_HB2, k1_HB2, k2_HB2, k3_HB2, k4_HB2, kl_HB2⟩ := HB.out _ hX2
      obtain ⟨p0_HP2, p1_HP2, pl_HP2⟩ := HP.out _ hX2
      have z2 := hX2.size
      simp only [World.alloc, Array.size_push] at z2
      clear hb2 hX2 k0_HB1 k1_HB1 k2_HB1 k3_HB1 k4_HB1 kl_HB1 p0_HP1 p1_HP1 pl_HP1
      go_wp2_with fail
      with_reducible refine (HAw.out _ HX2.out).mono ?_
      rintro e u3 ⟨rfl, hb3⟩
      have hX3 := HX2.out.trans (hb3.mono HX2.out.size)
      have HX3 := Lib.hid hX3
      obtain ⟨k0_HB3, k1_HB3, k2_HB3, k3_HB3, k4_HB3, kl_HB3⟩ := HB.out _ hX3
      obtain ⟨p0_HP3, p1_HP3, pl_HP3⟩ := HP.out _ hX3
      have z3 := hX3.size
      simp only [World.alloc, Array.size_push] at z3
      clear hb3 hX3 k0_HB2 k1_HB2 k2_HB2 k3_HB2 k4_HB2 kl_HB2 p0_HP2 p1_HP2 pl_HP2
      go_wp2
      go_ret
      exact ⟨rfl, HAL.out.trans (HX3.out.mono HAL.out.size)⟩
    | true =>
      obtain ⟨n3, g3, x3⟩ := small4_facts hsb
      clear hsb
      by_cases hl : s2.size ≤ 300
      rotate_left
      · have i1 : (300 : Int) < (s2.size : Int) := by omega
        clear n1 n2 n3 g1 g2 g3 x1 x2 x3
        generalize xs0.length = nx at *
        generalize ys0.length = ny at *
        generalize xs1.length = np at *
        clear hbx hpx hr0 hp1 hz0 hy0 hz1
        subst hW0
        clear hal
        go_enter Tryd.func10, Tryd.ntmps10
        go_wp2_with fail
        with_reducible refine (HFt.out _ HX0.out).mono ?_
        rintro e u1 ⟨rfl, hb1⟩
        have hX1 := HX0.out.trans (hb1.mono HX0.out.size)
        have HX1 := Lib.hid hX1
        obtain ⟨k0_HB1, k1_HB1, k2_HB1, k3_HB1, k4_HB1, kl_HB1⟩ := HB.out _ hX1
        obtain ⟨p0_HP1, p1_HP1, pl_HP1⟩ := HP.out _ hX1
        have z1 := hX1.size
        simp only [World.alloc, Array.size_push] at z1
        clear hb1 hX1 
        go_wp2_with fail
        with_reducible refine (HSm.out _ HX1.out).mono ?_
        rintro e u2 ⟨rfl, hb2⟩
        have hX2 := HX1.out.trans (hb2.mono HX1.out.size)
        have HX2 := Lib.hid hX2
        obtain ⟨k0_HB2, k1_HB2, k2_HB2, k3_HB2, k4_HB2, kl_HB2⟩ := HB.out _ hX2
        obtain ⟨p0_HP2, p1_HP2, pl_HP2⟩ := HP.out _ hX2
        have z2 := hX2.size
        simp only [World.alloc, Array.size_push] at z2
        clear hb2 hX2 k0_HB1 k1_HB1 k2_HB1 k3_HB1 k4_HB1 kl_HB1 p0_HP1 p1_HP1 pl_HP1
        go_wp2_with fail
        with_reducible refine (HAw.out _ HX2.out).mono ?_
        rintro e u3 ⟨rfl, hb3⟩
        have hX3 := HX2.out.trans (hb3.mono HX2.out.size)
        have HX3 := Lib.hid hX3
        obtain ⟨k0_HB3, k1_HB3, k2_HB3, k3_HB3, k4_HB3, kl_HB3⟩ := HB.out _ hX3
        obtain ⟨p0_HP3, p1_HP3, pl_HP3⟩ := HP.out _ hX3
        have z3 := hX3.size
        simp only [World.alloc, Array.size_push] at z3
        clear hb3 hX3 k0_HB2 k1_HB2 k2_HB2 k3_HB2 k4_HB2 kl_HB2 p0_HP2 p1_HP2 pl_HP2
        go_wp2
        go_ret
        exact ⟨rfl, HAL.out.trans (HX3.out.mono HAL.out.size)⟩
      have i1 : ¬ (300 : Int) < (s2.size : Int) := by omega
      obtain ⟨r, hrr⟩ : ∃ r : Pt.Rul, r = ⟨ex0, ⟨bs xs0, b0⟩, ⟨bs ys0, f0⟩⟩ := ⟨_, rfl⟩
      obtain ⟨p, hpp⟩ : ∃ p : Pt.Pat, p = ⟨bs xs1, b1⟩ := ⟨_, rfl⟩
      have hsl : Pt.szs 300 r.left := by rw [hrr]; exact g1
      have hsr : Pt.szs 300 r.right := by rw [hrr]; exact g2
      have hsp : Pt.szs 300 p := by rw [hpp]; exact g3
      rw [← hrr] at hr0
      rw [← hpp] at hp1
      have HNL := Lib.hid (fun (w' : World) (hb : Below W0.heap.size W0 w') => nleft_any ex0 A0 xs0 c0 b0 B0 ys0 e0 f0 r A1 xs1 c1 b1 p w' (hr0.keep (hal.trans (hb.mono hal.size))) (hp1.keep (hal.trans (hb.mono hal.size))) (hsl.more (by decide)) (hsr.more (by decide)) (hsp.more (by decide)))
      have hsy : ∀ y ∈ ys0, y.size ≤ 100000 := fun x hx => Nat.le_trans (x2 x hx) (by decide)
      have HF1 := Lib.hid (fun (w' : World) (hb : Below W0.heap.size W0 w') => fwd_any ex0 A0 xs0 c0 b0 B0 ys0 e0 f0 r s2 w' (hr0.keep (hal.trans (hb.mono hal.size))) hsy (by omega) (hm0.keep hb hm0.size))
      have HHs := Lib.hid (fun (w' : World) (hb : Below W0.heap.size W0 w') => has_any A1 xs1 c1 b1 p s2 w' (hp1.keep (hal.trans (hb.mono hal.size))) (by omega) (hm0.keep hb hm0.size))
      have HF2 := Lib.hid (fun (n : Pt.Rul) (hn : Pt.nleft r p = some n) (ex5 : Bool) (C5 : Option Addr) (zs5 : List ByteArray) (cz5 : Nat) (g5 : Bool) (D5 : Option Addr) (ws5 : List ByteArray) (dz5 : Nat) (h5 : Bool) (w' : World) (hb : Below W0.heap.size W0 w') (hq : RulR w' ex5 C5 zs5 cz5 g5 D5 ws5 dz5 h5 n) => fwd_any ex5 C5 zs5 cz5 g5 D5 ws5 dz5 h5 n s2 w' hq (fun y hy => by
        have h1 := (Pt.nleft_sizes hn hsl hsp hsr).2 y.data.toList (by rw [← hq.right.parts]; exact List.mem_map_of_mem hy)
        rw [Lib.size_eq]; omega) (by omega) (hm0.keep hb hm0.size))
      have hsay := fun (he : Pt.nleftE r p = 0) => Pt.nleft_says he s2.data.toList
      clear n1 n2 n3 g1 g2 g3 x1 x2 x3 hsl hsr hsp hrr hpp hsy
      generalize hk : Pt.nleftE r p = k at *
      clear hk
      by_cases he : k = 0
      rotate_left
      · have q1 : ((k : Int) == 0) = false := by rw [beq_eq_false_iff_ne]; omega
        have q2 : ((k : Int) != 0) = true := by rw [bne, q1]; rfl
        clear he hsay HF2
        generalize Pt.nleft r p = o at *
        generalize xs0.length = nx at *
        generalize ys0.length = ny at *
        generalize xs1.length = np at *
        clear hbx hpx hr0 hp1 hz0 hy0 hz1
        subst hW0
        clear hal
        go_enter Tryd.func10, Tryd.ntmps10
        go_wp2_with fail
        with_reducible refine (HFt.out _ HX0.out).mono ?_
        rintro e u1 ⟨rfl, hb1⟩
        have hX1 := HX0.out.trans (hb1.mono HX0.out.size)
        have HX1 := Lib.hid hX1
        obtain ⟨k0_HB1, k1_HB1, k2_HB1, k3_HB1, k4_HB1, kl_HB1⟩ := HB.out _ hX1
        obtain ⟨p0_HP1, p1_HP1, pl_HP1⟩ := HP.out _ hX1
        have z1 := hX1.size
        simp only [World.alloc, Array.size_push] at z1
        clear hb1 hX1 
        go_wp2_with fail
        with_reducible refine (HSm.out _ HX1.out).mono ?_
        rintro e u2 ⟨rfl, hb2⟩
        have hX2 := HX1.out.trans (hb2.mono HX1.out.size)
        have HX2 := Lib.hid hX2
        obtain ⟨k0_HB2, k1_HB2, k2_HB2, k3_HB2, k4_HB2, kl_HB2⟩ := HB.out _ hX2
        obtain ⟨p0_HP2, p1_HP2, pl_HP2⟩ := HP.out _ hX2
        have z2 := hX2.size
        simp only [World.alloc, Array.size_push] at z2
        clear hb2 hX2 k0_HB1 k1_HB1 k2_HB1 k3_HB1 k4_HB1 kl_HB1 p0_HP1 p1_HP1 pl_HP1
        go_wp2_with fail
        with_reducible refine (HNL.out _ HX2.out).mono ?_
        rintro e u3 ⟨ex5, C5, zs5, cz5, g5, D5, ws5, dz5, h5, rfl, hrr5, hb3⟩
        have hX3 := HX2.out.trans (hb3.mono HX2.out.size)
        have HX3 := Lib.hid hX3
        obtain ⟨k0_HB3, k1_HB3, k2_HB3, k3_HB3, k4_HB3, kl_HB3⟩ := HB.out _ hX3
        obtain ⟨p0_HP3, p1_HP3, pl_HP3⟩ := HP.out _ hX3
        have z3 := hX3.size
        simp only [World.alloc, Array.size_push] at z3
        clear hrr5
        clear hb3 hX3 k0_HB2 k1_HB2 k2_HB2 k3_HB2 k4_HB2 kl_HB2 p0_HP2 p1_HP2 pl_HP2
        have ha3 : Below u3.heap.size u3 (u3.alloc (.cells #[.bool ex5, .slice C5 zs5.length cz5, .bool g5, .slice D5 ws5.length dz5, .bool h5] 39)) := (Below.refl _ _).alloc (Nat.le_refl _) _
        have hXa3 := HX3.out.trans (ha3.mono HX3.out.size)
        have HXa3 := Lib.hid hXa3
        obtain ⟨k0_HBa3, k1_HBa3, k2_HBa3, k3_HBa3, k4_HBa3, kl_HBa3⟩ := HB.out _ hXa3
        obtain ⟨p0_HPa3, p1_HPa3, pl_HPa3⟩ := HP.out _ hXa3
        have za3 := hXa3.size
        simp only [World.alloc, Array.size_push] at za3
        have KYb := Lib.hid (fun (w' : World) (hb : Below (u3.alloc (.cells #[.bool ex5, .slice C5 zs5.length cz5, .bool g5, .slice D5 ws5.length dz5, .bool h5] 39)).heap.size (u3.alloc (.cells #[.bool ex5, .slice C5 zs5.length cz5, .bool g5, .slice D5 ws5.length dz5, .bool h5] 39)) w') => (RBox.new u3 ex5 C5 zs5.length cz5 g5 D5 ws5.length dz5 h5).keep hb)
        have HY0 := Lib.hid (Below.refl (u3.alloc (.cells #[.bool ex5, .slice C5 zs5.length cz5, .bool g5, .slice D5 ws5.length dz5, .bool h5] 39)).heap.size (u3.alloc (.cells #[.bool ex5, .slice C5 zs5.length cz5, .bool g5, .slice D5 ws5.length dz5, .bool h5] 39)))
        obtain ⟨t0_KYba3, t1_KYba3, t2_KYba3, t3_KYba3, t4_KYba3, tl_KYba3⟩ := KYb.out _ HY0.out
        clear hXa3 k0_HB3 k1_HB3 k2_HB3 k3_HB3 k4_HB3 kl_HB3 p0_HP3 p1_HP3 pl_HP3
        generalize o.isSome = j at *
        go_wp2_with fail
        with_reducible refine (HAw.out _ HXa3.out).mono ?_
        rintro e u4 ⟨rfl, hb4⟩
        have hX4 := HXa3.out.trans (hb4.mono HXa3.out.size)
        have HX4 := Lib.hid hX4
        obtain ⟨k0_HB4, k1_HB4, k2_HB4, k3_HB4, k4_HB4, kl_HB4⟩ := HB.out _ hX4
        obtain ⟨p0_HP4, p1_HP4, pl_HP4⟩ := HP.out _ hX4
        have hY4 := HY0.out.trans (hb4.mono HY0.out.size)
        have HY4 := Lib.hid hY4
        obtain ⟨t0_KYb4, t1_KYb4, t2_KYb4, t3_KYb4, t4_KYb4, tl_KYb4⟩ := KYb.out _ hY4
        have z4 := hX4.size
        simp only [World.alloc, Array.size_push] at z4
        clear hb4 hX4 hY4 k0_HBa3 k1_HBa3 k2_HBa3 k3_HBa3 k4_HBa3 kl_HBa3 p0_HPa3 p1_HPa3 pl_HPa3 t0_KYba3 t1_KYba3 t2_KYba3 t3_KYba3 t4_KYba3 tl_KYba3
        go_wp2
        go_ret
        exact ⟨rfl, HAL.out.trans (HX4.out.mono HAL.out.size)⟩
      subst he
      have hsay := hsay rfl
      cases hf1 : Pt.fwd r s2.data.toList with
      | none =>
        rw [hf1] at HF1 hsay
        have hsay2 : (Pt.nleft r p).bind (fun n => Pt.fwd n s2.data.toList) = none := by rw [hsay]; split <;> rfl
        clear hsay HHs
        have hsay := hsay2
        clear hsay2
        cases hn : Pt.nleft r p with
        | none =>
          rw [hn] at HNL
          clear hsay HF2 hn hf1
          generalize xs0.length = nx at *
          generalize ys0.length = ny at *
          generalize xs1.length = np at *
          clear hbx hpx hr0 hp1 hz0 hy0 hz1
          subst hW0
          clear hal
          go_enter Tryd.func10, Tryd.ntmps10
          go_wp2_with fail
          with_reducible refine (HFt.out _ HX0.out).mono ?_
          rintro e u1 ⟨rfl, hb1⟩
          have hX1 := HX0.out.trans (hb1.mono HX0.out.size)
          have HX1 := Lib.hid hX1
          obtain ⟨k0_HB1, k1_HB1, k2_HB1, k3_HB1, k4_HB1, kl_HB1⟩ := HB.out _ hX1
          obtain ⟨p0_HP1, p1_HP1, pl_HP1⟩ := HP.out _ hX1
          have z1 := hX1.size
          simp only [World.alloc, Array.size_push] at z1
          clear hb1 hX1 
          go_wp2_with fail
          with_reducible refine (HSm.out _ HX1.out).mono ?_
          rintro e u2 ⟨rfl, hb2⟩
          have hX2 := HX1.out.trans (hb2.mono HX1.out.size)
          have HX2 := Lib.hid hX2
          obtain ⟨k0_HB2, k1_HB2, k2_HB2, k3_HB2, k4_HB2, kl_HB2⟩ := HB.out _ hX2
          obtain ⟨p0_HP2, p1_HP2, pl_HP2⟩ := HP.out _ hX2
          have z2 := hX2.size
          simp only [World.alloc, Array.size_push] at z2
          clear hb2 hX2 k0_HB1 k1_HB1 k2_HB1 k3_HB1 k4_HB1 kl_HB1 p0_HP1 p1_HP1 pl_HP1
          go_wp2_with fail
          with_reducible refine (HNL.out _ HX2.out).mono ?_
          rintro e u3 ⟨ex5, C5, zs5, cz5, g5, D5, ws5, dz5, h5, rfl, hrr5, hb3⟩
          have hX3 := HX2.out.trans (hb3.mono HX2.out.size)
          have HX3 := Lib.hid hX3
          obtain ⟨k0_HB3, k1_HB3, k2_HB3, k3_HB3, k4_HB3, kl_HB3⟩ := HB.out _ hX3
          obtain ⟨p0_HP3, p1_HP3, pl_HP3⟩ := HP.out _ hX3
          have z3 := hX3.size
          simp only [World.alloc, Array.size_push] at z3
          clear hrr5
          clear hb3 hX3 k0_HB2 k1_HB2 k2_HB2 k3_HB2 k4_HB2 kl_HB2 p0_HP2 p1_HP2 pl_HP2
          have ha3 : Below u3.heap.size u3 (u3.alloc (.cells #[.bool ex5, .slice C5 zs5.length cz5, .bool g5, .slice D5 ws5.length dz5, .bool h5] 39)) := (Below.refl _ _).alloc (Nat.le_refl _) _
          have hXa3 := HX3.out.trans (ha3.mono HX3.out.size)
          have HXa3 := Lib.hid hXa3
          obtain ⟨k0_HBa3, k1_HBa3, k2_HBa3, k3_HBa3, k4_HBa3, kl_HBa3⟩ := HB.out _ hXa3
          obtain ⟨p0_HPa3, p1_HPa3, pl_HPa3⟩ := HP.out _ hXa3
          have za3 := hXa3.size
          simp only [World.alloc, Array.size_push] at za3
          have KYb := Lib.hid (fun (w' : World) (hb : Below (u3.alloc (.cells #[.bool ex5, .slice C5 zs5.length cz5, .bool g5, .slice D5 ws5.length dz5, .bool h5] 39)).heap.size (u3.alloc (.cells #[.bool ex5, .slice C5 zs5.length cz5, .bool g5, .slice D5 ws5.length dz5, .bool h5] 39)) w') => (RBox.new u3 ex5 C5 zs5.length cz5 g5 D5 ws5.length dz5 h5).keep hb)
          have HY0 := Lib.hid (Below.refl (u3.alloc (.cells #[.bool ex5, .slice C5 zs5.length cz5, .bool g5, .slice D5 ws5.length dz5, .bool h5] 39)).heap.size (u3.alloc (.cells #[.bool ex5, .slice C5 zs5.length cz5, .bool g5, .slice D5 ws5.length dz5, .bool h5] 39)))
          obtain ⟨t0_KYba3, t1_KYba3, t2_KYba3, t3_KYba3, t4_KYba3, tl_KYba3⟩ := KYb.out _ HY0.out
          clear hXa3 k0_HB3 k1_HB3 k2_HB3 k3_HB3 k4_HB3 kl_HB3 p0_HP3 p1_HP3 pl_HP3
          go_wp2_with fail
          with_reducible refine (HF1.out _ HXa3.out).mono ?_
          rintro e u4 ⟨rfl, hb4⟩
          have hX4 := HXa3.out.trans (hb4.mono HXa3.out.size)
          have HX4 := Lib.hid hX4
          obtain ⟨k0_HB4, k1_HB4, k2_HB4, k3_HB4, k4_HB4, kl_HB4⟩ := HB.out _ hX4
          obtain ⟨p0_HP4, p1_HP4, pl_HP4⟩ := HP.out _ hX4
          have hY4 := HY0.out.trans (hb4.mono HY0.out.size)
          have HY4 := Lib.hid hY4
          obtain ⟨t0_KYb4, t1_KYb4, t2_KYb4, t3_KYb4, t4_KYb4, tl_KYb4⟩ := KYb.out _ hY4
          have z4 := hX4.size
          simp only [World.alloc, Array.size_push] at z4
          clear hb4 hX4 hY4 k0_HBa3 k1_HBa3 k2_HBa3 k3_HBa3 k4_HBa3 kl_HBa3 p0_HPa3 p1_HPa3 pl_HPa3 t0_KYba3 t1_KYba3 t2_KYba3 t3_KYba3 t4_KYba3 tl_KYba3
          go_wp2_with fail
          with_reducible refine (HAw.out _ HX4.out).mono ?_
          rintro e u5 ⟨rfl, hb5⟩
          have hX5 := HX4.out.trans (hb5.mono HX4.out.size)
          have HX5 := Lib.hid hX5
          obtain ⟨k0_HB5, k1_HB5, k2_HB5, k3_HB5, k4_HB5, kl_HB5⟩ := HB.out _ hX5
          obtain ⟨p0_HP5, p1_HP5, pl_HP5⟩ := HP.out _ hX5
          have hY5 := HY4.out.trans (hb5.mono HY4.out.size)
          have HY5 := Lib.hid hY5
          obtain ⟨t0_KYb5, t1_KYb5, t2_KYb5, t3_KYb5, t4_KYb5, tl_KYb5⟩ := KYb.out _ hY5
          have z5 := hX5.size
          simp only [World.alloc, Array.size_push] at z5
          clear hb5 hX5 hY5 k0_HB4 k1_HB4 k2_HB4 k3_HB4 k4_HB4 kl_HB4 p0_HP4 p1_HP4 pl_HP4 t0_KYb4 t1_KYb4 t2_KYb4 t3_KYb4 t4_KYb4 tl_KYb4
          go_wp2
          go_ret
          exact ⟨rfl, HAL.out.trans (HX5.out.mono HAL.out.size)⟩
        | some n =>
          rw [hn] at HNL
          have HF3 := Lib.hid (HF2.out n hn)
          rw [hn] at hsay
          simp only [Option.bind_some] at hsay
          rw [hsay] at HF3
          clear hsay HF2 hn hf1
          generalize xs0.length = nx at *
          generalize ys0.length = ny at *
          generalize xs1.length = np at *
          clear hbx hpx hr0 hp1 hz0 hy0 hz1
          subst hW0
          clear hal
          go_enter Tryd.func10, Tryd.ntmps10
          go_wp2_with fail
          with_reducible refine (HFt.out _ HX0.out).mono ?_
          rintro e u1 ⟨rfl, hb1⟩
          have hX1 := HX0.out.trans (hb1.mono HX0.out.size)
          have HX1 := Lib.hid hX1
          obtain ⟨k0_HB1, k1_HB1, k2_HB1, k3_HB1, k4_HB1, kl_HB1⟩ := HB.out _ hX1
          obtain ⟨p0_HP1, p1_HP1, pl_HP1⟩ := HP.out _ hX1
          have z1 := hX1.size
          simp only [World.alloc, Array.size_push] at z1
          clear hb1 hX1 
          go_wp2_with fail
          with_reducible refine (HSm.out _ HX1.out).mono ?_
          rintro e u2 ⟨rfl, hb2⟩
          have hX2 := HX1.out.trans (hb2.mono HX1.out.size)
          have HX2 := Lib.hid hX2
          obtain ⟨k0_HB2, k1_HB2, k2_HB2, k3_HB2, k4_HB2, kl_HB2⟩ := HB.out _ hX2
          obtain ⟨p0_HP2, p1_HP2, pl_HP2⟩ := HP.out _ hX2
          have z2 := hX2.size
          simp only [World.alloc, Array.size_push] at z2
          clear hb2 hX2 k0_HB1 k1_HB1 k2_HB1 k3_HB1 k4_HB1 kl_HB1 p0_HP1 p1_HP1 pl_HP1
          go_wp2_with fail
          with_reducible refine (HNL.out _ HX2.out).mono ?_
          rintro e u3 ⟨ex5, C5, zs5, cz5, g5, D5, ws5, dz5, h5, rfl, hrr5, hb3⟩
          have hX3 := HX2.out.trans (hb3.mono HX2.out.size)
          have HX3 := Lib.hid hX3
          obtain ⟨k0_HB3, k1_HB3, k2_HB3, k3_HB3, k4_HB3, kl_HB3⟩ := HB.out _ hX3
          obtain ⟨p0_HP3, p1_HP3, pl_HP3⟩ := HP.out _ hX3
          have z3 := hX3.size
          simp only [World.alloc, Array.size_push] at z3
          have HR5 := Lib.hid hrr5
          clear hrr5
          clear hb3 hX3 k0_HB2 k1_HB2 k2_HB2 k3_HB2 k4_HB2 kl_HB2 p0_HP2 p1_HP2 pl_HP2
          have ha3 : Below u3.heap.size u3 (u3.alloc (.cells #[.bool ex5, .slice C5 zs5.length cz5, .bool g5, .slice D5 ws5.length dz5, .bool h5] 39)) := (Below.refl _ _).alloc (Nat.le_refl _) _
          have hXa3 := HX3.out.trans (ha3.mono HX3.out.size)
          have HXa3 := Lib.hid hXa3
          obtain ⟨k0_HBa3, k1_HBa3, k2_HBa3, k3_HBa3, k4_HBa3, kl_HBa3⟩ := HB.out _ hXa3
          obtain ⟨p0_HPa3, p1_HPa3, pl_HPa3⟩ := HP.out _ hXa3
          have za3 := hXa3.size
          simp only [World.alloc, Array.size_push] at za3
          have KYb := Lib.hid (fun (w' : World) (hb : Below (u3.alloc (.cells #[.bool ex5, .slice C5 zs5.length cz5, .bool g5, .slice D5 ws5.length dz5, .bool h5] 39)).heap.size (u3.alloc (.cells #[.bool ex5, .slice C5 zs5.length cz5, .bool g5, .slice D5 ws5.length dz5, .bool h5] 39)) w') => (RBox.new u3 ex5 C5 zs5.length cz5 g5 D5 ws5.length dz5 h5).keep hb)
          have HY0 := Lib.hid (Below.refl (u3.alloc (.cells #[.bool ex5, .slice C5 zs5.length cz5, .bool g5, .slice D5 ws5.length dz5, .bool h5] 39)).heap.size (u3.alloc (.cells #[.bool ex5, .slice C5 zs5.length cz5, .bool g5, .slice D5 ws5.length dz5, .bool h5] 39)))
          obtain ⟨t0_KYba3, t1_KYba3, t2_KYba3, t3_KYba3, t4_KYba3, tl_KYba3⟩ := KYb.out _ HY0.out
          clear hXa3 k0_HB3 k1_HB3 k2_HB3 k3_HB3 k4_HB3 kl_HB3 p0_HP3 p1_HP3 pl_HP3
          have HR5a := Lib.hid (show RulR _ ex5 C5 zs5 cz5 g5 D5 ws5 dz5 h5 n from HR5.out.keep ((Below.refl _ _).alloc (Nat.le_refl _) (.cells #[.bool ex5, .slice C5 zs5.length cz5, .bool g5, .slice D5 ws5.length dz5, .bool h5] 39)))
          go_wp2_with fail
          with_reducible refine (HF1.out _ HXa3.out).mono ?_
          rintro e u4 ⟨rfl, hb4⟩
          have hX4 := HXa3.out.trans (hb4.mono HXa3.out.size)
          have HX4 := Lib.hid hX4
          obtain ⟨k0_HB4, k1_HB4, k2_HB4, k3_HB4, k4_HB4, kl_HB4⟩ := HB.out _ hX4
          obtain ⟨p0_HP4, p1_HP4, pl_HP4⟩ := HP.out _ hX4
          have hY4 := HY0.out.trans (hb4.mono HY0.out.size)
          have HY4 := Lib.hid hY4
          obtain ⟨t0_KYb4, t1_KYb4, t2_KYb4, t3_KYb4, t4_KYb4, tl_KYb4⟩ := KYb.out _ hY4
          have z4 := hX4.size
          simp only [World.alloc, Array.size_push] at z4
          clear hb4 hX4 hY4 k0_HBa3 k1_HBa3 k2_HBa3 k3_HBa3 k4_HBa3 kl_HBa3 p0_HPa3 p1_HPa3 pl_HPa3 t0_KYba3 t1_KYba3 t2_KYba3 t3_KYba3 t4_KYba3 tl_KYba3
          go_wp2_with fail
          with_reducible refine (HF3.out ex5 C5 zs5 cz5 g5 D5 ws5 dz5 h5 _ HX4.out (HR5a.out.keep HY4.out)).mono ?_
          rintro e u5 ⟨rfl, hb5⟩
          have hX5 := HX4.out.trans (hb5.mono HX4.out.size)
          have HX5 := Lib.hid hX5
          obtain ⟨k0_HB5, k1_HB5, k2_HB5, k3_HB5, k4_HB5, kl_HB5⟩ := HB.out _ hX5
          obtain ⟨p0_HP5, p1_HP5, pl_HP5⟩ := HP.out _ hX5
          have hY5 := HY4.out.trans (hb5.mono HY4.out.size)
          have HY5 := Lib.hid hY5
          obtain ⟨t0_KYb5, t1_KYb5, t2_KYb5, t3_KYb5, t4_KYb5, tl_KYb5⟩ := KYb.out _ hY5
          have z5 := hX5.size
          simp only [World.alloc, Array.size_push] at z5
          clear hb5 hX5 hY5 k0_HB4 k1_HB4 k2_HB4 k3_HB4 k4_HB4 kl_HB4 p0_HP4 p1_HP4 pl_HP4 t0_KYb4 t1_KYb4 t2_KYb4 t3_KYb4 t4_KYb4 tl_KYb4
          go_wp2_with fail
          with_reducible refine (HAw.out _ HX5.out).mono ?_
          rintro e u6 ⟨rfl, hb6⟩
          have hX6 := HX5.out.trans (hb6.mono HX5.out.size)
          have HX6 := Lib.hid hX6
          obtain ⟨k0_HB6, k1_HB6, k2_HB6, k3_HB6, k4_HB6, kl_HB6⟩ := HB.out _ hX6
          obtain ⟨p0_HP6, p1_HP6, pl_HP6⟩ := HP.out _ hX6
          have hY6 := HY5.out.trans (hb6.mono HY5.out.size)
          have HY6 := Lib.hid hY6
          obtain ⟨t0_KYb6, t1_KYb6, t2_KYb6, t3_KYb6, t4_KYb6, tl_KYb6⟩ := KYb.out _ hY6
          have z6 := hX6.size
          simp only [World.alloc, Array.size_push] at z6
          clear hb6 hX6 hY6 k0_HB5 k1_HB5 k2_HB5 k3_HB5 k4_HB5 kl_HB5 p0_HP5 p1_HP5 pl_HP5 t0_KYb5 t1_KYb5 t2_KYb5 t3_KYb5 t4_KYb5 tl_KYb5
          go_wp2
          go_ret
          exact ⟨rfl, HAL.out.trans (HX6.out.mono HAL.out.size)⟩
      | some t =>
        rw [hf1] at HF1 hsay
        generalize hmp : (Pt.matchP p s2.data.toList).isSome = mb at HHs hsay
        cases mb with
        | false =>
          simp only [Bool.false_eq_true, if_false] at hsay
          cases hn : Pt.nleft r p with
          | none =>
            rw [hn] at HNL
            clear hsay HF2 hn hf1 hmp
            generalize xs0.length = nx at *
            generalize ys0.length = ny at *
            generalize xs1.length = np at *
            clear hbx hpx hr0 hp1 hz0 hy0 hz1
            subst hW0
            clear hal
            go_enter Tryd.func10, Tryd.ntmps10
            go_wp2_with fail
            with_reducible refine (HFt.out _ HX0.out).mono ?_
            rintro e u1 ⟨rfl, hb1⟩
            have hX1 := HX0.out.trans (hb1.mono HX0.out.size)
            have HX1 := Lib.hid hX1
            obtain ⟨k0_HB1, k1_HB1, k2_HB1, k3_HB1, k4_HB1, kl_HB1⟩ := HB.out _ hX1
            obtain ⟨p0_HP1, p1_HP1, pl_HP1⟩ := HP.out _ hX1
            have z1 := hX1.size
            simp only [World.alloc, Array.size_push] at z1
            clear hb1 hX1 
            go_wp2_with fail
            with_reducible refine (HSm.out _ HX1.out).mono ?_
            rintro e u2 ⟨rfl, hb2⟩
            have hX2 := HX1.out.trans (hb2.mono HX1.out.size)
            have HX2 := Lib.hid hX2
            obtain ⟨k0_HB2, k1_HB2, k2_HB2, k3_HB2, k4_HB2, kl_HB2⟩ := HB.out _ hX2
            obtain ⟨p0_HP2, p1_HP2, pl_HP2⟩ := HP.out _ hX2
            have z2 := hX2.size
            simp only [World.alloc, Array.size_push] at z2
            clear hb2 hX2 k0_HB1 k1_HB1 k2_HB1 k3_HB1 k4_HB1 kl_HB1 p0_HP1 p1_HP1 pl_HP1
            go_wp2_with fail
            with_reducible refine (HNL.out _ HX2.out).mono ?_
            rintro e u3 ⟨ex5, C5, zs5, cz5, g5, D5, ws5, dz5, h5, rfl, hrr5, hb3⟩
            have hX3 := HX2.out.trans (hb3.mono HX2.out.size)
            have HX3 := Lib.hid hX3
            obtain ⟨k0_HB3, k1_HB3, k2_HB3, k3_HB3, k4_HB3, kl_HB3⟩ := HB.out _ hX3
            obtain ⟨p0_HP3, p1_HP3, pl_HP3⟩ := HP.out _ hX3
            have z3 := hX3.size
            simp only [World.alloc, Array.size_push] at z3
            clear hrr5
            clear hb3 hX3 k0_HB2 k1_HB2 k2_HB2 k3_HB2 k4_HB2 kl_HB2 p0_HP2 p1_HP2 pl_HP2
            have ha3 : Below u3.heap.size u3 (u3.alloc (.cells #[.bool ex5, .slice C5 zs5.length cz5, .bool g5, .slice D5 ws5.length dz5, .bool h5] 39)) := (Below.refl _ _).alloc (Nat.le_refl _) _
            have hXa3 := HX3.out.trans (ha3.mono HX3.out.size)
            have HXa3 := Lib.hid hXa3
            obtain ⟨k0_HBa3, k1_HBa3, k2_HBa3, k3_HBa3, k4_HBa3, kl_HBa3⟩ := HB.out _ hXa3
            obtain ⟨p0_HPa3, p1_HPa3, pl_HPa3⟩ := HP.out _ hXa3
            have za3 := hXa3.size
            simp only [World.alloc, Array.size_push] at za3
            have KYb := Lib.hid (fun (w' : World) (hb : Below (u3.alloc (.cells #[.bool ex5, .slice C5 zs5.length cz5, .bool g5, .slice D5 ws5.length dz5, .bool h5] 39)).heap.size (u3.alloc (.cells #[.bool ex5, .slice C5 zs5.length cz5, .bool g5, .slice D5 ws5.length dz5, .bool h5] 39)) w') => (RBox.new u3 ex5 C5 zs5.length cz5 g5 D5 ws5.length dz5 h5).keep hb)
            have HY0 := Lib.hid (Below.refl (u3.alloc (.cells #[.bool ex5, .slice C5 zs5.length cz5, .bool g5, .slice D5 ws5.length dz5, .bool h5] 39)).heap.size (u3.alloc (.cells #[.bool ex5, .slice C5 zs5.length cz5, .bool g5, .slice D5 ws5.length dz5, .bool h5] 39)))
            obtain ⟨t0_KYba3, t1_KYba3, t2_KYba3, t3_KYba3, t4_KYba3, tl_KYba3⟩ := KYb.out _ HY0.out
            clear hXa3 k0_HB3 k1_HB3 k2_HB3 k3_HB3 k4_HB3 kl_HB3 p0_HP3 p1_HP3 pl_HP3
            go_wp2_with fail
            with_reducible refine (HF1.out _ HXa3.out).mono ?_
            rintro e u4 ⟨rfl, hb4⟩
            have hX4 := HXa3.out.trans (hb4.mono HXa3.out.size)
            have HX4 := Lib.hid hX4
            obtain ⟨k0_HB4, k1_HB4, k2_HB4, k3_HB4, k4_HB4, kl_HB4⟩ := HB.out _ hX4
            obtain ⟨p0_HP4, p1_HP4, pl_HP4⟩ := HP.out _ hX4
            have hY4 := HY0.out.trans (hb4.mono HY0.out.size)
            have HY4 := Lib.hid hY4
            obtain ⟨t0_KYb4, t1_KYb4, t2_KYb4, t3_KYb4, t4_KYb4, tl_KYb4⟩ := KYb.out _ hY4
            have z4 := hX4.size
            simp only [World.alloc, Array.size_push] at z4
            clear hb4 hX4 hY4 k0_HBa3 k1_HBa3 k2_HBa3 k3_HBa3 k4_HBa3 kl_HBa3 p0_HPa3 p1_HPa3 pl_HPa3 t0_KYba3 t1_KYba3 t2_KYba3 t3_KYba3 t4_KYba3 tl_KYba3
            go_wp2_with fail
            with_reducible refine (HHs.out _ HX4.out).mono ?_
            rintro e u5 ⟨rfl, hb5⟩
            have hX5 := HX4.out.trans (hb5.mono HX4.out.size)
            have HX5 := Lib.hid hX5
            obtain ⟨k0_HB5, k1_HB5, k2_HB5, k3_HB5, k4_HB5, kl_HB5⟩ := HB.out _ hX5
            obtain ⟨p0_HP5, p1_HP5, pl_HP5⟩ := HP.out _ hX5
            have hY5 := HY4.out.trans (hb5.mono HY4.out.size)
            have HY5 := Lib.hid hY5
            obtain ⟨t0_KYb5, t1_KYb5, t2_KYb5, t3_KYb5, t4_KYb5, tl_KYb5⟩ := KYb.out _ hY5
            have z5 := hX5.size
            simp only [World.alloc, Array.size_push] at z5
            clear hb5 hX5 hY5 k0_HB4 k1_HB4 k2_HB4 k3_HB4 k4_HB4 kl_HB4 p0_HP4 p1_HP4 pl_HP4 t0_KYb4 t1_KYb4 t2_KYb4 t3_KYb4 t4_KYb4 tl_KYb4
            go_wp2_with fail
            with_reducible refine (HAw.out _ HX5.out).mono ?_
            rintro e u6 ⟨rfl, hb6⟩
            have hX6 := HX5.out.trans (hb6.mono HX5.out.size)
            have HX6 := Lib.hid hX6
            obtain ⟨k0_HB6, k1_HB6, k2_HB6, k3_HB6, k4_HB6, kl_HB6⟩ := HB.out _ hX6
            obtain ⟨p0_HP6, p1_HP6, pl_HP6⟩ := HP.out _ hX6
            have hY6 := HY5.out.trans (hb6.mono HY5.out.size)
            have HY6 := Lib.hid hY6
            obtain ⟨t0_KYb6, t1_KYb6, t2_KYb6, t3_KYb6, t4_KYb6, tl_KYb6⟩ := KYb.out _ hY6
            have z6 := hX6.size
            simp only [World.alloc, Array.size_push] at z6
            clear hb6 hX6 hY6 k0_HB5 k1_HB5 k2_HB5 k3_HB5 k4_HB5 kl_HB5 p0_HP5 p1_HP5 pl_HP5 t0_KYb5 t1_KYb5 t2_KYb5 t3_KYb5 t4_KYb5 tl_KYb5
            go_wp2
            go_ret
            exact ⟨rfl, HAL.out.trans (HX6.out.mono HAL.out.size)⟩
          | some n =>
            rw [hn] at HNL
            have HF3 := Lib.hid (HF2.out n hn)
            rw [hn] at hsay
            simp only [Option.bind_some] at hsay
            rw [hsay] at HF3
            clear hsay HF2 hn hf1 hmp
            generalize xs0.length = nx at *
            generalize ys0.length = ny at *
            generalize xs1.length = np at *
            clear hbx hpx hr0 hp1 hz0 hy0 hz1
            subst hW0
            clear hal
            go_enter Tryd.func10, Tryd.ntmps10
            go_wp2_with fail
            with_reducible refine (HFt.out _ HX0.out).mono ?_
            rintro e u1 ⟨rfl, hb1⟩
            have hX1 := HX0.out.trans (hb1.mono HX0.out.size)
            have HX1 := Lib.hid hX1
            obtain ⟨k0_HB1, k1_HB1, k2_HB1, k3_HB1, k4_HB1, kl_HB1⟩ := HB.out _ hX1
            obtain ⟨p0_HP1, p1_HP1, pl_HP1⟩ := HP.out _ hX1
            have z1 := hX1.size
            simp only [World.alloc, Array.size_push] at z1
            clear hb1 hX1 
            go_wp2_with fail
            with_reducible refine (HSm.out _ HX1.out).mono ?_
            rintro e u2 ⟨rfl, hb2⟩
            have hX2 := HX1.out.trans (hb2.mono HX1.out.size)
            have HX2 := Lib.hid hX2
            obtain ⟨k0_HB2, k1_HB2, k2_HB2, k3_HB2, k4_HB2, kl_HB2⟩ := HB.out _ hX2
            obtain ⟨p0_HP2, p1_HP2, pl_HP2⟩ := HP.out _ hX2
            have z2 := hX2.size
            simp only [World.alloc, Array.size_push] at z2
            clear hb2 hX2 k0_HB1 k1_HB1 k2_HB1 k3_HB1 k4_HB1 kl_HB1 p0_HP1 p1_HP1 pl_HP1
            go_wp2_with fail
            with_reducible refine (HNL.out _ HX2.out).mono ?_
            rintro e u3 ⟨ex5, C5, zs5, cz5, g5, D5, ws5, dz5, h5, rfl, hrr5, hb3⟩
            have hX3 := HX2.out.trans (hb3.mono HX2.out.size)
            have HX3 := Lib.hid hX3
            obtain ⟨k0_HB3, k1_HB3, k2_HB3, k3_HB3, k4_HB3, kl_HB3⟩ := HB.out _ hX3
            obtain ⟨p0_HP3, p1_HP3, pl_HP3⟩ := HP.out _ hX3
            have z3 := hX3.size
            simp only [World.alloc, Array.size_push] at z3
            have HR5 := Lib.hid hrr5
            clear hrr5
            clear hb3 hX3 k0_HB2 k1_HB2 k2_HB2 k3_HB2 k4_HB2 kl_HB2 p0_HP2 p1_HP2 pl_HP2
            have ha3 : Below u3.heap.size u3 (u3.alloc (.cells #[.bool ex5, .slice C5 zs5.length cz5, .bool g5, .slice D5 ws5.length dz5, .bool h5] 39)) := (Below.refl _ _).alloc (Nat.le_refl _) _
            have hXa3 := HX3.out.trans (ha3.mono HX3.out.size)
            have HXa3 := Lib.hid hXa3
            obtain ⟨k0_HBa3, k1_HBa3, k2_HBa3, k3_HBa3, k4_HBa3, kl_HBa3⟩ := HB.out _ hXa3
            obtain ⟨p0_HPa3, p1_HPa3, pl_HPa3⟩ := HP.out _ hXa3
            have za3 := hXa3.size
            simp only [World.alloc, Array.size_push] at za3
            have KYb := Lib.hid (fun (w' : World) (hb : Below (u3.alloc (.cells #[.bool ex5, .slice C5 zs5.length cz5, .bool g5, .slice D5 ws5.length dz5, .bool h5] 39)).heap.size (u3.alloc (.cells #[.bool ex5, .slice C5 zs5.length cz5, .bool g5, .slice D5 ws5.length dz5, .bool h5] 39)) w') => (RBox.new u3 ex5 C5 zs5.length cz5 g5 D5 ws5.length dz5 h5).keep hb)
            have HY0 := Lib.hid (Below.refl (u3.alloc (.cells #[.bool ex5, .slice C5 zs5.length cz5, .bool g5, .slice D5 ws5.length dz5, .bool h5] 39)).heap.size (u3.alloc (.cells #[.bool ex5, .slice C5 zs5.length cz5, .bool g5, .slice D5 ws5.length dz5, .bool h5] 39)))
            obtain ⟨t0_KYba3, t1_KYba3, t2_KYba3, t3_KYba3, t4_KYba3, tl_KYba3⟩ := KYb.out _ HY0.out
            clear hXa3 k0_HB3 k1_HB3 k2_HB3 k3_HB3 k4_HB3 kl_HB3 p0_HP3 p1_HP3 pl_HP3
            have HR5a := Lib.hid (show RulR _ ex5 C5 zs5 cz5 g5 D5 ws5 dz5 h5 n from HR5.out.keep ((Below.refl _ _).alloc (Nat.le_refl _) (.cells #[.bool ex5, .slice C5 zs5.length cz5, .bool g5, .slice D5 ws5.length dz5, .bool h5] 39)))
            go_wp2_with fail
            with_reducible refine (HF1.out _ HXa3.out).mono ?_
            rintro e u4 ⟨rfl, hb4⟩
            have hX4 := HXa3.out.trans (hb4.mono HXa3.out.size)
            have HX4 := Lib.hid hX4
            obtain ⟨k0_HB4, k1_HB4, k2_HB4, k3_HB4, k4_HB4, kl_HB4⟩ := HB.out _ hX4
            obtain ⟨p0_HP4, p1_HP4, pl_HP4⟩ := HP.out _ hX4
            have hY4 := HY0.out.trans (hb4.mono HY0.out.size)
            have HY4 := Lib.hid hY4
            obtain ⟨t0_KYb4, t1_KYb4, t2_KYb4, t3_KYb4, t4_KYb4, tl_KYb4⟩ := KYb.out _ hY4
            have z4 := hX4.size
            simp only [World.alloc, Array.size_push] at z4
            clear hb4 hX4 hY4 k0_HBa3 k1_HBa3 k2_HBa3 k3_HBa3 k4_HBa3 kl_HBa3 p0_HPa3 p1_HPa3 pl_HPa3 t0_KYba3 t1_KYba3 t2_KYba3 t3_KYba3 t4_KYba3 tl_KYba3
            go_wp2_with fail
            with_reducible refine (HHs.out _ HX4.out).mono ?_
            rintro e u5 ⟨rfl, hb5⟩
            have hX5 := HX4.out.trans (hb5.mono HX4.out.size)
            have HX5 := Lib.hid hX5
            obtain ⟨k0_HB5, k1_HB5, k2_HB5, k3_HB5, k4_HB5, kl_HB5⟩ := HB.out _ hX5
            obtain ⟨p0_HP5, p1_HP5, pl_HP5⟩ := HP.out _ hX5
            have hY5 := HY4.out.trans (hb5.mono HY4.out.size)
            have HY5 := Lib.hid hY5
            obtain ⟨t0_KYb5, t1_KYb5, t2_KYb5, t3_KYb5, t4_KYb5, tl_KYb5⟩ := KYb.out _ hY5
            have z5 := hX5.size
            simp only [World.alloc, Array.size_push] at z5
            clear hb5 hX5 hY5 k0_HB4 k1_HB4 k2_HB4 k3_HB4 k4_HB4 kl_HB4 p0_HP4 p1_HP4 pl_HP4 t0_KYb4 t1_KYb4 t2_KYb4 t3_KYb4 t4_KYb4 tl_KYb4
            go_wp2_with fail
            with_reducible refine (HF3.out ex5 C5 zs5 cz5 g5 D5 ws5 dz5 h5 _ HX5.out (HR5a.out.keep HY5.out)).mono ?_
            rintro e u6 ⟨rfl, hb6⟩
            have hX6 := HX5.out.trans (hb6.mono HX5.out.size)
            have HX6 := Lib.hid hX6
            obtain ⟨k0_HB6, k1_HB6, k2_HB6, k3_HB6, k4_HB6, kl_HB6⟩ := HB.out _ hX6
            obtain ⟨p0_HP6, p1_HP6, pl_HP6⟩ := HP.out _ hX6
            have hY6 := HY5.out.trans (hb6.mono HY5.out.size)
            have HY6 := Lib.hid hY6
            obtain ⟨t0_KYb6, t1_KYb6, t2_KYb6, t3_KYb6, t4_KYb6, tl_KYb6⟩ := KYb.out _ hY6
            have z6 := hX6.size
            simp only [World.alloc, Array.size_push] at z6
            clear hb6 hX6 hY6 k0_HB5 k1_HB5 k2_HB5 k3_HB5 k4_HB5 kl_HB5 p0_HP5 p1_HP5 pl_HP5 t0_KYb5 t1_KYb5 t2_KYb5 t3_KYb5 t4_KYb5 tl_KYb5
            go_wp2_with fail
            with_reducible refine (HAw.out _ HX6.out).mono ?_
            rintro e u7 ⟨rfl, hb7⟩
            have hX7 := HX6.out.trans (hb7.mono HX6.out.size)
            have HX7 := Lib.hid hX7
            obtain ⟨k0_HB7, k1_HB7, k2_HB7, k3_HB7, k4_HB7, kl_HB7⟩ := HB.out _ hX7
            obtain ⟨p0_HP7, p1_HP7, pl_HP7⟩ := HP.out _ hX7
            have hY7 := HY6.out.trans (hb7.mono HY6.out.size)
            have HY7 := Lib.hid hY7
            obtain ⟨t0_KYb7, t1_KYb7, t2_KYb7, t3_KYb7, t4_KYb7, tl_KYb7⟩ := KYb.out _ hY7
            have z7 := hX7.size
            simp only [World.alloc, Array.size_push] at z7
            clear hb7 hX7 hY7 k0_HB6 k1_HB6 k2_HB6 k3_HB6 k4_HB6 kl_HB6 p0_HP6 p1_HP6 pl_HP6 t0_KYb6 t1_KYb6 t2_KYb6 t3_KYb6 t4_KYb6 tl_KYb6
            go_wp2
            go_ret
            exact ⟨rfl, HAL.out.trans (HX7.out.mono HAL.out.size)⟩
        | true =>
          simp only [if_true] at hsay
          unfold GivesFw at HF1 HF2
          simp only [Option.getD_some, Option.isSome_some] at HF1
          cases hn : Pt.nleft r p with
          | none =>
            rw [hn] at hsay
            cases hsay
          | some n =>
            rw [hn] at HNL
            have HF3 := Lib.hid (HF2.out n hn)
            rw [hn] at hsay
            simp only [Option.bind_some] at hsay
            rw [hsay] at HF3
            clear hsay HF2 hn hf1 hmp
            generalize xs0.length = nx at *
            generalize ys0.length = ny at *
            generalize xs1.length = np at *
            clear hbx hpx hr0 hp1 hz0 hy0 hz1
            subst hW0
            clear hal
            go_enter Tryd.func10, Tryd.ntmps10
            go_wp2_with fail
            with_reducible refine (HFt.out _ HX0.out).mono ?_
            rintro e u1 ⟨rfl, hb1⟩
            have hX1 := HX0.out.trans (hb1.mono HX0.out.size)
            have HX1 := Lib.hid hX1
            obtain ⟨k0_HB1, k1_HB1, k2_HB1, k3_HB1, k4_HB1, kl_HB1⟩ := HB.out _ hX1
            obtain ⟨p0_HP1, p1_HP1, pl_HP1⟩ := HP.out _ hX1
            have z1 := hX1.size
            simp only [World.alloc, Array.size_push] at z1
            clear hb1 hX1 
            go_wp2_with fail
            with_reducible refine (HSm.out _ HX1.out).mono ?_
            rintro e u2 ⟨rfl, hb2⟩
            have hX2 := HX1.out.trans (hb2.mono HX1.out.size)
            have HX2 := Lib.hid hX2
            obtain ⟨k0_HB2, k1_HB2, k2_HB2, k3_HB2, k4_HB2, kl_HB2⟩ := HB.out _ hX2
            obtain ⟨p0_HP2, p1_HP2, pl_HP2⟩ := HP.out _ hX2
            have z2 := hX2.size
            simp only [World.alloc, Array.size_push] at z2
            clear hb2 hX2 k0_HB1 k1_HB1 k2_HB1 k3_HB1 k4_HB1 kl_HB1 p0_HP1 p1_HP1 pl_HP1
            go_wp2_with fail
            with_reducible refine (HNL.out _ HX2.out).mono ?_
            rintro e u3 ⟨ex5, C5, zs5, cz5, g5, D5, ws5, dz5, h5, rfl, hrr5, hb3⟩
            have hX3 := HX2.out.trans (hb3.mono HX2.out.size)
            have HX3 := Lib.hid hX3
            obtain ⟨k0_HB3, k1_HB3, k2_HB3, k3_HB3, k4_HB3, kl_HB3⟩ := HB.out _ hX3
            obtain ⟨p0_HP3, p1_HP3, pl_HP3⟩ := HP.out _ hX3
            have z3 := hX3.size
            simp only [World.alloc, Array.size_push] at z3
            have HR5 := Lib.hid hrr5
            clear hrr5
            clear hb3 hX3 k0_HB2 k1_HB2 k2_HB2 k3_HB2 k4_HB2 kl_HB2 p0_HP2 p1_HP2 pl_HP2
            have ha3 : Below u3.heap.size u3 (u3.alloc (.cells #[.bool ex5, .slice C5 zs5.length cz5, .bool g5, .slice D5 ws5.length dz5, .bool h5] 39)) := (Below.refl _ _).alloc (Nat.le_refl _) _
            have hXa3 := HX3.out.trans (ha3.mono HX3.out.size)
            have HXa3 := Lib.hid hXa3
            obtain ⟨k0_HBa3, k1_HBa3, k2_HBa3, k3_HBa3, k4_HBa3, kl_HBa3⟩ := HB.out _ hXa3
            obtain ⟨p0_HPa3, p1_HPa3, pl_HPa3⟩ := HP.out _ hXa3
            have za3 := hXa3.size
            simp only [World.alloc, Array.size_push] at za3
            have KYb := Lib.hid (fun (w' : World) (hb : Below (u3.alloc (.cells #[.bool ex5, .slice C5 zs5.length cz5, .bool g5, .slice D5 ws5.length dz5, .bool h5] 39)).heap.size (u3.alloc (.cells #[.bool ex5, .slice C5 zs5.length cz5, .bool g5, .slice D5 ws5.length dz5, .bool h5] 39)) w') => (RBox.new u3 ex5 C5 zs5.length cz5 g5 D5 ws5.length dz5 h5).keep hb)
            have HY0 := Lib.hid (Below.refl (u3.alloc (.cells #[.bool ex5, .slice C5 zs5.length cz5, .bool g5, .slice D5 ws5.length dz5, .bool h5] 39)).heap.size (u3.alloc (.cells #[.bool ex5, .slice C5 zs5.length cz5, .bool g5, .slice D5 ws5.length dz5, .bool h5] 39)))
            obtain ⟨t0_KYba3, t1_KYba3, t2_KYba3, t3_KYba3, t4_KYba3, tl_KYba3⟩ := KYb.out _ HY0.out
            clear hXa3 k0_HB3 k1_HB3 k2_HB3 k3_HB3 k4_HB3 kl_HB3 p0_HP3 p1_HP3 pl_HP3
            have HR5a := Lib.hid (show RulR _ ex5 C5 zs5 cz5 g5 D5 ws5 dz5 h5 n from HR5.out.keep ((Below.refl _ _).alloc (Nat.le_refl _) (.cells #[.bool ex5, .slice C5 zs5.length cz5, .bool g5, .slice D5 ws5.length dz5, .bool h5] 39)))
            go_wp2_with fail
            with_reducible refine (HF1.out _ HXa3.out).mono ?_
            rintro e u4 ⟨rfl, hb4⟩
            have hX4 := HXa3.out.trans (hb4.mono HXa3.out.size)
            have HX4 := Lib.hid hX4
            obtain ⟨k0_HB4, k1_HB4, k2_HB4, k3_HB4, k4_HB4, kl_HB4⟩ := HB.out _ hX4
            obtain ⟨p0_HP4, p1_HP4, pl_HP4⟩ := HP.out _ hX4
            have hY4 := HY0.out.trans (hb4.mono HY0.out.size)
            have HY4 := Lib.hid hY4
            obtain ⟨t0_KYb4, t1_KYb4, t2_KYb4, t3_KYb4, t4_KYb4, tl_KYb4⟩ := KYb.out _ hY4
            have z4 := hX4.size
            simp only [World.alloc, Array.size_push] at z4
            clear hb4 hX4 hY4 k0_HBa3 k1_HBa3 k2_HBa3 k3_HBa3 k4_HBa3 kl_HBa3 p0_HPa3 p1_HPa3 pl_HPa3 t0_KYba3 t1_KYba3 t2_KYba3 t3_KYba3 t4_KYba3 tl_KYba3
            go_wp2_with fail
            with_reducible refine (HHs.out _ HX4.out).mono ?_
            rintro e u5 ⟨rfl, hb5⟩
            have hX5 := HX4.out.trans (hb5.mono HX4.out.size)
            have HX5 := Lib.hid hX5
            obtain ⟨k0_HB5, k1_HB5, k2_HB5, k3_HB5, k4_HB5, kl_HB5⟩ := HB.out _ hX5
            obtain ⟨p0_HP5, p1_HP5, pl_HP5⟩ := HP.out _ hX5
            have hY5 := HY4.out.trans (hb5.mono HY4.out.size)
            have HY5 := Lib.hid hY5
            obtain ⟨t0_KYb5, t1_KYb5, t2_KYb5, t3_KYb5, t4_KYb5, tl_KYb5⟩ := KYb.out _ hY5
            have z5 := hX5.size
            simp only [World.alloc, Array.size_push] at z5
            clear hb5 hX5 hY5 k0_HB4 k1_HB4 k2_HB4 k3_HB4 k4_HB4 kl_HB4 p0_HP4 p1_HP4 pl_HP4 t0_KYb4 t1_KYb4 t2_KYb4 t3_KYb4 t4_KYb4 tl_KYb4
            go_wp2_with fail
            with_reducible refine (HF3.out ex5 C5 zs5 cz5 g5 D5 ws5 dz5 h5 _ HX5.out (HR5a.out.keep HY5.out)).mono ?_
            rintro e u6 ⟨rfl, hb6⟩
            have hX6 := HX5.out.trans (hb6.mono HX5.out.size)
            have HX6 := Lib.hid hX6
            obtain ⟨k0_HB6, k1_HB6, k2_HB6, k3_HB6, k4_HB6, kl_HB6⟩ := HB.out _ hX6
            obtain ⟨p0_HP6, p1_HP6, pl_HP6⟩ := HP.out _ hX6
            have hY6 := HY5.out.trans (hb6.mono HY5.out.size)
            have HY6 := Lib.hid hY6
            obtain ⟨t0_KYb6, t1_KYb6, t2_KYb6, t3_KYb6, t4_KYb6, tl_KYb6⟩ := KYb.out _ hY6
            have z6 := hX6.size
            simp only [World.alloc, Array.size_push] at z6
            clear hb6 hX6 hY6 k0_HB5 k1_HB5 k2_HB5 k3_HB5 k4_HB5 kl_HB5 p0_HP5 p1_HP5 pl_HP5 t0_KYb5 t1_KYb5 t2_KYb5 t3_KYb5 t4_KYb5 tl_KYb5
            go_wp2_with fail
            with_reducible refine (HAw.out _ HX6.out).mono ?_
            rintro e u7 ⟨rfl, hb7⟩
            have hX7 := HX6.out.trans (hb7.mono HX6.out.size)
            have HX7 := Lib.hid hX7
            obtain ⟨k0_HB7, k1_HB7, k2_HB7, k3_HB7, k4_HB7, kl_HB7⟩ := HB.out _ hX7
            obtain ⟨p0_HP7, p1_HP7, pl_HP7⟩ := HP.out _ hX7
            have hY7 := HY6.out.trans (hb7.mono HY6.out.size)
            have HY7 := Lib.hid hY7
            obtain ⟨t0_KYb7, t1_KYb7, t2_KYb7, t3_KYb7, t4_KYb7, tl_KYb7⟩ := KYb.out _ hY7
            have z7 := hX7.size
            simp only [World.alloc, Array.size_push] at z7
            clear hb7 hX7 hY7 k0_HB6 k1_HB6 k2_HB6 k3_HB6 k4_HB6 kl_HB6 p0_HP6 p1_HP6 pl_HP6 t0_KYb6 t1_KYb6 t2_KYb6 t3_KYb6 t4_KYb6 tl_KYb6
            go_wp2
            go_ret
            exact ⟨rfl, HAL.out.trans (HX7.out.mono HAL.out.size)⟩

end Go.Proofs.YtihboibebhokbaaDoor.ruleNarrowMeans
