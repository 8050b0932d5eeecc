/- RegionSimplifies returns true at every region (the card: the variables that it lists hold what the program text lays). Conditions: none of its own. -/
import Derived.Test.YtpdkecchpidhdaaGreatDoorCards
import Derived.Test.YtpdkecchpidhdaaGreatDoorTie
import Derived.WalkKit
import Derived.ProofKit
import Derived.OpenShut
import Derived.ShutString
import Derived.Test.YtpdkecchpidhdaaGreatDoorPatOpen
import Derived.Test.YtpdkecchpidhdaaGreatDoorRegOpen
import Derived.Test.YtpdkecchpidhdaaGreatDoorRegAwake
import Derived.Test.YtpdkecchpidhdaaGreatDoorRegShort
import Derived.Test.YtpdkecchpidhdaaGreatDoorRegRSimp
namespace Go.Proofs.YtpdkecchpidhdaaGreatDoor.regionSimplifies
open Go.ChangeShapes Go.WideShapes Go.ChangeAt Go.RowKit
open Go.ChangeMaps (open_string shut_string)
set_option linter.unusedVariables false

set_option maxHeartbeats 8000000 in
theorem walk (w : World) (A0 : Option Addr) (xs0 : List ByteArray) (c0 : Nat) (b0 : Bool) (K0 : Option Addr) (bl0 : List BindV) (e0 : Nat) (hg0 : RegR w A0 xs0 c0 b0 K0 bl0 e0 ⟨⟨bs xs0, b0⟩, bl0.map BindV.pat⟩) (hz0 : ∀ x ∈ xs0, x.size ≤ 140737488355000) (hy0 : ∀ x ∈ bl0, ∀ y ∈ x.xs, y.size ≤ 140737488355000) (hx0 : xs0.length ≤ 140737488355328) (hl0 : ∀ x ∈ bl0, x.xs.length ≤ 140737488355328) (hm : MaxL w) :
    Calls Tryz.prog 3 #[regV A0 xs0.length c0 b0 K0 bl0.length e0] w fun e w' => e = .returned (.bool true) ∧ Below w.heap.size w w' := by
  obtain ⟨W0, hW0⟩ : ∃ W0, W0 = w.alloc (regObj A0 xs0.length c0 b0 K0 bl0.length e0) := ⟨_, rfl⟩
  have hal : Below w.heap.size w W0 := by rw [hW0]; exact (Below.refl _ _).alloc (Nat.le_refl _) _
  have HX0 := Lib.hid (Below.refl W0.heap.size W0)
  have HAL := Lib.hid hal
  have hgb0 : GBox W0 w.heap.size A0 xs0.length c0 b0 K0 bl0.length e0 := by rw [hW0]; exact GBox.new ..
  have HB0 := Lib.hid (fun (w' : World) (hb : Below W0.heap.size W0 w') => hgb0.keep hb)
  have hm0 := hm.keep hal hm.size
  have HMX := Lib.hid (fun (w' : World) (hb : Below W0.heap.size W0 w') => hm0.keep hb hm0.size)
  have HAw := Lib.hid (fun (w' : World) => awake5_any w')
  have HSm0 := Lib.hid (fun (w' : World) (hb : Below W0.heap.size W0 w') => small5_any A0 xs0 c0 b0 K0 bl0 e0 _ w' (hg0.keep (hal.trans (hb.mono hal.size))) hx0 hl0)
  generalize hs0 : smallG xs0 bl0 = sm0 at HSm0
  cases sm0 with
  | false =>
    clear hg0 hz0 hy0 hx0 hl0
    clear hs0
    generalize xs0.length = nx0 at *
    generalize bl0.length = nb0 at *
    obtain ⟨k0_, k1_, k2_, kl_⟩ := hgb0
    subst hW0
    clear hal hm0
    go_enter Tryz.func3, Tryz.ntmps3
    go_wp2_with fail
    with_reducible refine (HSm0.out _ HX0.out).mono ?_
    rintro en u1 ⟨rfl, hb1⟩
    have hX1 := HX0.out.trans (hb1.mono HX0.out.size)
    have HX1 := Lib.hid hX1
    obtain ⟨k0_HB01, k1_HB01, k2_HB01, kl_HB01⟩ := HB0.out _ hX1
    have z1 := hX1.size
    simp only [World.alloc, Array.size_push] at z1
    clear hb1 hX1 k0_ k1_ k2_ kl_
    go_wp2_with fail
    with_reducible refine (HAw.out _).mono ?_
    rintro en u2 ⟨rfl, hb2⟩
    have hX2 := HX1.out.trans (hb2.mono HX1.out.size)
    have HX2 := Lib.hid hX2
    obtain ⟨k0_HB02, k1_HB02, k2_HB02, kl_HB02⟩ := HB0.out _ hX2
    have z2 := hX2.size
    simp only [World.alloc, Array.size_push] at z2
    clear hb2 hX2 k0_HB01 k1_HB01 k2_HB01 kl_HB01
    go_wp2
    go_ret
    exact ⟨rfl, HAL.out.trans (HX2.out.mono HAL.out.size)⟩
  | true =>
    have sz0 := small_szG (b := b0) hs0
    obtain ⟨f0, f0a, f0b, f0c, f0d⟩ := smallG_facts hs0
    clear hs0
    obtain ⟨g0, hgg0⟩ : ∃ g : Pt.Rg.Reg, g = ⟨⟨bs xs0, b0⟩, bl0.map BindV.pat⟩ := ⟨_, rfl⟩
    rw [← hgg0] at hg0 sz0
    clear hgg0
    have HSI := Lib.hid (fun (w' : World) (hb : Below W0.heap.size W0 w') => simplify_any A0 xs0 c0 b0 K0 bl0 e0 g0 w' (hg0.keep (hal.trans (hb.mono hal.size))) (sz0.short (by decide)))
    have HC := Lib.hid (fun (w' : World) (hb : Below W0.heap.size W0 w') => ggcheck_any A0 xs0 c0 b0 K0 bl0 e0 g0 w' (hg0.keep (hal.trans (hb.mono hal.size))))
    have HRD := Lib.hid (fun (w' : World) (hb : Below W0.heap.size W0 w') => (hg0.keep (hal.trans (hb.mono hal.size))).holes)
    have HRB := Lib.hid (fun (w' : World) (hb : Below W0.heap.size W0 w') => (hg0.keep (hal.trans (hb.mono hal.size))).base)
    have HSS := Lib.hid (fun (A : Option Addr) (xs : List ByteArray) (c : Nat) (b : Bool) (H : Option Addr) (bl : List BindV) (e : Nat) (B : Option Addr) (ys : List ByteArray) (d : Nat) (f : Bool) (L : Option Addr) (cl : List BindV) (e2 : Nat) (h : Pt.Rg.Reg) (w' : World) (hr : RegR w' A xs c b H bl e h) (hk : RegR w' B ys d f L cl e2 h) => same_regs A xs c b H bl e B ys d f L cl e2 h w' hr hk)
    have HSG := Lib.hid (fun (B : Option Addr) (cl : List BindV) (e2 : Nat) (w' : World) (hb : Below W0.heap.size W0 w') (hk : RdB w' B cl e2) (hc : cl.map BindV.pat = g0.holes) => same_regs A0 xs0 c0 b0 K0 bl0 e0 A0 xs0 c0 b0 B cl e2 g0 w' (hg0.keep (hal.trans (hb.mono hal.size))) ⟨(hg0.keep (hal.trans (hb.mono hal.size))).base, hk, hc⟩)
    have HEQ := Lib.hid hg0.eq
    have hlen : bl0.length ≤ 1000000 := by omega
    have HNN := Lib.hid hlen
    clear hlen
    have HGS := Lib.hid (fun (w' : World) (hb : Below W0.heap.size W0 w') => show Calls Tryz.prog 20 #[patV A0 xs0.length c0 b0, .slice K0 bl0.length e0] w' (GivesGR w' A0 xs0 c0 b0 g0.simp) from by
        have h := gsimp_any A0 xs0 c0 b0 K0 bl0 e0 g0.base w' (hg0.keep (hal.trans (hb.mono hal.size))).base (hg0.keep (hal.trans (hb.mono hal.size))).holes (by omega) (fun x hx => (sz0.short (by decide)) x.pat (by rw [← hg0.eq]; exact List.mem_map_of_mem hx))
        rw [hg0.eq] at h
        exact h)
    obtain ⟨nx0, hnx⟩ : ∃ n, n = xs0.length := ⟨_, rfl⟩
    obtain ⟨nb0, hnb⟩ : ∃ n, n = bl0.length := ⟨_, rfl⟩
    have HNB := Lib.hid hnb
    have HNX := Lib.hid hnx
    rw [← hnx, ← hnb] at hW0 HB0 HSm0 HSI HC HGS
    rw [← hnx, ← hnb] at hgb0 ⊢
    clear hnx hnb
    have HSG2 := Lib.hid (fun (B : Option Addr) (e2 : Nat) (w' : World) (hb : Below W0.heap.size W0 w') (hk : RdB w' B bl0 e2) => show Calls Tryz.prog 19 #[regV A0 nx0 c0 b0 K0 nb0 e0, regV A0 nx0 c0 b0 B nb0 e2] w' (GivesBB w' true) from by
        have h := HSG.out B bl0 e2 w' hb hk HEQ.out
        rw [← HNX.out, ← HNB.out] at h
        exact h)
    clear HSG
    generalize hk : Pt.Rg.gcheck g0 = k at *
    have HK := Lib.hid hk
    by_cases hk0 : k = 0
    rotate_left
    · rw [if_neg hk0] at HSI
      have i1 : ((k : Int) == 0) = false := by rw [beq_eq_false_iff_ne]; omega
      have i2 : ((k : Int) != 0) = true := by rw [bne, i1]; rfl
      clear hk0
      clear hg0 hz0 hy0 hx0 hl0 sz0 f0 f0a f0b f0c f0d hk
      obtain ⟨k0_, k1_, k2_, kl_⟩ := hgb0
      subst hW0
      clear hal hm0
      go_enter Tryz.func3, Tryz.ntmps3
      go_wp2_with fail
      with_reducible refine (HSm0.out _ HX0.out).mono ?_
      rintro en u1 ⟨rfl, hb1⟩
      have hX1 := HX0.out.trans (hb1.mono HX0.out.size)
      have HX1 := Lib.hid hX1
      obtain ⟨k0_HB01, k1_HB01, k2_HB01, kl_HB01⟩ := HB0.out _ hX1
      have z1 := hX1.size
      simp only [World.alloc, Array.size_push] at z1
      clear hb1 hX1 k0_ k1_ k2_ kl_
      have HAX : Hid (∀ x ∈ bl0, ∀ y ∈ adr x.A x.xs, ∀ a, y = some a → a.block < u1.heap.size) := Lib.hid fun x hx y hy a ha => ((HRD.out _ HX1.out).parts x hx).adr_lt y hy a ha
      have hZB : Hid ((u1.alloc (regObj none 0 0 false none 0 0)).cell? ⟨u1.heap.size, 0, none⟩ = some (.slice none 0 0) ∧ (u1.alloc (regObj none 0 0 false none 0 0)).cell? ⟨u1.heap.size, 1, none⟩ = some (.bool false) ∧ (u1.alloc (regObj none 0 0 false none 0 0)).cell? ⟨u1.heap.size, 2, none⟩ = some (.slice none 0 0) ∧ ∀ i, (u1.alloc (regObj none 0 0 false none 0 0)).frozen? ⟨u1.heap.size, i, none⟩ = false) := Lib.hid ⟨cells_new _ _ _ 0 _ rfl, cells_new _ _ _ 1 _ rfl, cells_new _ _ _ 2 _ rfl, fun i => by simp [regObj]⟩
      go_wp2
      go_cut [3] from 11 to 16 (fun s3 wx => ∃ (q : Nat) (A9 : Option Addr) (e9 : Nat), s3 = .pointer (some ⟨q, 0, none⟩) ∧ GBox wx q A0 nx0 c0 b0 A9 nb0 e9 ∧ Below u1.heap.size u1 wx ∧ Aside (OwnP wx u1.heap.size (.slice A9 nb0 e9) bl0))
      case first =>
        go_region_law (first
          | (refine step_append_pt rfl (.const (.slice none 0 0)) (.tmp 14) rfl (u1.heap.size + 1) (.slice none 0 0) [] rfl (OwnP.empty _ _) K0 bl0 nb0 e0 HNB.out (by simp [Act.eval]) (HRD.out _ (HX1.out.trans ((show Below u1.heap.size u1 _ from by repeat (first | exact Below.refl _ _ | apply below_drew | refine Below.alloc ?_ (Nat.le_refl _) _)).mono HX1.out.size))) (fun x hx y hy a ha => ⟨by simp [Value.ownBlock], by have h9 := HAX.out x hx y hy a ha; simp; omega⟩) (by have := HNN.out; simp; omega) (by simp) ?_
             intro v9 w9 hown9 hb9 hg9
             rw [List.nil_append] at hown9
             obtain ⟨A9, e9, hv9, _⟩ := hown9.form
             subst hv9
             rw [← HNB.out] at hown9 ⊢
             have HO9 := Lib.hid hown9
             have hb9' : Below (u1.heap.size + 1) (u1.alloc (regObj none 0 0 false none 0 0)) w9 := (show Below (u1.heap.size + 1) (u1.alloc (regObj none 0 0 false none 0 0)) _ from below_drew (Below.refl _ _)).trans hb9
             have k0 := (hb9'.cell (p := ⟨u1.heap.size, 0, none⟩) (Nat.lt_succ_self _)).trans hZB.out.1
             have k1 := (hb9'.cell (p := ⟨u1.heap.size, 1, none⟩) (Nat.lt_succ_self _)).trans hZB.out.2.1
             have k2 := (hb9'.cell (p := ⟨u1.heap.size, 2, none⟩) (Nat.lt_succ_self _)).trans hZB.out.2.2.1
             have k3 := (hb9'.frozen (p := ⟨u1.heap.size, 0, none⟩) (Nat.lt_succ_self _)).trans (hZB.out.2.2.2 0)
             have k4 := (hb9'.frozen (p := ⟨u1.heap.size, 1, none⟩) (Nat.lt_succ_self _)).trans (hZB.out.2.2.2 1)
             have k5 := (hb9'.frozen (p := ⟨u1.heap.size, 2, none⟩) (Nat.lt_succ_self _)).trans (hZB.out.2.2.2 2)
             have HW9 : Hid (Below u1.heap.size u1 w9) := Lib.hid (((Below.refl _ _).alloc (Nat.le_refl _) _).trans (hb9'.mono (Nat.le_succ _)))
             obtain ⟨r0, r1, r2, rl⟩ := HB0.out w9 (HX1.out.trans (HW9.out.mono HX1.out.size))
             clear hown9 hb9 hg9 hb9')
          | (refine step_append_pt rfl (.const (.slice none 0 0)) (.tmp 14) rfl u1.heap.size (.slice none 0 0) [] rfl (OwnP.empty _ _) K0 bl0 nb0 e0 HNB.out (by simp [Act.eval]) (HRD.out _ (HX1.out.trans ((show Below u1.heap.size u1 _ from by repeat (first | exact Below.refl _ _ | apply below_drew | refine Below.alloc ?_ (Nat.le_refl _) _)).mono HX1.out.size))) (fun x hx y hy a ha => ⟨by simp [Value.ownBlock], by have h9 := HAX.out x hx y hy a ha; simp; omega⟩) (by have := HNN.out; simp; omega) (by simp) ?_
             intro v9 w9 hown9 hb9 hg9
             rw [List.nil_append] at hown9
             obtain ⟨A9, e9, hv9, _⟩ := hown9.form
             subst hv9
             rw [← HNB.out] at hown9 ⊢
             have HO9 := Lib.hid hown9
             have HW9 : Hid (Below u1.heap.size u1 w9) := Lib.hid ((show Below u1.heap.size u1 _ from by repeat (first | exact Below.refl _ _ | apply below_drew)).trans hb9)
             obtain ⟨r0, r1, r2, rl⟩ := HB0.out w9 (HX1.out.trans (HW9.out.mono HX1.out.size))
             clear hown9 hb9 hg9))
        all_goals (go_wp2_with fail; go_meet)
        all_goals first
          | exact ⟨w9.heap.size, A9, e9, rfl, GBox.new .., HW9.out.trans (((Below.refl _ _).alloc (Nat.le_refl _) _).mono HW9.out.size), HO9.out.below ((Below.refl _ _).alloc (Nat.le_refl _) _)⟩
          | (obtain ⟨q1, q2, q3⟩ := cut_storeR (A := A0) (n := nx0) (c := c0) (b := b0) HW9.out (Nat.le_refl _) (Nat.lt_succ_self _) k0 k1 k2 HO9.out HAX.out rfl
             exact ⟨u1.heap.size, A9, e9, rfl, q1, q2, q3.more (Nat.le_succ _)⟩)
      case rest =>
        obtain ⟨q, A9, e9, rfl, hgb, hb9, HO9⟩ := hcut
        have hX1c := HX1.out.trans (hb9.mono HX1.out.size)
        have HX1c := Lib.hid hX1c
        obtain ⟨k0_c, k1_c, k2_c, kl_c⟩ := HB0.out _ hX1c
        have HBC := Lib.hid (fun (w' : World) (hb : Below wc.heap.size wc w') => hgb.keep hb)
        have HWS := Lib.hid (fun (w' : World) (hb : Below wc.heap.size wc w') => (OwnP.rdB (m := bl0) (by rw [← HNB.out]; exact HO9.out : OwnP wc u1.heap.size (.slice A9 bl0.length e9) bl0)).keep hb)
        have HC0 := Lib.hid (Below.refl wc.heap.size wc)
        obtain ⟨j0_c, j1_c, j2_c, jl_c⟩ := hgb
        clear hX1c hb9 k0_HB01 k1_HB01 k2_HB01 kl_HB01
        go_wp2_with fail
        with_reducible refine (HSI.out _ HX1c.out).mono ?_
        rintro en u2 ⟨A8, xs8, c8, b8, K8, bl8, e8, rfl, hr8, hb2, _, _, _⟩
        have hX2 := HX1c.out.trans (hb2.mono HX1c.out.size)
        have HX2 := Lib.hid hX2
        obtain ⟨k0_HB02, k1_HB02, k2_HB02, kl_HB02⟩ := HB0.out _ hX2
        have hC2 := HC0.out.trans (hb2.mono HC0.out.size)
        have HC2 := Lib.hid hC2
        obtain ⟨k0_HBC2, k1_HBC2, k2_HBC2, kl_HBC2⟩ := HBC.out _ hC2
        have z2 := hX2.size
        simp only [World.alloc, Array.size_push] at z2
        have l1 : xs8.length = 0 := by rw [← hr8.base.len]; rfl
        have l2 : b8 = false := hr8.base.rest
        have l3 : bl8.length = 0 := by rw [← reg_len hr8]; rfl
        clear hr8
        generalize xs8.length = nx8 at *
        generalize bl8.length = nb8 at *
        subst l1 l2 l3
        clear hb2 hX2 hC2 k0_c k1_c k2_c kl_c j0_c j1_c j2_c jl_c
        have ha2Y : Below (World.heap u2).size u2 (World.alloc u2 (regObj A8 0 c8 false K8 0 e8)) := (Below.refl _ _).alloc (Nat.le_refl _) _
        have hXa2Y := HX2.out.trans (ha2Y.mono HX2.out.size)
        have HXa2Y := Lib.hid hXa2Y
        obtain ⟨k0_HB0a2Y, k1_HB0a2Y, k2_HB0a2Y, kl_HB0a2Y⟩ := HB0.out _ hXa2Y
        have hCa2Y := HC2.out.trans (ha2Y.mono HC2.out.size)
        have HCa2Y := Lib.hid hCa2Y
        obtain ⟨k0_HBCa2Y, k1_HBCa2Y, k2_HBCa2Y, kl_HBCa2Y⟩ := HBC.out _ hCa2Y
        have za2Y := hXa2Y.size
        simp only [World.alloc, Array.size_push] at za2Y
        have HY9 := Lib.hid (fun (w' : World) (hb : Below (World.heap (World.alloc u2 (regObj A8 0 c8 false K8 0 e8))).size (World.alloc u2 (regObj A8 0 c8 false K8 0 e8)) w') => (GBox.new ..).keep hb)
        have HY0 := Lib.hid (Below.refl (World.heap (World.alloc u2 (regObj A8 0 c8 false K8 0 e8))).size (World.alloc u2 (regObj A8 0 c8 false K8 0 e8)))
        obtain ⟨k0_HY9a2Y, k1_HY9a2Y, k2_HY9a2Y, kl_HY9a2Y⟩ := HY9.out _ HY0.out
        clear ha2Y hXa2Y hCa2Y k0_HB02 k1_HB02 k2_HB02 kl_HB02 k0_HBC2 k1_HBC2 k2_HBC2 kl_HBC2
        go_wp2_with fail
        with_reducible refine (HC.out _ HXa2Y.out).mono ?_
        rintro en u3 ⟨rfl, hb3⟩
        have hX3 := HXa2Y.out.trans (hb3.mono HXa2Y.out.size)
        have HX3 := Lib.hid hX3
        obtain ⟨k0_HB03, k1_HB03, k2_HB03, kl_HB03⟩ := HB0.out _ hX3
        have hC3 := HCa2Y.out.trans (hb3.mono HCa2Y.out.size)
        have HC3 := Lib.hid hC3
        obtain ⟨k0_HBC3, k1_HBC3, k2_HBC3, kl_HBC3⟩ := HBC.out _ hC3
        have hY3 := HY0.out.trans (hb3.mono HY0.out.size)
        have HY3 := Lib.hid hY3
        obtain ⟨k0_HY93, k1_HY93, k2_HY93, kl_HY93⟩ := HY9.out _ hY3
        have z3 := hX3.size
        simp only [World.alloc, Array.size_push] at z3
        clear hb3 hX3 hC3 hY3 k0_HB0a2Y k1_HB0a2Y k2_HB0a2Y kl_HB0a2Y k0_HBCa2Y k1_HBCa2Y k2_HBCa2Y kl_HBCa2Y k0_HY9a2Y k1_HY9a2Y k2_HY9a2Y kl_HY9a2Y
        go_wp2_with fail
        with_reducible refine (HSG2.out A9 e9 _ HX3.out (HWS.out _ HC3.out)).mono ?_
        rintro en u4 ⟨rfl, hb4⟩
        have hX4 := HX3.out.trans (hb4.mono HX3.out.size)
        have HX4 := Lib.hid hX4
        obtain ⟨k0_HB04, k1_HB04, k2_HB04, kl_HB04⟩ := HB0.out _ hX4
        have hC4 := HC3.out.trans (hb4.mono HC3.out.size)
        have HC4 := Lib.hid hC4
        obtain ⟨k0_HBC4, k1_HBC4, k2_HBC4, kl_HBC4⟩ := HBC.out _ hC4
        have hY4 := HY3.out.trans (hb4.mono HY3.out.size)
        have HY4 := Lib.hid hY4
        obtain ⟨k0_HY94, k1_HY94, k2_HY94, kl_HY94⟩ := HY9.out _ hY4
        have z4 := hX4.size
        simp only [World.alloc, Array.size_push] at z4
        clear hb4 hX4 hC4 hY4 k0_HB03 k1_HB03 k2_HB03 kl_HB03 k0_HBC3 k1_HBC3 k2_HBC3 kl_HBC3 k0_HY93 k1_HY93 k2_HY93 kl_HY93
        go_wp2_with fail
        with_reducible refine (HAw.out _).mono ?_
        rintro en u5 ⟨rfl, hb5⟩
        have hX5 := HX4.out.trans (hb5.mono HX4.out.size)
        have HX5 := Lib.hid hX5
        obtain ⟨k0_HB05, k1_HB05, k2_HB05, kl_HB05⟩ := HB0.out _ hX5
        have hC5 := HC4.out.trans (hb5.mono HC4.out.size)
        have HC5 := Lib.hid hC5
        obtain ⟨k0_HBC5, k1_HBC5, k2_HBC5, kl_HBC5⟩ := HBC.out _ hC5
        have hY5 := HY4.out.trans (hb5.mono HY4.out.size)
        have HY5 := Lib.hid hY5
        obtain ⟨k0_HY95, k1_HY95, k2_HY95, kl_HY95⟩ := HY9.out _ hY5
        have z5 := hX5.size
        simp only [World.alloc, Array.size_push] at z5
        clear hb5 hX5 hC5 hY5 k0_HB04 k1_HB04 k2_HB04 kl_HB04 k0_HBC4 k1_HBC4 k2_HBC4 kl_HBC4 k0_HY94 k1_HY94 k2_HY94 kl_HY94
        go_wp2
        go_ret
        exact ⟨rfl, HAL.out.trans (HX5.out.mono HAL.out.size)⟩
    subst hk0
    rw [if_pos rfl] at HSI
    clear hg0 hz0 hy0 hx0 hl0 sz0 f0 f0a f0b f0c f0d hk
    obtain ⟨k0_, k1_, k2_, kl_⟩ := hgb0
    subst hW0
    clear hal hm0
    go_enter Tryz.func3, Tryz.ntmps3
    go_wp2_with fail
    with_reducible refine (HSm0.out _ HX0.out).mono ?_
    rintro en u1 ⟨rfl, hb1⟩
    have hX1 := HX0.out.trans (hb1.mono HX0.out.size)
    have HX1 := Lib.hid hX1
    obtain ⟨k0_HB01, k1_HB01, k2_HB01, kl_HB01⟩ := HB0.out _ hX1
    have z1 := hX1.size
    simp only [World.alloc, Array.size_push] at z1
    clear hb1 hX1 k0_ k1_ k2_ kl_
    have HAX : Hid (∀ x ∈ bl0, ∀ y ∈ adr x.A x.xs, ∀ a, y = some a → a.block < u1.heap.size) := Lib.hid fun x hx y hy a ha => ((HRD.out _ HX1.out).parts x hx).adr_lt y hy a ha
    have hZB : Hid ((u1.alloc (regObj none 0 0 false none 0 0)).cell? ⟨u1.heap.size, 0, none⟩ = some (.slice none 0 0) ∧ (u1.alloc (regObj none 0 0 false none 0 0)).cell? ⟨u1.heap.size, 1, none⟩ = some (.bool false) ∧ (u1.alloc (regObj none 0 0 false none 0 0)).cell? ⟨u1.heap.size, 2, none⟩ = some (.slice none 0 0) ∧ ∀ i, (u1.alloc (regObj none 0 0 false none 0 0)).frozen? ⟨u1.heap.size, i, none⟩ = false) := Lib.hid ⟨cells_new _ _ _ 0 _ rfl, cells_new _ _ _ 1 _ rfl, cells_new _ _ _ 2 _ rfl, fun i => by simp [regObj]⟩
    go_wp2
    go_cut [3] from 11 to 16 (fun s3 wx => ∃ (q : Nat) (A9 : Option Addr) (e9 : Nat), s3 = .pointer (some ⟨q, 0, none⟩) ∧ GBox wx q A0 nx0 c0 b0 A9 nb0 e9 ∧ Below u1.heap.size u1 wx ∧ Aside (OwnP wx u1.heap.size (.slice A9 nb0 e9) bl0))
    case first =>
      go_region_law (first
        | (refine step_append_pt rfl (.const (.slice none 0 0)) (.tmp 14) rfl (u1.heap.size + 1) (.slice none 0 0) [] rfl (OwnP.empty _ _) K0 bl0 nb0 e0 HNB.out (by simp [Act.eval]) (HRD.out _ (HX1.out.trans ((show Below u1.heap.size u1 _ from by repeat (first | exact Below.refl _ _ | apply below_drew | refine Below.alloc ?_ (Nat.le_refl _) _)).mono HX1.out.size))) (fun x hx y hy a ha => ⟨by simp [Value.ownBlock], by have h9 := HAX.out x hx y hy a ha; simp; omega⟩) (by have := HNN.out; simp; omega) (by simp) ?_
           intro v9 w9 hown9 hb9 hg9
           rw [List.nil_append] at hown9
           obtain ⟨A9, e9, hv9, _⟩ := hown9.form
           subst hv9
           rw [← HNB.out] at hown9 ⊢
           have HO9 := Lib.hid hown9
           have hb9' : Below (u1.heap.size + 1) (u1.alloc (regObj none 0 0 false none 0 0)) w9 := (show Below (u1.heap.size + 1) (u1.alloc (regObj none 0 0 false none 0 0)) _ from below_drew (Below.refl _ _)).trans hb9
           have k0 := (hb9'.cell (p := ⟨u1.heap.size, 0, none⟩) (Nat.lt_succ_self _)).trans hZB.out.1
           have k1 := (hb9'.cell (p := ⟨u1.heap.size, 1, none⟩) (Nat.lt_succ_self _)).trans hZB.out.2.1
           have k2 := (hb9'.cell (p := ⟨u1.heap.size, 2, none⟩) (Nat.lt_succ_self _)).trans hZB.out.2.2.1
           have k3 := (hb9'.frozen (p := ⟨u1.heap.size, 0, none⟩) (Nat.lt_succ_self _)).trans (hZB.out.2.2.2 0)
           have k4 := (hb9'.frozen (p := ⟨u1.heap.size, 1, none⟩) (Nat.lt_succ_self _)).trans (hZB.out.2.2.2 1)
           have k5 := (hb9'.frozen (p := ⟨u1.heap.size, 2, none⟩) (Nat.lt_succ_self _)).trans (hZB.out.2.2.2 2)
           have HW9 : Hid (Below u1.heap.size u1 w9) := Lib.hid (((Below.refl _ _).alloc (Nat.le_refl _) _).trans (hb9'.mono (Nat.le_succ _)))
           obtain ⟨r0, r1, r2, rl⟩ := HB0.out w9 (HX1.out.trans (HW9.out.mono HX1.out.size))
           clear hown9 hb9 hg9 hb9')
        | (refine step_append_pt rfl (.const (.slice none 0 0)) (.tmp 14) rfl u1.heap.size (.slice none 0 0) [] rfl (OwnP.empty _ _) K0 bl0 nb0 e0 HNB.out (by simp [Act.eval]) (HRD.out _ (HX1.out.trans ((show Below u1.heap.size u1 _ from by repeat (first | exact Below.refl _ _ | apply below_drew | refine Below.alloc ?_ (Nat.le_refl _) _)).mono HX1.out.size))) (fun x hx y hy a ha => ⟨by simp [Value.ownBlock], by have h9 := HAX.out x hx y hy a ha; simp; omega⟩) (by have := HNN.out; simp; omega) (by simp) ?_
           intro v9 w9 hown9 hb9 hg9
           rw [List.nil_append] at hown9
           obtain ⟨A9, e9, hv9, _⟩ := hown9.form
           subst hv9
           rw [← HNB.out] at hown9 ⊢
           have HO9 := Lib.hid hown9
           have HW9 : Hid (Below u1.heap.size u1 w9) := Lib.hid ((show Below u1.heap.size u1 _ from by repeat (first | exact Below.refl _ _ | apply below_drew)).trans hb9)
           obtain ⟨r0, r1, r2, rl⟩ := HB0.out w9 (HX1.out.trans (HW9.out.mono HX1.out.size))
           clear hown9 hb9 hg9))
      all_goals (go_wp2_with fail; go_meet)
      all_goals first
        | exact ⟨w9.heap.size, A9, e9, rfl, GBox.new .., HW9.out.trans (((Below.refl _ _).alloc (Nat.le_refl _) _).mono HW9.out.size), HO9.out.below ((Below.refl _ _).alloc (Nat.le_refl _) _)⟩
        | (obtain ⟨q1, q2, q3⟩ := cut_storeR (A := A0) (n := nx0) (c := c0) (b := b0) HW9.out (Nat.le_refl _) (Nat.lt_succ_self _) k0 k1 k2 HO9.out HAX.out rfl
           exact ⟨u1.heap.size, A9, e9, rfl, q1, q2, q3.more (Nat.le_succ _)⟩)
    case rest =>
      obtain ⟨q, A9, e9, rfl, hgb, hb9, HO9⟩ := hcut
      have hX1c := HX1.out.trans (hb9.mono HX1.out.size)
      have HX1c := Lib.hid hX1c
      obtain ⟨k0_c, k1_c, k2_c, kl_c⟩ := HB0.out _ hX1c
      have HBC := Lib.hid (fun (w' : World) (hb : Below wc.heap.size wc w') => hgb.keep hb)
      have HWS := Lib.hid (fun (w' : World) (hb : Below wc.heap.size wc w') => (OwnP.rdB (m := bl0) (by rw [← HNB.out]; exact HO9.out : OwnP wc u1.heap.size (.slice A9 bl0.length e9) bl0)).keep hb)
      have HC0 := Lib.hid (Below.refl wc.heap.size wc)
      obtain ⟨j0_c, j1_c, j2_c, jl_c⟩ := hgb
      clear hX1c hb9 k0_HB01 k1_HB01 k2_HB01 kl_HB01
      go_wp2_with fail
      with_reducible refine (HSI.out _ HX1c.out).mono ?_
      rintro en u2 ⟨A8, xs8, c8, b8, K8, bl8, e8, rfl, hr8, hb2, _, _, _⟩
      have hX2 := HX1c.out.trans (hb2.mono HX1c.out.size)
      have HX2 := Lib.hid hX2
      obtain ⟨k0_HB02, k1_HB02, k2_HB02, kl_HB02⟩ := HB0.out _ hX2
      have hC2 := HC0.out.trans (hb2.mono HC0.out.size)
      have HC2 := Lib.hid hC2
      obtain ⟨k0_HBC2, k1_HBC2, k2_HBC2, kl_HBC2⟩ := HBC.out _ hC2
      have z2 := hX2.size
      simp only [World.alloc, Array.size_push] at z2
      have HR8 := Lib.hid (fun (w' : World) (hb : Below u2.heap.size u2 w') => hr8.keep hb)
      have HS8 := Lib.hid (fun (B : Option Addr) (ys : List ByteArray) (d : Nat) (f : Bool) (L : Option Addr) (cl : List BindV) (e2 : Nat) (w' : World) (hb : Below u2.heap.size u2 w') (hk : RegR w' B ys d f L cl e2 g0.simp) => HSS.out _ _ _ _ _ _ _ B ys d f L cl e2 g0.simp w' (hr8.keep hb) hk)
      clear hr8
      generalize xs8.length = nx8 at *
      generalize bl8.length = nb8 at *
      have HU0 := Lib.hid (Below.refl u2.heap.size u2)
      clear hb2 hX2 hC2 k0_c k1_c k2_c kl_c j0_c j1_c j2_c jl_c
      have ha2Y : Below (World.heap u2).size u2 (World.alloc u2 (regObj A8 nx8 c8 b8 K8 nb8 e8)) := (Below.refl _ _).alloc (Nat.le_refl _) _
      have hXa2Y := HX2.out.trans (ha2Y.mono HX2.out.size)
      have HXa2Y := Lib.hid hXa2Y
      obtain ⟨k0_HB0a2Y, k1_HB0a2Y, k2_HB0a2Y, kl_HB0a2Y⟩ := HB0.out _ hXa2Y
      have hCa2Y := HC2.out.trans (ha2Y.mono HC2.out.size)
      have HCa2Y := Lib.hid hCa2Y
      obtain ⟨k0_HBCa2Y, k1_HBCa2Y, k2_HBCa2Y, kl_HBCa2Y⟩ := HBC.out _ hCa2Y
      have hUa2Y := HU0.out.trans (ha2Y.mono HU0.out.size)
      have HUa2Y := Lib.hid hUa2Y
      have za2Y := hXa2Y.size
      simp only [World.alloc, Array.size_push] at za2Y
      have HY9 := Lib.hid (fun (w' : World) (hb : Below (World.heap (World.alloc u2 (regObj A8 nx8 c8 b8 K8 nb8 e8))).size (World.alloc u2 (regObj A8 nx8 c8 b8 K8 nb8 e8)) w') => (GBox.new ..).keep hb)
      have HY0 := Lib.hid (Below.refl (World.heap (World.alloc u2 (regObj A8 nx8 c8 b8 K8 nb8 e8))).size (World.alloc u2 (regObj A8 nx8 c8 b8 K8 nb8 e8)))
      obtain ⟨k0_HY9a2Y, k1_HY9a2Y, k2_HY9a2Y, kl_HY9a2Y⟩ := HY9.out _ HY0.out
      clear ha2Y hXa2Y hCa2Y hUa2Y k0_HB02 k1_HB02 k2_HB02 kl_HB02 k0_HBC2 k1_HBC2 k2_HBC2 kl_HBC2
      go_wp2_with fail
      with_reducible refine (HC.out _ HXa2Y.out).mono ?_
      rintro en u3 ⟨rfl, hb3⟩
      have hX3 := HXa2Y.out.trans (hb3.mono HXa2Y.out.size)
      have HX3 := Lib.hid hX3
      obtain ⟨k0_HB03, k1_HB03, k2_HB03, kl_HB03⟩ := HB0.out _ hX3
      have hC3 := HCa2Y.out.trans (hb3.mono HCa2Y.out.size)
      have HC3 := Lib.hid hC3
      obtain ⟨k0_HBC3, k1_HBC3, k2_HBC3, kl_HBC3⟩ := HBC.out _ hC3
      have hU3 := HUa2Y.out.trans (hb3.mono HUa2Y.out.size)
      have HU3 := Lib.hid hU3
      have hY3 := HY0.out.trans (hb3.mono HY0.out.size)
      have HY3 := Lib.hid hY3
      obtain ⟨k0_HY93, k1_HY93, k2_HY93, kl_HY93⟩ := HY9.out _ hY3
      have z3 := hX3.size
      simp only [World.alloc, Array.size_push] at z3
      clear hb3 hX3 hC3 hU3 hY3 k0_HB0a2Y k1_HB0a2Y k2_HB0a2Y kl_HB0a2Y k0_HBCa2Y k1_HBCa2Y k2_HBCa2Y kl_HBCa2Y k0_HY9a2Y k1_HY9a2Y k2_HY9a2Y kl_HY9a2Y
      go_wp2_with fail
      with_reducible refine (HSG2.out A9 e9 _ HX3.out (HWS.out _ HC3.out)).mono ?_
      rintro en u4 ⟨rfl, hb4⟩
      have hX4 := HX3.out.trans (hb4.mono HX3.out.size)
      have HX4 := Lib.hid hX4
      obtain ⟨k0_HB04, k1_HB04, k2_HB04, kl_HB04⟩ := HB0.out _ hX4
      have hC4 := HC3.out.trans (hb4.mono HC3.out.size)
      have HC4 := Lib.hid hC4
      obtain ⟨k0_HBC4, k1_HBC4, k2_HBC4, kl_HBC4⟩ := HBC.out _ hC4
      have hU4 := HU3.out.trans (hb4.mono HU3.out.size)
      have HU4 := Lib.hid hU4
      have hY4 := HY3.out.trans (hb4.mono HY3.out.size)
      have HY4 := Lib.hid hY4
      obtain ⟨k0_HY94, k1_HY94, k2_HY94, kl_HY94⟩ := HY9.out _ hY4
      have z4 := hX4.size
      simp only [World.alloc, Array.size_push] at z4
      clear hb4 hX4 hC4 hU4 hY4 k0_HB03 k1_HB03 k2_HB03 kl_HB03 k0_HBC3 k1_HBC3 k2_HBC3 kl_HBC3 k0_HY93 k1_HY93 k2_HY93 kl_HY93
      have hke := fun (w' : World) (hb : Below u4.heap.size u4 w') => And.intro (HB0.out w' (HX4.out.trans (hb.mono HX4.out.size))) (HY9.out w' (HY4.out.trans (hb.mono HY4.out.size)))
      have HKE := Lib.hid (fun (w' : World) (hb : Below u4.heap.size u4 w') => show w'.cell? ⟨w.heap.size, 0, none⟩ = some (.slice A0 nx0 c0) ∧ w'.cell? ⟨w.heap.size, 1, none⟩ = some (.bool b0) ∧ w'.cell? ⟨w.heap.size, 2, none⟩ = some (.slice K0 nb0 e0) ∧ w'.cell? ⟨u2.heap.size, 0, none⟩ = some (.slice A8 nx8 c8) ∧ w'.cell? ⟨u2.heap.size, 1, none⟩ = some (.bool b8) ∧ w'.cell? ⟨u2.heap.size, 2, none⟩ = some (.slice K8 nb8 e8) from ⟨(hke w' hb).1.c0, (hke w' hb).1.c1, (hke w' hb).1.c2, (hke w' hb).2.c0, (hke w' hb).2.c1, (hke w' hb).2.c2⟩)
      clear hke
      have G1 := Lib.hid (fun (w' : World) (hb : Below u4.heap.size u4 w') => HGS.out w' (HX4.out.trans (hb.mono HX4.out.size)))
      have G2 := Lib.hid (fun (B : Option Addr) (ys : List ByteArray) (d : Nat) (f : Bool) (L : Option Addr) (cl : List BindV) (e2 : Nat) (w' : World) (hb : Below u4.heap.size u4 w') (hk : RegR w' B ys d f L cl e2 g0.simp) => HS8.out B ys d f L cl e2 w' (HU4.out.trans (hb.mono HU4.out.size)) hk)
      go_upto_region 10 with fail
      set_option maxRecDepth 100000 in
      go_region_held3 (fun w' => w'.cell? ⟨w.heap.size, 0, none⟩ = some (.slice A0 nx0 c0) ∧ w'.cell? ⟨w.heap.size, 1, none⟩ = some (.bool b0) ∧ w'.cell? ⟨w.heap.size, 2, none⟩ = some (.slice K0 nb0 e0) ∧ w'.cell? ⟨u2.heap.size, 0, none⟩ = some (.slice A8 nx8 c8) ∧ w'.cell? ⟨u2.heap.size, 1, none⟩ = some (.bool b8) ∧ w'.cell? ⟨u2.heap.size, 2, none⟩ = some (.slice K8 nb8 e8))
        (first | exact HKE.out _ b8_ | exact HKE.out _ b7_ | exact HKE.out _ b6_ | exact HKE.out _ (below_drew (Below.refl _ _)) | exact HKE.out _ (Below.refl _ _) | go_keep)
        (first
          | (go_at_call 16; with_reducible refine (HAw.out _).mono ?_; intro e w8 hh; unfold GivesBB at hh; obtain ⟨rfl, hb8⟩ := hh
             have b8_ : Below u4.heap.size u4 w8 := b7_.trans (hb8.mono b7_.size))
          | (go_at_call 19; have hcc := hs7; rw [← HNX.out] at hcc; with_reducible refine hcc.mono ?_; intro e w7 hh; unfold GivesBB at hh; obtain ⟨rfl, hb7⟩ := hh
             have b7_ : Below u4.heap.size u4 w7 := b6_.trans (hb7.mono b6_.size))
          | (go_at_call 20; have hcc := G1.out _ (below_drew (Below.refl _ _)); with_reducible refine hcc.mono ?_; intro e w6 hh; unfold GivesGR at hh; obtain ⟨K6, ol6, f6, rfl, hr6, hb6, _, _⟩ := hh
             rw [← HNX.out]
             have b6_ : Below u4.heap.size u4 w6 := (below_drew (Below.refl _ _)).trans hb6
             have hs7 := G2.out _ _ _ _ _ _ _ w6 b6_ hr6
             clear hr6))
      go_wp2
      go_ret
      exact ⟨rfl, HAL.out.trans ((HX4.out.trans (b8_.mono HX4.out.size)).mono HAL.out.size)⟩

end Go.Proofs.YtpdkecchpidhdaaGreatDoor.regionSimplifies
