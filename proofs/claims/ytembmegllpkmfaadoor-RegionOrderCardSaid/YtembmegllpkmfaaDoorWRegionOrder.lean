/- RegionOrder returns true at every region and every integer (the card: the variables that it lists hold what the program text lays). Conditions: none of its own. -/
import Derived.Test.YtembmegllpkmfaaDoorCards
import Derived.Test.YtembmegllpkmfaaDoorTie
import Derived.WalkKit
import Derived.ProofKit
import Derived.OpenShut
import Derived.ShutString
import Derived.Test.YtembmegllpkmfaaDoorPatOpen
import Derived.Test.YtembmegllpkmfaaDoorRegOpen
import Derived.Test.YtembmegllpkmfaaDoorRegAwake
import Derived.Test.YtembmegllpkmfaaDoorRegShort
import Derived.Test.YtembmegllpkmfaaDoorRegOrdM
import Derived.Test.YtembmegllpkmfaaDoorRegOrdL
namespace Go.Proofs.YtembmegllpkmfaaDoor.regionOrder
open Go.ChangeShapes Go.WideShapes Go.ChangeAt Go.RowKit
open Go.ChangeMaps (open_string shut_string)
set_option linter.unusedVariables false

set_option maxHeartbeats 8000000 in
theorem walk (w : World) (A0 : Option Addr) (xs0 : List ByteArray) (c0 : Nat) (b0 : Bool) (K0 : Option Addr) (bl0 : List BindV) (e0 : Nat) (hg0 : RegR w A0 xs0 c0 b0 K0 bl0 e0 ⟨⟨bs xs0, b0⟩, bl0.map BindV.pat⟩) (hz0 : ∀ x ∈ xs0, x.size ≤ 140737488355000) (hy0 : ∀ x ∈ bl0, ∀ y ∈ x.xs, y.size ≤ 140737488355000) (hx0 : xs0.length ≤ 140737488355328) (hl0 : ∀ x ∈ bl0, x.xs.length ≤ 140737488355328) (z1 : Int) (u1 : (Lit.int .i64 z1).wf = true) (hm : MaxL w) :
    Calls Tryd.prog 3 #[regV A0 xs0.length c0 b0 K0 bl0.length e0, .int .i64 z1] w fun e w' => e = .returned (.bool true) ∧ Below w.heap.size w w' := by
  obtain ⟨W0, hW0⟩ : ∃ W0, W0 = w.alloc (regObj A0 xs0.length c0 b0 K0 bl0.length e0) := ⟨_, rfl⟩
  have hal : Below w.heap.size w W0 := by rw [hW0]; exact (Below.refl _ _).alloc (Nat.le_refl _) _
  have HX0 := Lib.hid (Below.refl W0.heap.size W0)
  have HAL := Lib.hid hal
  have hgb0 : GBox W0 w.heap.size A0 xs0.length c0 b0 K0 bl0.length e0 := by rw [hW0]; exact GBox.new ..
  have HB0 := Lib.hid (fun (w' : World) (hb : Below W0.heap.size W0 w') => hgb0.keep hb)
  have hm0 := hm.keep hal hm.size
  have HMX := Lib.hid (fun (w' : World) (hb : Below W0.heap.size W0 w') => hm0.keep hb hm0.size)
  have HAw := Lib.hid (fun (w' : World) => awake5_any w')
  have HSm0 := Lib.hid (fun (w' : World) (hb : Below W0.heap.size W0 w') => small5_any A0 xs0 c0 b0 K0 bl0 e0 _ w' (hg0.keep (hal.trans (hb.mono hal.size))) hx0 hl0)
  generalize hs0 : smallG xs0 bl0 = sm0 at HSm0
  cases sm0 with
  | false =>
    clear hg0 hz0 hy0 hx0 hl0
    clear hs0
    generalize xs0.length = nx0 at *
    generalize bl0.length = nb0 at *
    obtain ⟨k0_, k1_, k2_, kl_⟩ := hgb0
    subst hW0
    clear hal hm0
    go_enter Tryd.func3, Tryd.ntmps3
    go_wp2_with fail
    with_reducible refine (HSm0.out _ HX0.out).mono ?_
    rintro en u1 ⟨rfl, hb1⟩
    have hX1 := HX0.out.trans (hb1.mono HX0.out.size)
    have HX1 := Lib.hid hX1
    obtain ⟨k0_HB01, k1_HB01, k2_HB01, kl_HB01⟩ := HB0.out _ hX1
    have z1 := hX1.size
    simp only [World.alloc, Array.size_push] at z1
    clear hb1 hX1 k0_ k1_ k2_ kl_
    go_wp2_with fail
    with_reducible refine (HAw.out _).mono ?_
    rintro en u2 ⟨rfl, hb2⟩
    have hX2 := HX1.out.trans (hb2.mono HX1.out.size)
    have HX2 := Lib.hid hX2
    obtain ⟨k0_HB02, k1_HB02, k2_HB02, kl_HB02⟩ := HB0.out _ hX2
    have z2 := hX2.size
    simp only [World.alloc, Array.size_push] at z2
    clear hb2 hX2 k0_HB01 k1_HB01 k2_HB01 kl_HB01
    go_wp2
    go_ret
    exact ⟨rfl, HAL.out.trans (HX2.out.mono HAL.out.size)⟩
  | true =>
    have sz0 := small_szG (b := b0) hs0
    obtain ⟨f0, f0a, f0b, f0c, f0d⟩ := smallG_facts hs0
    clear hs0
    obtain ⟨g0, hgg0⟩ : ∃ g : Pt.Rg.Reg, g = ⟨⟨bs xs0, b0⟩, bl0.map BindV.pat⟩ := ⟨_, rfl⟩
    rw [← hgg0] at hg0 sz0
    clear hgg0
    have hzb : z1 ≤ 9223372036854775807 := by
      have h9 := u1
      simp [Lit.wf] at h9
      first | exact h9.2 | exact h9 | omega
    clear u1
    have HSI := Lib.hid (fun (w' : World) (hb : Below W0.heap.size W0 w') => simplify_any A0 xs0 c0 b0 K0 bl0 e0 g0 w' (hg0.keep (hal.trans (hb.mono hal.size))) (sz0.short (by decide)))
    by_cases cc : bl0.length = 0
    · have i1 : ((bl0.length : Int) == 0) = true := by rw [cc]; rfl
      clear hg0 hz0 hy0 hx0 hl0
      clear sz0 f0 f0a f0b f0c f0d cc hzb HSI
      generalize xs0.length = nx0 at *
      generalize bl0.length = nb0 at *
      obtain ⟨k0_, k1_, k2_, kl_⟩ := hgb0
      subst hW0
      clear hal hm0
      go_enter Tryd.func3, Tryd.ntmps3
      go_wp2_with fail
      with_reducible refine (HSm0.out _ HX0.out).mono ?_
      rintro en u1 ⟨rfl, hb1⟩
      have hX1 := HX0.out.trans (hb1.mono HX0.out.size)
      have HX1 := Lib.hid hX1
      obtain ⟨k0_HB01, k1_HB01, k2_HB01, kl_HB01⟩ := HB0.out _ hX1
      have z1 := hX1.size
      simp only [World.alloc, Array.size_push] at z1
      clear hb1 hX1 k0_ k1_ k2_ kl_
      go_wp2_with fail
      with_reducible refine (HAw.out _).mono ?_
      rintro en u2 ⟨rfl, hb2⟩
      have hX2 := HX1.out.trans (hb2.mono HX1.out.size)
      have HX2 := Lib.hid hX2
      obtain ⟨k0_HB02, k1_HB02, k2_HB02, kl_HB02⟩ := HB0.out _ hX2
      have z2 := hX2.size
      simp only [World.alloc, Array.size_push] at z2
      clear hb2 hX2 k0_HB01 k1_HB01 k2_HB01 kl_HB01
      go_wp2
      go_ret
      exact ⟨rfl, HAL.out.trans (HX2.out.mono HAL.out.size)⟩
    have i1 : ((bl0.length : Int) == 0) = false := by rw [beq_eq_false_iff_ne]; omega
    have hpos : 0 < bl0.length := by omega
    clear cc
    have HPOS := Lib.hid hpos
    clear hpos
    by_cases cc : 64 ≤ bl0.length
    · have i2 : (64 : Int) ≤ (bl0.length : Int) := by omega
      clear hg0 hz0 hy0 hx0 hl0
      clear sz0 f0 f0a f0b f0c f0d cc hzb HSI
      generalize xs0.length = nx0 at *
      generalize bl0.length = nb0 at *
      obtain ⟨k0_, k1_, k2_, kl_⟩ := hgb0
      subst hW0
      clear hal hm0
      go_enter Tryd.func3, Tryd.ntmps3
      go_wp2_with fail
      with_reducible refine (HSm0.out _ HX0.out).mono ?_
      rintro en u1 ⟨rfl, hb1⟩
      have hX1 := HX0.out.trans (hb1.mono HX0.out.size)
      have HX1 := Lib.hid hX1
      obtain ⟨k0_HB01, k1_HB01, k2_HB01, kl_HB01⟩ := HB0.out _ hX1
      have z1 := hX1.size
      simp only [World.alloc, Array.size_push] at z1
      clear hb1 hX1 k0_ k1_ k2_ kl_
      go_wp2_with fail
      with_reducible refine (HAw.out _).mono ?_
      rintro en u2 ⟨rfl, hb2⟩
      have hX2 := HX1.out.trans (hb2.mono HX1.out.size)
      have HX2 := Lib.hid hX2
      obtain ⟨k0_HB02, k1_HB02, k2_HB02, kl_HB02⟩ := HB0.out _ hX2
      have z2 := hX2.size
      simp only [World.alloc, Array.size_push] at z2
      clear hb2 hX2 k0_HB01 k1_HB01 k2_HB01 kl_HB01
      go_wp2
      go_ret
      exact ⟨rfl, HAL.out.trans (HX2.out.mono HAL.out.size)⟩
    have i2 : ¬ (64 : Int) ≤ (bl0.length : Int) := by omega
    have HLT := Lib.hid (Nat.lt_of_not_le cc)
    clear cc
    by_cases cc : z1 < 0
    · have i3 : z1 < 0 := cc
      clear hg0 hz0 hy0 hx0 hl0
      clear sz0 f0 f0a f0b f0c f0d cc hzb HSI
      generalize xs0.length = nx0 at *
      generalize bl0.length = nb0 at *
      obtain ⟨k0_, k1_, k2_, kl_⟩ := hgb0
      subst hW0
      clear hal hm0
      go_enter Tryd.func3, Tryd.ntmps3
      go_wp2_with fail
      with_reducible refine (HSm0.out _ HX0.out).mono ?_
      rintro en u1 ⟨rfl, hb1⟩
      have hX1 := HX0.out.trans (hb1.mono HX0.out.size)
      have HX1 := Lib.hid hX1
      obtain ⟨k0_HB01, k1_HB01, k2_HB01, kl_HB01⟩ := HB0.out _ hX1
      have z1 := hX1.size
      simp only [World.alloc, Array.size_push] at z1
      clear hb1 hX1 k0_ k1_ k2_ kl_
      go_wp2_with fail
      with_reducible refine (HAw.out _).mono ?_
      rintro en u2 ⟨rfl, hb2⟩
      have hX2 := HX1.out.trans (hb2.mono HX1.out.size)
      have HX2 := Lib.hid hX2
      obtain ⟨k0_HB02, k1_HB02, k2_HB02, kl_HB02⟩ := HB0.out _ hX2
      have z2 := hX2.size
      simp only [World.alloc, Array.size_push] at z2
      clear hb2 hX2 k0_HB01 k1_HB01 k2_HB01 kl_HB01
      go_wp2
      go_ret
      exact ⟨rfl, HAL.out.trans (HX2.out.mono HAL.out.size)⟩
    have i3 : ¬ z1 < 0 := cc
    obtain ⟨t, ht⟩ : ∃ t : Nat, z1 = (t : Int) := ⟨z1.toNat, by omega⟩
    subst ht
    clear cc
    obtain ⟨sreg, hsreg⟩ : ∃ r, r = (if Pt.Rg.gcheck g0 = 0 then g0.simp else ⟨Pt.none_, []⟩) := ⟨_, rfl⟩
    obtain ⟨kk, hkk⟩ : ∃ k, k = Pt.Rg.gcheck g0 := ⟨_, rfl⟩
    rw [← hsreg, ← hkk] at HSI
    have HHS := Lib.hid (fun (H : Option Addr) (m : List BindV) (e : Nat) (w' : World) (hb : Below W0.heap.size W0 w') (hr : RdB w' H m e) (hm : m.map BindV.pat = Pt.Rg.rotL g0.holes t (g0.holes.length + 1)) => show Calls Tryd.prog 6 #[regV A0 xs0.length c0 b0 H m.length e] w' (GivesGN w' sreg kk) from by
      have hlen : g0.holes.length = bl0.length := reg_len hg0
      obtain ⟨o1, o2⟩ := Pt.Rg.order_pure g0.base g0.holes t (by have := HPOS.out; omega) (by have := HLT.out; omega)
      have hreg : RegR w' A0 xs0 c0 b0 H m e ⟨g0.base, Pt.Rg.rotL g0.holes t (g0.holes.length + 1)⟩ := ⟨(hg0.keep (hal.trans (hb.mono hal.size))).base, hr, hm⟩
      have hsz : SzG 60 ⟨g0.base, Pt.Rg.rotL g0.holes t (g0.holes.length + 1)⟩ := ⟨sz0.1, fun x hx => sz0.2 x ((Pt.Rg.rot_mem t (by have := HPOS.out; omega) x).1 hx)⟩
      have h9 := simplify_any A0 xs0 c0 b0 H m e ⟨g0.base, Pt.Rg.rotL g0.holes t (g0.holes.length + 1)⟩ w' hreg (hsz.short (by decide))
      rw [o1, o2] at h9
      rw [hsreg, hkk]
      exact h9)
    have HGH := Lib.hid (fun (w' : World) (hb : Below W0.heap.size W0 w') => (hg0.keep (hal.trans (hb.mono hal.size))).holes)
    have HEQ : Hid (bl0.map BindV.pat = g0.holes) := Lib.hid hg0.eq
    have HAXB : Hid (∀ x ∈ bl0, ∀ y ∈ adr x.A x.xs, ∀ a, y = some a → a.block < w.heap.size) := Lib.hid fun x hx y hy a ha => (hg0.holes.parts x hx).adr_lt y hy a ha
    have HKB : Hid (∀ (q0 o0 : Nat), K0 = some ⟨q0, o0, none⟩ → q0 < w.heap.size) := Lib.hid (fun q0 o0 h0 => by
      obtain ⟨g1, o1, h1, h2, _⟩ := hg0.holes.at (by have := HPOS.out; omega)
      rw [h0] at h1
      injection h1 with h1
      injection h1 with h1
      omega)
    obtain ⟨n, hn⟩ : ∃ n, n = bl0.length := ⟨_, rfl⟩
    have HN := Lib.hid hn
    clear hn
    have SAME := Lib.hid (fun (A : Option Addr) (xs : List ByteArray) (c : Nat) (b : Bool) (H : Option Addr) (bl : List BindV) (e : Nat) (B : Option Addr) (ys : List ByteArray) (d : Nat) (f : Bool) (L : Option Addr) (cl : List BindV) (e2 : Nat) (w' : World) (hr : RegR w' A xs c b H bl e sreg) (hk : RegR w' B ys d f L cl e2 sreg) => same_regs A xs c b H bl e B ys d f L cl e2 sreg w' hr hk)
    clear hsreg hkk
    clear hg0 hz0 hy0 hx0 hl0
    clear sz0 f0 f0a f0b f0c f0d
    obtain ⟨nx0, hnx⟩ : ∃ n, n = xs0.length := ⟨_, rfl⟩
    obtain ⟨nb0, hnb⟩ : ∃ n, n = bl0.length := ⟨_, rfl⟩
    have HNX := Lib.hid hnx
    have HNB := Lib.hid hnb
    rw [← hnx, ← hnb] at hW0 HB0 HSm0 HSI hgb0
    rw [← hnx] at HHS
    rw [← hnb] at i1 i2
    rw [← hnx, ← hnb]
    clear hnx hnb
    obtain ⟨k0_, k1_, k2_, kl_⟩ := hgb0
    subst hW0
    clear hal hm0
    go_enter Tryd.func3, Tryd.ntmps3
    go_wp2_with fail
    with_reducible refine (HSm0.out _ HX0.out).mono ?_
    rintro en u1 ⟨rfl, hb1⟩
    have hX1 := HX0.out.trans (hb1.mono HX0.out.size)
    have HX1 := Lib.hid hX1
    obtain ⟨k0_HB01, k1_HB01, k2_HB01, kl_HB01⟩ := HB0.out _ hX1
    have z1 := hX1.size
    simp only [World.alloc, Array.size_push] at z1
    clear hb1 hX1 k0_ k1_ k2_ kl_
    obtain ⟨V, hV⟩ : ∃ V, V = u1.alloc (regObj A0 nx0 c0 b0 none 0 0) := ⟨_, rfl⟩
    have hbV : Below u1.heap.size u1 V := by rw [hV]; exact (Below.refl _ _).alloc (Nat.le_refl _) _
    have HBV := Lib.hid hbV
    have hgbV : GBox V u1.heap.size A0 nx0 c0 b0 none 0 0 := by rw [hV]; exact GBox.new ..
    have HGV := Lib.hid hgbV
    have HFV : Hid (∀ i, V.frozen? ⟨u1.heap.size, i, none⟩ = false) := Lib.hid fun i => by rw [hV]; simp [regObj]
    have HUX := Lib.hid HX1.out
    clear hbV hgbV
    go_upto_region 5 with fail
    generalize hwg : u1.alloc (regObj A0 nx0 c0 b0 none 0 0) = V2 at *
    have hWW : V2 = V := hwg.symm.trans (hwg.trans hV.symm)
    subst hWW
    clear hwg hV
    obtain ⟨q, hq⟩ : ∃ q, q = u1.heap.size := ⟨_, rfl⟩
    have HQ := Lib.hid hq
    rw [← hq] at HGV HFV
    rw [← hq]
    clear hq k0_HB01 k1_HB01 k2_HB01 kl_HB01
    have HKQ : Hid (∀ (q0 o0 : Nat), K0 = some ⟨q0, o0, none⟩ → q0 ≠ q) := Lib.hid (fun q0 o0 h0 h9 => by
      have h1 := HKB.out q0 o0 h0
      have h3 := HQ.out
      have h4 := (HB0.out _ (Below.refl _ _)).lt
      have h5 := HUX.out.size
      omega)
    go_wp2
    go_loopg [7] (nb0 + 1) (fun gg s7 wx => ∃ (k e9 : Nat) (A9 : Option Addr), k + gg = nb0 + 1 ∧ s7 = .int .i64 (k : Int) ∧ Below u1.heap.size u1 wx ∧ GBox wx q A0 nx0 c0 b0 A9 k e9 ∧ (∀ i, wx.frozen? ⟨q, i, none⟩ = false) ∧ Aside (∃ m : List BindV, k = m.length ∧ OwnP wx (q + 1) (.slice A9 m.length e9) m ∧ m.map BindV.pat = Pt.Rg.rotL g0.holes t k ∧ ∀ x ∈ m, x ∈ bl0))
    case atStart => exact ⟨0, 0, none, by omega, rfl, HBV.out, HGV.out, HFV.out, [], rfl, OwnP.empty _ _, rfl, fun x h => (by cases h)⟩
    case round =>
      obtain ⟨k, e9, A9, hk, rfl, hbw, hgb, hfz, HA⟩ := hrel
      obtain ⟨m, hkm, hown, hacc, hmem⟩ := HA.out
      have HMB := Lib.hid hmem
      have HBW := Lib.hid hbw
      have HGB := Lib.hid hgb
      have HFZ := Lib.hid hfz
      have HKM := Lib.hid hkm
      have HOW := Lib.hid hown
      have HAC := Lib.hid hacc
      have HKK := Lib.hid hk
      have hX := HX1.out.trans (hbw.mono HX1.out.size)
      have HXW := Lib.hid hX
      by_cases hkn : k ≤ nb0
      · have i4 : (k : Int) ≤ (nb0 : Int) := by omega
        have hnz : 0 < nb0 := by have h1 := HPOS.out; have h2 := HNB.out; omega
        have hnl : nb0 < 64 := by have h1 := HLT.out; have h2 := HNB.out; omega
        have i5 : ((nb0 : Int) == 0) = false := i1
        have i6 : ¬ (nb0 : Int) = 0 := by omega
        have i9 : ¬ nb0 = 0 := by omega
        have m1 := Nat.mod_lt k hnz
        have m2 := Nat.mod_lt t hnz
        have r1 : Int.tmod (k : Int) (nb0 : Int) = ((k % nb0 : Nat) : Int) := rfl
        have r3 : Int.tmod (t : Int) (nb0 : Int) = ((t % nb0 : Nat) : Int) := rfl
        have m3 := Nat.mod_lt (nb0 - k % nb0 + t % nb0) hnz
        have r5 : Int.tmod ((nb0 - k % nb0 + t % nb0 : Nat) : Int) (nb0 : Int) = (((nb0 - k % nb0 + t % nb0) % nb0 : Nat) : Int) := rfl
        obtain ⟨j, hj⟩ : ∃ j, j = (nb0 - k % nb0 + t % nb0) % nb0 := ⟨_, rfl⟩
        have HJ : Hid (j = (nb0 - k % nb0 + t % nb0) % nb0) := Lib.hid hj
        have HJ2 : Hid ((g0.holes.length - k % g0.holes.length + t % g0.holes.length) % g0.holes.length = j) := Lib.hid (by rw [show g0.holes.length = nb0 by rw [← HEQ.out, List.length_map, HNB.out]]; exact hj.symm)
        rw [← hj] at r5 m3
        clear hj
        generalize k % nb0 = kn at *
        generalize t % nb0 = tn at *
        obtain ⟨dn, hdn⟩ : ∃ d, d = nb0 - kn := ⟨_, rfl⟩
        rw [← hdn] at r5 HJ
        have r2 : IntKind.i64.wrap ((nb0 : Int) - (kn : Int)) = (dn : Int) := by rw [show (nb0 : Int) - (kn : Int) = (dn : Int) by omega]; exact IntWalk.i64_in _ (by omega)
        have hdb : dn ≤ 64 := by omega
        clear hdn
        obtain ⟨sn, hsn⟩ : ∃ x, x = dn + tn := ⟨_, rfl⟩
        rw [← hsn] at r5 HJ
        have r4 : IntKind.i64.wrap ((dn : Int) + (tn : Int)) = (sn : Int) := by rw [show (dn : Int) + (tn : Int) = (sn : Int) by omega]; exact IntWalk.i64_in _ (by omega)
        clear hsn hdb m1 m2
        have hjb : j < bl0.length := by rw [← HNB.out]; exact m3
        have i7 : (j : Int) < (nb0 : Int) := by omega
        have i8 : (0 : Int) ≤ (j : Int) := Int.natCast_nonneg _
        have hgh := HGH.out wr hX
        obtain ⟨q0, o0, hK0, hq0, hcell⟩ := hgh.at (by omega)
        have HQG : Hid (q0 < w.heap.size) := Lib.hid (HKB.out _ _ hK0)
        obtain ⟨c0_, c1_⟩ := hcell j hjb
        have hpy := hgh.parts _ (List.getElem_mem hjb)
        have hax := HAXB.out _ (List.getElem_mem hjb)
        have hpat : Hid (bl0[j].pat = g0.holes.getD j Pt.none_) := Lib.hid (by rw [← HEQ.out, List.getD_eq_getElem?_getD, List.getElem?_map, List.getElem?_eq_getElem hjb]; rfl)
        obtain ⟨b0a, b0b, b0c, b0l⟩ := HB0.out wr hX
        obtain ⟨ha, hb_, hc, hl⟩ := hgb
        have y0 := hfz 2
        have HNEW := Lib.hid (fun (w' : World) (hb : Below wr.heap.size wr w') => newP w' bl0[j] (hpy.keep hb))
        have HKE := Lib.hid (fun (w' : World) (hb : Below wr.heap.size wr w') => show w'.cell? ⟨w.heap.size, 2, none⟩ = some (.slice K0 nb0 e0) ∧ w'.cell? ⟨q0, o0 + j * 2, none⟩ = some (.slice bl0[j].A bl0[j].xs.length bl0[j].c) ∧ w'.cell? ⟨q0, o0 + j * 2 + 1, none⟩ = some (.bool bl0[j].b) from
          ⟨(hb.cell (p := ⟨w.heap.size, 2, none⟩) b0l).trans b0c, (hb.cell (p := ⟨q0, o0 + j * 2, none⟩) hq0).trans c0_, (hb.cell (p := ⟨q0, o0 + j * 2 + 1, none⟩) hq0).trans c1_⟩)
        have HAX : Hid (∀ y ∈ adr bl0[j].A bl0[j].xs, ∀ a, y = some a → a.block < w.heap.size) := Lib.hid hax
        have HLT2 : Hid (w.heap.size < u1.heap.size) := Lib.hid (Nat.lt_of_lt_of_le (HB0.out _ (Below.refl _ _)).lt HUX.out.size)
        have HQL : Hid (q < wr.heap.size) := Lib.hid hl
        have HQ0 : Hid (q0 < wr.heap.size) := Lib.hid hq0
        have HYM : Hid (bl0[j] ∈ bl0) := Lib.hid (List.getElem_mem hjb)
        generalize hyk : bl0[j] = y at *
        clear hyk
        generalize hnk : y.xs.length = nk at *
        have HNK := Lib.hid hnk
        clear hmem hnk hpy hax hcell hgh hjb hnz hnl m3 hkm hown hacc hbw hfz hX HA hk hkn
        subst hK0
        go_upto_region 8 with fail
        go_region_law (first
            | (refine step_append_pt rfl _ _ rfl (q + 1) (.slice A9 k e9) m (by rfl) (by rw [HKM.out]; exact HOW.out.below (below_drew ((Below.refl _ _).alloc (Nat.le_refl _) (.cells #[.slice y.A nk y.c, .bool y.b] 24)))) (some ⟨wr.heap.size, 0, none⟩) [y] 1 1 rfl (by rfl) ((HNEW.out wr (Below.refl _ _)).keep (below_drew (Below.refl _ _))) (fun z hz v hv a ha => by
                 rw [List.mem_singleton.1 hz] at hv
                 have h1 := HAX.out v hv a ha
                 have h2 := HLT2.out
                 have h3 := HQ.out
                 have h4 := HQL.out
                 exact ⟨fun h9 => by rw [HKM.out] at h9; have h5 := (HOW.out.lt _ h9).1; omega, by simp; omega⟩) (by have h1 := HKM.out; have h2 := HKK.out; have h3 := HNB.out; have h5 := HLT.out; simp; omega) (by have h4 := HQL.out; simp; omega) ?_
               intro v9 w9 hown9 hb9 hg9
               obtain ⟨A10, e10, hfv, _⟩ := hown9.form
               have HO9 := Lib.hid (show OwnP w9 (q + 1) (.slice A10 (m ++ [y]).length e10) (m ++ [y]) from by rw [← hfv]; exact hown9)
               rw [show (m ++ [y]).length = k + 1 by rw [List.length_append, ← HKM.out]; rfl] at hfv
               subst hfv
               have hbw9 : Below wr.heap.size wr (World.drew (wr.alloc (.cells #[.slice y.A nk y.c, .bool y.b] 24))) := below_drew ((Below.refl _ _).alloc (Nat.le_refl _) _)
               have hne : ∀ z, z = w.heap.size ∨ z = q ∨ z = q0 → some z ≠ (Value.slice A9 k e9).ownBlock := fun z hz h9 => by
                 rw [HKM.out] at h9
                 have h5 := (HOW.out.lt _ h9.symm).1
                 have h2 := HLT2.out
                 have h3 := HQ.out
                 have h6 := HQ0.out
                 have h7 := HQG.out
                 rcases hz with h | h | h <;> omega
               have hc9 := HKE.out _ hbw9
               have p9_ : w9.cell? ⟨w.heap.size, 2, none⟩ = some (.slice (some ⟨q0, o0, none⟩) nb0 e0) ∧ w9.cell? ⟨q0, o0 + j * 2, none⟩ = some (.slice y.A nk y.c) ∧ w9.cell? ⟨q0, o0 + j * 2 + 1, none⟩ = some (.bool y.b) :=
                 ⟨hg9.cell hc9.1 (hne _ (.inl rfl)), hg9.cell hc9.2.1 (hne _ (.inr (.inr rfl))), hg9.cell hc9.2.2 (hne _ (.inr (.inr rfl)))⟩

               have HB9 : Hid (Below u1.heap.size u1 w9) := Lib.hid ((HBW.out.trans (hbw9.mono HBW.out.size)).trans (hb9.mono (by have h3 := HQ.out; omega)))
               have HGB9 : Hid (GBox w9 q A0 nx0 c0 b0 A9 k e9) := Lib.hid ((HGB.out.keep hbw9).grow hg9 (fun h9 => hne q (.inr (.inl rfl)) h9.symm))
               have HFZ9 : Hid (∀ i, w9.frozen? ⟨q, i, none⟩ = false) := Lib.hid (fun i => (frozen_grown hg9 (Nat.lt_of_lt_of_le HQL.out hbw9.size) (hne q (.inr (.inl rfl)))).trans ((hbw9.frozen (p := ⟨q, i, none⟩) HQL.out).trans (HFZ.out i)))
               have y1 := HFZ9.out 2
               have z1_ := HGB9.out.c2
               have n1_ : some w.heap.size ≠ some q := fun h9 => by have h8 := Option.some.inj h9; have h2 := HLT2.out; have h3 := HQ.out; omega
               have n2_ : some q0 ≠ some q := fun h9 => by have h8 := Option.some.inj h9; have h2 := HLT2.out; have h3 := HQ.out; have h7 := HQG.out; omega
               have NE := Lib.hid (And.intro n1_ n2_)
               clear n1_ n2_
               clear hown9 hb9 hg9 hbw9 hne hc9))
        all_goals
          go_wp2
          go_roundg (nb0 + 1 - (k + 1))
          case measure => go_light; have := HKK.out; omega
          case rel =>
            go_light
            have hln : (m ++ [y]).length = k + 1 := by rw [List.length_append, ← HKM.out]; rfl
            obtain ⟨o1, o2, o3, o4⟩ := ord_store (V := u1) (H' := A10) (m' := k + 1) (e' := e10) HGB9.out HFZ9.out HB9.out (Nat.le_of_eq HQ.out.symm) (by have h9 := HO9.out; exact h9) (fun x hx v hv a ha h9 => by
              have hxb : x ∈ bl0 := by
                rcases List.mem_append.1 hx with hx | hx
                · exact HMB.out x hx
                · rw [List.mem_singleton.1 hx]; exact HYM.out
              have h1 := HAXB.out x hxb v hv a ha
              have h2 := HLT2.out
              have h3 := HQ.out
              omega) rfl
            refine ⟨k + 1, e10, A10, by have := HKK.out; omega, by go_num, o3, o1, o2, m ++ [y], hln.symm, o4, ?_, fun x hx => ?_⟩
            · rw [Pt.Rg.rotL_succ, List.map_append, HAC.out, List.map_cons, List.map_nil, hpat.out, HJ2.out]
            · rcases List.mem_append.1 hx with hx | hx
              · exact HMB.out x hx
              · rw [List.mem_singleton.1 hx]; exact HYM.out
      · have i4 : ¬ (k : Int) ≤ (nb0 : Int) := by omega
        have hk2 : k = nb0 + 1 := by omega
        have hgl : g0.holes.length = nb0 := by rw [← HEQ.out, List.length_map, HNB.out]
        have HC2 := Lib.hid (fun (w' : World) (hb : Below wr.heap.size wr w') => show Calls Tryd.prog 6 #[regV A0 nx0 c0 b0 A9 k e9] w' (GivesGN w' sreg kk) from by
          have h9 := HHS.out A9 m e9 w' (hX.trans (hb.mono hX.size)) ((hown.below hb).rdB) (by rw [hacc, hgl, hk2])
          rw [← hkm] at h9
          exact h9)
        have HC1 := Lib.hid (HSI.out wr hX)
        have HGK := Lib.hid (fun (w' : World) (hb : Below wr.heap.size wr w') => hgb.keep hb)
        obtain ⟨a0_, a1_, a2_, al_⟩ := HB0.out wr hX
        clear hk2 hgl hown hacc hmem hkm hbw hfz HA hk hkn hX hgb
        go_wp2_with fail
        with_reducible refine HC1.out.mono ?_
        intro en w2 hh
        unfold GivesGN at hh
        obtain ⟨B1, x1, d1, f1, L1, l1, g1, rfl, hr1, hb2, _, _, _⟩ := hh
        have HR1 := Lib.hid hr1
        have HB2 := Lib.hid hb2
        clear hr1 a0_ a1_ a2_ al_
        obtain ⟨h0_, h1_, h2_, hl_⟩ := HGK.out _ hb2
        clear hb2
        have HA2 : Hid (Below w2.heap.size w2 (w2.alloc (regObj B1 x1.length d1 f1 L1 l1.length g1))) := Lib.hid ((Below.refl _ _).alloc (Nat.le_refl _) _)
        have HG1 : Hid (GBox (w2.alloc (regObj B1 x1.length d1 f1 L1 l1.length g1)) w2.heap.size B1 x1.length d1 f1 L1 l1.length g1) := Lib.hid (GBox.new ..)
        have HC3 := Lib.hid (HC2.out (w2.alloc (regObj B1 x1.length d1 f1 L1 l1.length g1)) (HB2.out.trans (HA2.out.mono HB2.out.size)))
        go_wp2_with fail
        with_reducible refine HC3.out.mono ?_
        intro en w3 hh
        unfold GivesGN at hh
        obtain ⟨B2, x2, d2, f2, L2, l2, g2, rfl, hr2, hb3, _, _, _⟩ := hh
        have HR2 := Lib.hid hr2
        have HB3 := Lib.hid hb3
        have HX3 := Lib.hid (HA2.out.trans (hb3.mono HA2.out.size))
        clear hr2 h0_ h1_ h2_ hl_
        obtain ⟨m0_, m1_, m2_, ml_⟩ := HG1.out.keep hb3
        clear hb3
        have HA3 : Hid (Below w3.heap.size w3 (w3.alloc (regObj B2 x2.length d2 f2 L2 l2.length g2))) := Lib.hid ((Below.refl _ _).alloc (Nat.le_refl _) _)
        have HSM := Lib.hid (SAME.out B1 x1 d1 f1 L1 l1 g1 B2 x2 d2 f2 L2 l2 g2 (w3.alloc (regObj B2 x2.length d2 f2 L2 l2.length g2)) (HR1.out.keep (HX3.out.trans (HA3.out.mono HX3.out.size))) (HR2.out.keep HA3.out))
        have i7 : ((kk : Int) == (kk : Int)) = true := by simp
        go_wp2_with fail
        with_reducible refine HSM.out.mono ?_
        intro en w4 hh
        unfold GivesBB at hh
        obtain ⟨rfl, hb4⟩ := hh
        have HX4 := Lib.hid (HX3.out.trans ((HA3.out.trans (hb4.mono HA3.out.size)).mono HX3.out.size))
        clear hb4 m0_ m1_ m2_ ml_
        go_wp2_with fail
        with_reducible refine (HAw.out _).mono ?_
        intro en w5 hh
        unfold GivesBB at hh
        obtain ⟨rfl, hb5⟩ := hh
        have HX5 := Lib.hid (HX4.out.trans (hb5.mono HX4.out.size))
        clear hb5
        go_wp2
        go_ret
        exact ⟨rfl, HAL.out.trans ((HXW.out.trans ((HB2.out.trans (HX5.out.mono HB2.out.size)).mono HXW.out.size)).mono HAL.out.size)⟩

end Go.Proofs.YtembmegllpkmfaaDoor.regionOrder
