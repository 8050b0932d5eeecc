/- RuleChecks returns true at every line (the card: the variables that it lists hold what the program text lays). Conditions: none of its own. -/
import Derived.Test.YtihboibebhokbaaDoorCards
import Derived.Test.YtihboibebhokbaaDoorTie
import Derived.WalkKit
import Derived.ProofKit
import Derived.OpenShut
import Derived.ShutString
import Derived.Test.YtihboibebhokbaaDoorPatOpen
import Derived.Test.YtihboibebhokbaaDoorRulNar
namespace Go.Proofs.YtihboibebhokbaaDoor.ruleChecks
open Go.ChangeShapes Go.WideShapes Go.ChangeAt Go.RowKit
open Go.ChangeMaps (open_string shut_string)
set_option linter.unusedVariables false

set_option maxHeartbeats 8000000 in
theorem walk (w : World) (ex0 : Bool) (A0 : Option Addr) (xs0 : List ByteArray) (c0 : Nat) (b0 : Bool) (B0 : Option Addr) (ys0 : List ByteArray) (e0 : Nat) (f0 : Bool) (hr0 : RulR w ex0 A0 xs0 c0 b0 B0 ys0 e0 f0 ⟨ex0, ⟨bs xs0, b0⟩, ⟨bs ys0, f0⟩⟩) (hz0 : ∀ x ∈ xs0, x.size ≤ 140737488355000) (hy0 : ∀ x ∈ ys0, x.size ≤ 140737488355000) (hm : MaxL w) :
    Calls Tryd.prog 5 #[rulV ex0 A0 xs0.length c0 b0 B0 ys0.length e0 f0] w fun e w' => e = .returned (.bool true) ∧ Below w.heap.size w w' := by
  obtain ⟨W0, hW0⟩ : ∃ W0, W0 = w.alloc (.cells #[.bool ex0, .slice A0 xs0.length c0, .bool b0, .slice B0 ys0.length e0, .bool f0] 39) := ⟨_, rfl⟩
  have hal : Below w.heap.size w W0 := by rw [hW0]; exact (Below.refl _ _).alloc (Nat.le_refl _) _
  have HX0 := Lib.hid (Below.refl W0.heap.size W0)
  have HAL := Lib.hid hal
  have hbx : RBox W0 w.heap.size ex0 A0 xs0.length c0 b0 B0 ys0.length e0 f0 := by rw [hW0]; exact RBox.new ..
  have HB := Lib.hid (fun (w' : World) (hb : Below W0.heap.size W0 w') => hbx.keep hb)
  have hm0 := hm.keep hal hm.size
  have HMX := Lib.hid (fun (w' : World) (hb : Below W0.heap.size W0 w') => hm0.keep hb hm0.size)
  have HAw := Lib.hid (fun (w' : World) (hb : Below W0.heap.size W0 w') => awake4_any w' (hm0.keep hb hm0.size))
  have HFt := Lib.hid (fun (w' : World) (hb : Below W0.heap.size W0 w') => fit_any ex0 A0 xs0 c0 b0 B0 ys0 e0 f0 w' (hr0.keep (hal.trans (hb.mono hal.size))) hz0 hy0)
  generalize hfb : fitB xs0 ys0 = fb at HFt
  cases fb with
  | false =>
    clear hbx hr0 hfb hz0 hy0
    subst hW0
    clear hal
    go_enter Tryd.func5, Tryd.ntmps5
    go_wp2_with fail
    with_reducible refine (HFt.out _ HX0.out).mono ?_
    rintro e u1 ⟨rfl, hb1⟩
    have hX1 := HX0.out.trans (hb1.mono HX0.out.size)
    have HX1 := Lib.hid hX1
    obtain ⟨k0_HB1, k1_HB1, k2_HB1, k3_HB1, k4_HB1, kl_HB1⟩ := HB.out _ hX1
    have z1 := hX1.size
    simp only [World.alloc, Array.size_push] at z1
    clear hb1 hX1 
    go_wp2_with fail
    with_reducible refine (HAw.out _ HX1.out).mono ?_
    rintro e u2 ⟨rfl, hb2⟩
    have hX2 := HX1.out.trans (hb2.mono HX1.out.size)
    have HX2 := Lib.hid hX2
    obtain ⟨k0_HB2, k1_HB2, k2_HB2, k3_HB2, k4_HB2, kl_HB2⟩ := HB.out _ hX2
    have z2 := hX2.size
    simp only [World.alloc, Array.size_push] at z2
    clear hb2 hX2 k0_HB1 k1_HB1 k2_HB1 k3_HB1 k4_HB1 kl_HB1
    go_wp2
    go_ret
    exact ⟨rfl, HAL.out.trans (HX2.out.mono HAL.out.size)⟩
  | true =>
    unfold fitB at hfb
    rw [Bool.and_eq_true] at hfb
    obtain ⟨n1, z1, x1⟩ := small4_facts hfb.1
    obtain ⟨n2, z2, x2⟩ := small4_facts hfb.2
    clear hfb
    have hx5 : ∀ x ∈ xs0, x.size ≤ 100000 := fun x hx => Nat.le_trans (x1 x hx) (by decide)
    have hy5 : ∀ x ∈ ys0, x.size ≤ 100000 := fun x hx => Nat.le_trans (x2 x hx) (by decide)
    obtain ⟨r, hrr⟩ : ∃ r : Pt.Rul, r = ⟨ex0, ⟨bs xs0, b0⟩, ⟨bs ys0, f0⟩⟩ := ⟨_, rfl⟩
    rw [← hrr] at hr0
    clear hrr
    have HT := Lib.hid (fun (w' : World) (hb : Below W0.heap.size W0 w') => turn_any ex0 A0 xs0 c0 b0 B0 ys0 e0 f0 r w' (hr0.keep (hal.trans (hb.mono hal.size))) (by omega) (by omega))
    have HT2 := Lib.hid (fun (w' : World) (hb : Below W0.heap.size W0 w') => qturn_any ex0 A0 xs0 c0 b0 B0 ys0 e0 f0 r w' (hr0.keep (hal.trans (hb.mono hal.size))) (by omega) (by omega))
    have HC1 := Lib.hid (fun (w' : World) (hb : Below W0.heap.size W0 w') => check4_any ex0 A0 xs0 c0 b0 B0 ys0 e0 f0 r w' (hr0.keep (hal.trans (hb.mono hal.size))))
    have HC2 := Lib.hid (fun (w' : World) (hb : Below W0.heap.size W0 w') => qcheck_any ex0 A0 xs0 c0 b0 B0 ys0 e0 f0 r w' (hr0.keep (hal.trans (hb.mono hal.size))))
    have HSL := Lib.hid (fun (C D C2 D2 : Option Addr) (cz dz cz2 dz2 : Nat) (w' : World) (h1 : RulR w' ex0 C ys0 cz f0 D xs0 dz b0 (Pt.turnR r)) (h2 : RulR w' ex0 C2 ys0 cz2 f0 D2 xs0 dz2 b0 (Pt.turnR r)) => same_lines ex0 C ys0 cz f0 D xs0 dz b0 ex0 C2 ys0 cz2 f0 D2 xs0 dz2 b0 (Pt.turnR r) w' h1 h2)
    unfold GivesTurn at HT HT2
    generalize Pt.rcheck r = k at *
    generalize xs0.length = nx at *
    generalize ys0.length = ny at *
    clear hbx hr0 hz0 hy0 n1 n2 x1 x2 z1 z2 hx5 hy5
    subst hW0
    clear hal
    go_enter Tryd.func5, Tryd.ntmps5
    go_wp2_with fail
    with_reducible refine (HFt.out _ HX0.out).mono ?_
    rintro e u1 ⟨rfl, hb1⟩
    have hX1 := HX0.out.trans (hb1.mono HX0.out.size)
    have HX1 := Lib.hid hX1
    obtain ⟨k0_HB1, k1_HB1, k2_HB1, k3_HB1, k4_HB1, kl_HB1⟩ := HB.out _ hX1
    have z1 := hX1.size
    simp only [World.alloc, Array.size_push] at z1
    clear hb1 hX1 
    go_wp2_with fail
    with_reducible refine (HT.out _ HX1.out).mono ?_
    rintro e u2 ⟨C, cz, D, dz, rfl, hrt, hb2⟩
    have hX2 := HX1.out.trans (hb2.mono HX1.out.size)
    have HX2 := Lib.hid hX2
    obtain ⟨k0_HB2, k1_HB2, k2_HB2, k3_HB2, k4_HB2, kl_HB2⟩ := HB.out _ hX2
    have z2 := hX2.size
    simp only [World.alloc, Array.size_push] at z2
    have ha2 : Below u2.heap.size u2 (u2.alloc (.cells #[.bool ex0, .slice C ny cz, .bool f0, .slice D nx dz, .bool b0] 39)) := (Below.refl _ _).alloc (Nat.le_refl _) _
    have hXV := hX2.trans (ha2.mono hX2.size)
    have HXV := Lib.hid hXV
    have HRT := Lib.hid (hrt.keep ha2)
    obtain ⟨a0, a1, a2, a3, a4, al⟩ := HB.out _ hXV
    obtain ⟨t0, t1, t2, t3, t4, tl⟩ := RBox.new u2 ex0 C ny cz f0 D nx dz b0
    have htx := RBox.new u2 ex0 C ny cz f0 D nx dz b0
    have hax := HB.out _ hXV
    have htl : u2.heap.size < (World.heap (u2.alloc (.cells #[.bool ex0, .slice C ny cz, .bool f0, .slice D nx dz, .bool b0] 39))).size := tl
    clear ha2 hXV hrt
    clear hb2 hX2 k0_HB1 k1_HB1 k2_HB1 k3_HB1 k4_HB1 kl_HB1
    have HSK := Lib.hid (fun (w' : World) (hb : Below (World.heap (u2.alloc (.cells #[.bool ex0, .slice C ny cz, .bool f0, .slice D nx dz, .bool b0] 39))).size (u2.alloc (.cells #[.bool ex0, .slice C ny cz, .bool f0, .slice D nx dz, .bool b0] 39)) w') => show w'.cell? ⟨w.heap.size, 0, none⟩ = some (.bool ex0) ∧ w'.cell? ⟨w.heap.size, 1, none⟩ = some (.slice A0 nx c0) ∧ w'.cell? ⟨w.heap.size, 2, none⟩ = some (.bool b0) ∧ w'.cell? ⟨w.heap.size, 3, none⟩ = some (.slice B0 ny e0) ∧ w'.cell? ⟨w.heap.size, 4, none⟩ = some (.bool f0) ∧ w'.cell? ⟨u2.heap.size, 0, none⟩ = some (.bool ex0) ∧ w'.cell? ⟨u2.heap.size, 1, none⟩ = some (.slice C ny cz) ∧ w'.cell? ⟨u2.heap.size, 2, none⟩ = some (.bool f0) ∧ w'.cell? ⟨u2.heap.size, 3, none⟩ = some (.slice D nx dz) ∧ w'.cell? ⟨u2.heap.size, 4, none⟩ = some (.bool b0) from by
      obtain ⟨m0, m1, m2, m3, m4, _⟩ := hax.keep hb
      obtain ⟨m5, m6, m7, m8, m9, _⟩ := htx.keep hb
      exact ⟨m0, m1, m2, m3, m4, m5, m6, m7, m8, m9⟩)
    clear htx hax
    have HFD := Lib.hid (fun (w' : World) (h : Below (World.heap (World.drew (u2.alloc (.cells #[.bool ex0, .slice C ny cz, .bool f0, .slice D nx dz, .bool b0] 39)))).size (World.drew (u2.alloc (.cells #[.bool ex0, .slice C ny cz, .bool f0, .slice D nx dz, .bool b0] 39))) w') => show Below (World.heap (u2.alloc (.cells #[.bool ex0, .slice C ny cz, .bool f0, .slice D nx dz, .bool b0] 39))).size (u2.alloc (.cells #[.bool ex0, .slice C ny cz, .bool f0, .slice D nx dz, .bool b0] 39)) w' from (below_drew (Below.refl _ _)).trans h)
    have HD1 := Lib.hid (HC1.out _ (HXV.out.trans ((below_drew (Below.refl (World.heap (u2.alloc (.cells #[.bool ex0, .slice C ny cz, .bool f0, .slice D nx dz, .bool b0] 39))).size (u2.alloc (.cells #[.bool ex0, .slice C ny cz, .bool f0, .slice D nx dz, .bool b0] 39)))).mono HXV.out.size)))
    go_wp2_with fail
    set_option maxRecDepth 100000 in
    go_region_held3 (fun w' => w'.cell? ⟨w.heap.size, 0, none⟩ = some (.bool ex0) ∧ w'.cell? ⟨w.heap.size, 1, none⟩ = some (.slice A0 nx c0) ∧ w'.cell? ⟨w.heap.size, 2, none⟩ = some (.bool b0) ∧ w'.cell? ⟨w.heap.size, 3, none⟩ = some (.slice B0 ny e0) ∧ w'.cell? ⟨w.heap.size, 4, none⟩ = some (.bool f0) ∧ w'.cell? ⟨u2.heap.size, 0, none⟩ = some (.bool ex0) ∧ w'.cell? ⟨u2.heap.size, 1, none⟩ = some (.slice C ny cz) ∧ w'.cell? ⟨u2.heap.size, 2, none⟩ = some (.bool f0) ∧ w'.cell? ⟨u2.heap.size, 3, none⟩ = some (.slice D nx dz) ∧ w'.cell? ⟨u2.heap.size, 4, none⟩ = some (.bool b0))
      (first | exact HSK.out _ b9 | exact HSK.out _ b8 | exact HSK.out _ b7 | exact HSK.out _ b6 | exact HSK.out _ b5 | exact HSK.out _ (below_drew (Below.refl _ _)) | exact HSK.out _ (Below.refl _ _) | go_keep)
      (first
        | (go_at_call 23; have hcc := HAw.out _ (HXV.out.trans (b8.mono HXV.out.size)); with_reducible refine hcc.mono ?_; intro e v9 hh; unfold GivesBB at hh; obtain ⟨rfl, hb9⟩ := hh; have b9 : Below (World.heap (u2.alloc (.cells #[.bool ex0, .slice C ny cz, .bool f0, .slice D nx dz, .bool b0] 39))).size (u2.alloc (.cells #[.bool ex0, .slice C ny cz, .bool f0, .slice D nx dz, .bool b0] 39)) v9 := b8.trans (hb9.mono b8.size))
        | (go_at_call 27; have hcc := HSL.out C D C2 D2 cz dz cz2 dz2 v7 (HRT.out.keep b7) hr2; with_reducible refine hcc.mono ?_; intro e v8 hh; unfold GivesBB at hh; obtain ⟨rfl, hb8⟩ := hh; have b8 : Below (World.heap (u2.alloc (.cells #[.bool ex0, .slice C ny cz, .bool f0, .slice D nx dz, .bool b0] 39))).size (u2.alloc (.cells #[.bool ex0, .slice C ny cz, .bool f0, .slice D nx dz, .bool b0] 39)) v8 := b7.trans (hb8.mono b7.size))
        | (go_at_call 28; have hcc := HT2.out _ (HXV.out.trans (b6.mono HXV.out.size)); with_reducible refine hcc.mono ?_; intro e v7 hh; obtain ⟨C2, cz2, D2, dz2, rfl, hr2, hb7⟩ := hh; have b7 : Below (World.heap (u2.alloc (.cells #[.bool ex0, .slice C ny cz, .bool f0, .slice D nx dz, .bool b0] 39))).size (u2.alloc (.cells #[.bool ex0, .slice C ny cz, .bool f0, .slice D nx dz, .bool b0] 39)) v7 := b6.trans (hb7.mono b6.size))
        | (go_at_call 26; have hcc := HC2.out _ (HXV.out.trans (b5.mono HXV.out.size)); with_reducible refine hcc.mono ?_; intro e v6 hh; unfold GivesN at hh; obtain ⟨rfl, hb6⟩ := hh; have b6 : Below (World.heap (u2.alloc (.cells #[.bool ex0, .slice C ny cz, .bool f0, .slice D nx dz, .bool b0] 39))).size (u2.alloc (.cells #[.bool ex0, .slice C ny cz, .bool f0, .slice D nx dz, .bool b0] 39)) v6 := b5.trans (hb6.mono b5.size))
        | (go_at_call 25; have hcc := HD1.out; with_reducible refine hcc.mono ?_; intro e v5 hh; unfold GivesN at hh; obtain ⟨rfl, hb5⟩ := hh; have b5 : Below (World.heap (u2.alloc (.cells #[.bool ex0, .slice C ny cz, .bool f0, .slice D nx dz, .bool b0] 39))).size (u2.alloc (.cells #[.bool ex0, .slice C ny cz, .bool f0, .slice D nx dz, .bool b0] 39)) v5 := HFD.out _ hb5))
    all_goals
      go_wp2
      go_ret
      exact ⟨rfl, HAL.out.trans ((HXV.out.trans (b9.mono HXV.out.size)).mono HAL.out.size)⟩

end Go.Proofs.YtihboibebhokbaaDoor.ruleChecks
