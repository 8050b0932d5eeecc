/- ViewFirst returns true at every list of lines and every line and every string (the card: the variables that it lists hold what the program text lays). Conditions: what it reads is of bulk at most 1048576 values and letters. -/
import Derived.Test.YtchgbigjfpffeaaDoorCards
import Derived.Test.YtchgbigjfpffeaaDoorTie
import Derived.WalkKit
import Derived.ProofKit
import Derived.OpenShut
import Derived.ShutString
import Derived.Test.YtchgbigjfpffeaaDoorPatOpen
import Derived.Test.YtchgbigjfpffeaaDoorVwOpen
import Derived.Test.YtchgbigjfpffeaaDoorVwLaw
import Derived.Test.YtchgbigjfpffeaaDoorVwBack
import Derived.Test.YtchgbigjfpffeaaDoorOwnVr
import Derived.Deep.DeepHandedRow
import Derived.Lib.LaidTab
import Derived.Deep.DeepWitnessRowRef
import Derived.Deep.CondSized
namespace Go.Proofs.YtchgbigjfpffeaaDoor.viewFirst
open Go.ChangeShapes Go.WideShapes Go.ChangeAt Go.RowKit
open Go.ChangeMaps (open_string shut_string)
set_option linter.unusedVariables false

set_option maxHeartbeats 8000000 in
theorem walk (w : World) (A0 : Option Addr) (rl0 : List RulV) (c0 : Nat) (hr0 : RdV w A0 rl0 c0) (hN0 : rl0.length ≤ 1048576) (hl0 : ∀ x ∈ rl0, x.xs.length ≤ 1048576 ∧ x.ys.length ≤ 1048576) (hz0 : SzV 1048576 rl0) (y1 : RulV) (hy1 : RulV.R w y1) (hx1 : y1.xs.length ≤ 1048576) (hw1 : y1.ys.length ≤ 1048576) (hz1 : SzV 1048576 [y1]) (s2 : ByteArray) (w2 : s2.size ≤ maxLen) (hm : MaxL w) :
    Calls Tryd.prog 7 #[.slice A0 rl0.length c0, rulV y1.ex y1.A y1.xs.length y1.c y1.b y1.B y1.ys.length y1.d y1.f, .string s2] w fun e w' => e = .returned (.bool true) ∧ Below w.heap.size w w' := by
  obtain ⟨W0, hW0⟩ : ∃ W0, W0 = w.alloc (.cells #[.bool y1.ex, .slice y1.A y1.xs.length y1.c, .bool y1.b, .slice y1.B y1.ys.length y1.d, .bool y1.f] 34) := ⟨_, rfl⟩
  have hal : Below w.heap.size w W0 := by rw [hW0]; exact (Below.refl _ _).alloc (Nat.le_refl _) _
  have HAL := Lib.hid hal
  have hws0 : W0.heap.size = w.heap.size + 1 := by rw [hW0]; simp
  have hbx : RBox W0 w.heap.size y1.ex y1.A y1.xs.length y1.c y1.b y1.B y1.ys.length y1.d y1.f := by rw [hW0]; exact RBox.new ..
  have HB := Lib.hid (fun (w' : World) (hb : Below W0.heap.size W0 w') => hbx.keep hb)
  obtain ⟨v, hv⟩ : ∃ v, v = rl0.map RulV.rul := ⟨_, rfl⟩
  obtain ⟨r, hr⟩ : ∃ r, r = y1.rul := ⟨_, rfl⟩
  obtain ⟨L9, hL9⟩ : ∃ L9, L9 = y1 :: rl0 := ⟨_, rfl⟩
  obtain ⟨u, hu⟩ : ∃ u, u = r :: v := ⟨_, rfl⟩
  have hLu : L9.map RulV.rul = u := by rw [hL9, hu, hv, hr]; simp
  have hl9 : L9.length = rl0.length + 1 := by rw [hL9]; simp
  have hl1 : ∀ x ∈ L9, x.xs.length ≤ 1100000 ∧ x.ys.length ≤ 1100000 := by
    intro x hx
    have hx2 : x ∈ rl0 ∨ x = y1 := by rw [hL9] at hx; simpa [or_comm] using hx
    rcases hx2 with h | h
    · have := hl0 x h; omega
    · rw [h]; omega
  have HRV := Lib.hid (fun (w' : World) (hb : Below w.heap.size w w') => hr0.keep hb)
  have HY1 := Lib.hid (fun (w' : World) (hb : Below w.heap.size w w') => hy1.keep hb)
  have HMX := Lib.hid (fun (w' : World) (hb : Below w.heap.size w w') => hm.keep hb hm.size)
  have HAw := Lib.hid (fun (w' : World) (hb : Below w.heap.size w w') => awake6_any w' (hm.keep hb hm.size))
  have HSm0 := Lib.hid (fun (A : Option Addr) (c : Nat) (w' : World) (hrd : RdV w' A L9 c) => small6_any A L9 c w' hrd (by omega) hl1)
  have HCk0 := Lib.hid (fun (A : Option Addr) (c : Nat) (w' : World) (hrd : RdV w' A L9 c) => show Calls Tryd.prog 12 #[.slice A L9.length c] w' (fun en w2 => en = .returned (.tuple #[.int .i64 ((Pt.Vw.vcheck u).1 : Int), .int .i64 ((Pt.Vw.vcheck u).2 : Int)]) ∧ Below w'.heap.size w' w2) from by rw [← hLu]; exact vcheck_any A L9 c w' hrd)
  have hapr : ∀ x ∈ rl0, ∀ y ∈ (adr x.A x.xs ++ adr x.B x.ys), ∀ a, y = some a → a.block < w.heap.size := fun x hx => RulV.adr_lt (hr0.parts x hx)
  have hap1 : ∀ y ∈ (adr y1.A y1.xs ++ adr y1.B y1.ys), ∀ a, y = some a → a.block < w.heap.size := RulV.adr_lt hy1
  have HAPR := Lib.hid hapr
  have HAP1 := Lib.hid hap1
  have HOW := Lib.hid (show OwnW (W0.alloc (.cells #[.bool y1.ex, .slice y1.A y1.xs.length y1.c, .bool y1.b, .slice y1.B y1.ys.length y1.d, .bool y1.f] 34)) W0.heap.size (.slice (some ⟨W0.heap.size, 0, none⟩) 1 1) [y1] from ⟨World.ownsRow_lit (size := 5) W0 #[.bool y1.ex, .slice y1.A y1.xs.length y1.c, .bool y1.b, .slice y1.B y1.ys.length y1.d, .bool y1.f] 1 (Nat.le_refl _) (by decide) rfl, fun x hx => by rw [List.mem_singleton.1 hx]; exact hy1.keep (hal.trans (((Below.refl _ _).alloc (Nat.le_refl _) _ : Below W0.heap.size W0 (W0.alloc _)).mono hal.size)), fun x hx y hy a ha => by
    rw [List.mem_singleton.1 hx] at hy
    have := hap1 y hy a ha
    refine ⟨fun e => ?_, by simp; omega⟩
    have e2 : W0.heap.size = a.block := Option.some.inj e
    omega⟩)
  rw [hws0] at HOW
  have hHN : ([y1].length + rl0.length) * 72 ≤ 140737488355328 := by simp only [List.length_cons, List.length_nil]; omega
  have HNN := Lib.hid hHN
  clear hHN
  cases hsm : smallV L9 with
  | false =>
    rw [hsm] at HSm0
    clear hsm
    obtain ⟨n, hn⟩ : ∃ n, n = rl0.length := ⟨_, rfl⟩
    have HN := Lib.hid hn
    have HWS := Lib.hid hws0
    obtain ⟨t0, t1, t2, t3, t4, tl⟩ := hbx
    have HL9 := Lib.hid hL9
    rw [← hn]
    clear hr0 hy1 hapr hap1 hv hr hu hLu hl9 hl1 hl0 hz0 hN0 hx1 hw1 hz1 hws0 hn hL9 hal 
    subst hW0
    go_enter Tryd.func7, Tryd.ntmps7
    go_wp2_with (refine wpList_append_vr rfl _ _ rfl (w.heap.size + 1) (.slice (some ⟨w.heap.size + 1, 0, none⟩) 1 1) [y1] rfl HOW.out A0 rl0 n c0 HN.out rfl (HRV.out _ (HAL.out.trans (((Below.refl _ _).alloc (Nat.le_refl _) _ : Below (w.alloc (.cells #[.bool y1.ex, .slice y1.A y1.xs.length y1.c, .bool y1.b, .slice y1.B y1.ys.length y1.d, .bool y1.f] 34)).heap.size (w.alloc (.cells #[.bool y1.ex, .slice y1.A y1.xs.length y1.c, .bool y1.b, .slice y1.B y1.ys.length y1.d, .bool y1.f] 34)) (World.alloc _ _)).mono HAL.out.size))) (fun x hx y hy a ha => ⟨fun e => by have h1 := HAPR.out x hx y hy a ha; have e2 : w.heap.size + 1 = a.block := Option.some.inj e; omega, by have h1 := HAPR.out x hx y hy a ha; have h3 := HAL.out.size; simp; omega⟩) HNN.out (by simp) ?_; intro v9 w9 hown9 hb9 hg9)
    have hb99 : Below (w.alloc (.cells #[.bool y1.ex, .slice y1.A y1.xs.length y1.c, .bool y1.b, .slice y1.B y1.ys.length y1.d, .bool y1.f] 34)).heap.size (w.alloc (.cells #[.bool y1.ex, .slice y1.A y1.xs.length y1.c, .bool y1.b, .slice y1.B y1.ys.length y1.d, .bool y1.f] 34)) w9 := ((Below.refl _ _).alloc (Nat.le_refl _) _ : Below (w.alloc (.cells #[.bool y1.ex, .slice y1.A y1.xs.length y1.c, .bool y1.b, .slice y1.B y1.ys.length y1.d, .bool y1.f] 34)).heap.size (w.alloc (.cells #[.bool y1.ex, .slice y1.A y1.xs.length y1.c, .bool y1.b, .slice y1.B y1.ys.length y1.d, .bool y1.f] 34)) (World.alloc _ _)).trans (by rw [show (w.alloc (.cells #[.bool y1.ex, .slice y1.A y1.xs.length y1.c, .bool y1.b, .slice y1.B y1.ys.length y1.d, .bool y1.f] 34)).heap.size = w.heap.size + 1 by simp]; exact hb9)
    obtain ⟨A8, c8, hv9, hrd9, _⟩ := hown9.rd
    rw [show ([y1] ++ rl0 : List RulV) = L9 from HL9.out.symm] at hrd9 hv9
    subst hv9
    obtain ⟨t0, t1, t2, t3, t4, tl⟩ := HB.out _ hb99
    have HX0 := Lib.hid (HAL.out.trans (hb99.mono HAL.out.size))
    have HCk2 := Lib.hid (fun (w' : World) (hb : Below w9.heap.size w9 w') => HCk0.out A8 c8 w' (hrd9.keep hb))
    have HSm2 := Lib.hid (fun (w' : World) (hb : Below w9.heap.size w9 w') => HSm0.out A8 c8 w' (hrd9.keep hb))
    have HAw2 := Lib.hid (fun (w' : World) (hb : Below w9.heap.size w9 w') => HAw.out w' (HX0.out.trans (hb.mono HX0.out.size)))
    have HRB := Lib.hid (fun (w' : World) (hb : Below w9.heap.size w9 w') => HB.out w' (hb99.trans (hb.mono hb99.size)))
    generalize L9.length = q at *
    have HX9 := HX0
    have HX0 := Lib.hid (Below.refl w9.heap.size w9)
    clear hown9 hb9 hg9 hb99 hrd9
    go_wp2_with fail
    with_reducible refine (HCk2.out _ HX0.out).mono ?_
    rintro e u1 ⟨rfl, hb1⟩
    have hX1 := HX0.out.trans (hb1.mono HX0.out.size)
    have HX1 := Lib.hid hX1
    clear hb1 hX1 
    go_wp2_with fail
    with_reducible refine (HSm2.out _ HX1.out).mono ?_
    rintro e u2 ⟨rfl, hb2⟩
    have hX2 := HX1.out.trans (hb2.mono HX1.out.size)
    have HX2 := Lib.hid hX2
    clear hb2 hX2 
    go_wp2_with fail
    with_reducible refine (HAw2.out _ HX2.out).mono ?_
    rintro e u3 ⟨rfl, hb3⟩
    have hX3 := HX2.out.trans (hb3.mono HX2.out.size)
    have HX3 := Lib.hid hX3
    clear hb3 hX3 
    go_wp2
    go_ret
    exact ⟨rfl, HX9.out.trans (HX3.out.mono HX9.out.size)⟩
  | true =>
    rw [hsm] at HSm0
    obtain ⟨hn20, hz60, hl200⟩ := smallV_facts hsm
    clear hsm
    by_cases hl : s2.size ≤ 300
    rotate_left
    · have i1 : (300 : Int) < (s2.size : Int) := by omega
      clear hl
      obtain ⟨n, hn⟩ : ∃ n, n = rl0.length := ⟨_, rfl⟩
      have HN := Lib.hid hn
      have HWS := Lib.hid hws0
      obtain ⟨t0, t1, t2, t3, t4, tl⟩ := hbx
      have HL9 := Lib.hid hL9
      rw [← hn]
      clear hr0 hy1 hapr hap1 hv hr hu hLu hl9 hl1 hl0 hz0 hN0 hx1 hw1 hz1 hws0 hn hL9 hal 
      subst hW0
      go_enter Tryd.func7, Tryd.ntmps7
      go_wp2_with (refine wpList_append_vr rfl _ _ rfl (w.heap.size + 1) (.slice (some ⟨w.heap.size + 1, 0, none⟩) 1 1) [y1] rfl HOW.out A0 rl0 n c0 HN.out rfl (HRV.out _ (HAL.out.trans (((Below.refl _ _).alloc (Nat.le_refl _) _ : Below (w.alloc (.cells #[.bool y1.ex, .slice y1.A y1.xs.length y1.c, .bool y1.b, .slice y1.B y1.ys.length y1.d, .bool y1.f] 34)).heap.size (w.alloc (.cells #[.bool y1.ex, .slice y1.A y1.xs.length y1.c, .bool y1.b, .slice y1.B y1.ys.length y1.d, .bool y1.f] 34)) (World.alloc _ _)).mono HAL.out.size))) (fun x hx y hy a ha => ⟨fun e => by have h1 := HAPR.out x hx y hy a ha; have e2 : w.heap.size + 1 = a.block := Option.some.inj e; omega, by have h1 := HAPR.out x hx y hy a ha; have h3 := HAL.out.size; simp; omega⟩) HNN.out (by simp) ?_; intro v9 w9 hown9 hb9 hg9)
      have hb99 : Below (w.alloc (.cells #[.bool y1.ex, .slice y1.A y1.xs.length y1.c, .bool y1.b, .slice y1.B y1.ys.length y1.d, .bool y1.f] 34)).heap.size (w.alloc (.cells #[.bool y1.ex, .slice y1.A y1.xs.length y1.c, .bool y1.b, .slice y1.B y1.ys.length y1.d, .bool y1.f] 34)) w9 := ((Below.refl _ _).alloc (Nat.le_refl _) _ : Below (w.alloc (.cells #[.bool y1.ex, .slice y1.A y1.xs.length y1.c, .bool y1.b, .slice y1.B y1.ys.length y1.d, .bool y1.f] 34)).heap.size (w.alloc (.cells #[.bool y1.ex, .slice y1.A y1.xs.length y1.c, .bool y1.b, .slice y1.B y1.ys.length y1.d, .bool y1.f] 34)) (World.alloc _ _)).trans (by rw [show (w.alloc (.cells #[.bool y1.ex, .slice y1.A y1.xs.length y1.c, .bool y1.b, .slice y1.B y1.ys.length y1.d, .bool y1.f] 34)).heap.size = w.heap.size + 1 by simp]; exact hb9)
      obtain ⟨A8, c8, hv9, hrd9, _⟩ := hown9.rd
      rw [show ([y1] ++ rl0 : List RulV) = L9 from HL9.out.symm] at hrd9 hv9
      subst hv9
      obtain ⟨t0, t1, t2, t3, t4, tl⟩ := HB.out _ hb99
      have HX0 := Lib.hid (HAL.out.trans (hb99.mono HAL.out.size))
      have HCk2 := Lib.hid (fun (w' : World) (hb : Below w9.heap.size w9 w') => HCk0.out A8 c8 w' (hrd9.keep hb))
      have HSm2 := Lib.hid (fun (w' : World) (hb : Below w9.heap.size w9 w') => HSm0.out A8 c8 w' (hrd9.keep hb))
      have HAw2 := Lib.hid (fun (w' : World) (hb : Below w9.heap.size w9 w') => HAw.out w' (HX0.out.trans (hb.mono HX0.out.size)))
      have HRB := Lib.hid (fun (w' : World) (hb : Below w9.heap.size w9 w') => HB.out w' (hb99.trans (hb.mono hb99.size)))
      generalize L9.length = q at *
      have HX9 := HX0
      have HX0 := Lib.hid (Below.refl w9.heap.size w9)
      clear hown9 hb9 hg9 hb99 hrd9
      go_wp2_with fail
      with_reducible refine (HCk2.out _ HX0.out).mono ?_
      rintro e u1 ⟨rfl, hb1⟩
      have hX1 := HX0.out.trans (hb1.mono HX0.out.size)
      have HX1 := Lib.hid hX1
      clear hb1 hX1 
      go_wp2_with fail
      with_reducible refine (HSm2.out _ HX1.out).mono ?_
      rintro e u2 ⟨rfl, hb2⟩
      have hX2 := HX1.out.trans (hb2.mono HX1.out.size)
      have HX2 := Lib.hid hX2
      clear hb2 hX2 
      go_wp2_with fail
      with_reducible refine (HAw2.out _ HX2.out).mono ?_
      rintro e u3 ⟨rfl, hb3⟩
      have hX3 := HX2.out.trans (hb3.mono HX2.out.size)
      have HX3 := Lib.hid hX3
      clear hb3 hX3 
      go_wp2
      go_ret
      exact ⟨rfl, HX9.out.trans (HX3.out.mono HX9.out.size)⟩
    have i1 : ¬ (300 : Int) < (s2.size : Int) := by omega
    by_cases hck : (Pt.Vw.vcheck u).2 = 0
    rotate_left
    · have p1 : (((Pt.Vw.vcheck u).2 : Int) == 0) = false := by rw [beq_eq_false_iff_ne]; omega
      have p2 : (((Pt.Vw.vcheck u).2 : Int) != 0) = true := by rw [bne, p1]; rfl
      generalize (Pt.Vw.vcheck u).1 = k1 at *
      generalize (Pt.Vw.vcheck u).2 = k2 at *
      clear hck
      obtain ⟨n, hn⟩ : ∃ n, n = rl0.length := ⟨_, rfl⟩
      have HN := Lib.hid hn
      have HWS := Lib.hid hws0
      obtain ⟨t0, t1, t2, t3, t4, tl⟩ := hbx
      have HL9 := Lib.hid hL9
      rw [← hn]
      clear hr0 hy1 hapr hap1 hv hr hu hLu hl9 hl1 hl0 hz0 hN0 hx1 hw1 hz1 hws0 hn hL9 hal 
      subst hW0
      go_enter Tryd.func7, Tryd.ntmps7
      go_wp2_with (refine wpList_append_vr rfl _ _ rfl (w.heap.size + 1) (.slice (some ⟨w.heap.size + 1, 0, none⟩) 1 1) [y1] rfl HOW.out A0 rl0 n c0 HN.out rfl (HRV.out _ (HAL.out.trans (((Below.refl _ _).alloc (Nat.le_refl _) _ : Below (w.alloc (.cells #[.bool y1.ex, .slice y1.A y1.xs.length y1.c, .bool y1.b, .slice y1.B y1.ys.length y1.d, .bool y1.f] 34)).heap.size (w.alloc (.cells #[.bool y1.ex, .slice y1.A y1.xs.length y1.c, .bool y1.b, .slice y1.B y1.ys.length y1.d, .bool y1.f] 34)) (World.alloc _ _)).mono HAL.out.size))) (fun x hx y hy a ha => ⟨fun e => by have h1 := HAPR.out x hx y hy a ha; have e2 : w.heap.size + 1 = a.block := Option.some.inj e; omega, by have h1 := HAPR.out x hx y hy a ha; have h3 := HAL.out.size; simp; omega⟩) HNN.out (by simp) ?_; intro v9 w9 hown9 hb9 hg9)
      have hb99 : Below (w.alloc (.cells #[.bool y1.ex, .slice y1.A y1.xs.length y1.c, .bool y1.b, .slice y1.B y1.ys.length y1.d, .bool y1.f] 34)).heap.size (w.alloc (.cells #[.bool y1.ex, .slice y1.A y1.xs.length y1.c, .bool y1.b, .slice y1.B y1.ys.length y1.d, .bool y1.f] 34)) w9 := ((Below.refl _ _).alloc (Nat.le_refl _) _ : Below (w.alloc (.cells #[.bool y1.ex, .slice y1.A y1.xs.length y1.c, .bool y1.b, .slice y1.B y1.ys.length y1.d, .bool y1.f] 34)).heap.size (w.alloc (.cells #[.bool y1.ex, .slice y1.A y1.xs.length y1.c, .bool y1.b, .slice y1.B y1.ys.length y1.d, .bool y1.f] 34)) (World.alloc _ _)).trans (by rw [show (w.alloc (.cells #[.bool y1.ex, .slice y1.A y1.xs.length y1.c, .bool y1.b, .slice y1.B y1.ys.length y1.d, .bool y1.f] 34)).heap.size = w.heap.size + 1 by simp]; exact hb9)
      obtain ⟨A8, c8, hv9, hrd9, _⟩ := hown9.rd
      rw [show ([y1] ++ rl0 : List RulV) = L9 from HL9.out.symm] at hrd9 hv9
      subst hv9
      obtain ⟨t0, t1, t2, t3, t4, tl⟩ := HB.out _ hb99
      have HX0 := Lib.hid (HAL.out.trans (hb99.mono HAL.out.size))
      have HCk2 := Lib.hid (fun (w' : World) (hb : Below w9.heap.size w9 w') => HCk0.out A8 c8 w' (hrd9.keep hb))
      have HSm2 := Lib.hid (fun (w' : World) (hb : Below w9.heap.size w9 w') => HSm0.out A8 c8 w' (hrd9.keep hb))
      have HAw2 := Lib.hid (fun (w' : World) (hb : Below w9.heap.size w9 w') => HAw.out w' (HX0.out.trans (hb.mono HX0.out.size)))
      have HRB := Lib.hid (fun (w' : World) (hb : Below w9.heap.size w9 w') => HB.out w' (hb99.trans (hb.mono hb99.size)))
      generalize L9.length = q at *
      have HX9 := HX0
      have HX0 := Lib.hid (Below.refl w9.heap.size w9)
      clear hown9 hb9 hg9 hb99 hrd9
      go_wp2_with fail
      with_reducible refine (HCk2.out _ HX0.out).mono ?_
      rintro e u1 ⟨rfl, hb1⟩
      have hX1 := HX0.out.trans (hb1.mono HX0.out.size)
      have HX1 := Lib.hid hX1
      clear hb1 hX1 
      go_wp2_with fail
      with_reducible refine (HSm2.out _ HX1.out).mono ?_
      rintro e u2 ⟨rfl, hb2⟩
      have hX2 := HX1.out.trans (hb2.mono HX1.out.size)
      have HX2 := Lib.hid hX2
      clear hb2 hX2 
      go_wp2_with fail
      with_reducible refine (HAw2.out _ HX2.out).mono ?_
      rintro e u3 ⟨rfl, hb3⟩
      have hX3 := HX2.out.trans (hb3.mono HX2.out.size)
      have HX3 := Lib.hid hX3
      clear hb3 hX3 
      go_wp2
      go_ret
      exact ⟨rfl, HX9.out.trans (HX3.out.mono HX9.out.size)⟩
    rw [Pt.Vw.vcheck_zero hck] at HCk0
    rw [hu] at hck
    have hz5 : SzV 100000 L9 := fun x hx => ⟨fun y hy => Nat.le_trans ((hz60 x hx).1 y hy) (by decide), fun y hy => Nat.le_trans ((hz60 x hx).2 y hy) (by decide)⟩
    have hz6 : SzV 100000 rl0 := fun x hx => hz5 x (by rw [hL9]; simp [hx])
    have HF := Lib.hid (fun (w' : World) (hb : Below w.heap.size w w') => show Calls Tryd.prog 17 #[.slice A0 rl0.length c0, .string s2] w' (GivesFw w' (Pt.Vw.vfwd v s2.data.toList)) from by rw [hv]; exact vfwd_any A0 rl0 c0 s2 w' (hr0.keep hb) hz6 (by omega) (hm.keep hb hm.size))
    have HFu0 := Lib.hid (fun (A : Option Addr) (c : Nat) (w' : World) (hrd : RdV w' A L9 c) (hb : Below w.heap.size w w') => show Calls Tryd.prog 17 #[.slice A L9.length c, .string s2] w' (GivesFw w' (Pt.Vw.vfwd u s2.data.toList)) from by rw [← hLu]; exact vfwd_any A L9 c s2 w' hrd hz5 (by omega) (hm.keep hb hm.size))
    have HM := Lib.hid (fun (w' : World) (hb : Below w.heap.size w w') => show Calls Tryd.prog 19 #[patV y1.A y1.xs.length y1.c y1.b, .string s2] w' (GivesBB w' (Pt.Vw.lm r s2.data.toList)) from by rw [hr]; exact vmatches6_any y1.A y1.xs y1.c y1.b y1.rul.left s2 w' (hy1.keep hb).left (by omega) (hm.keep hb hm.size))
    have HDv := Lib.hid (fun (w' : World) (hb : Below w.heap.size w w') => show Calls Tryd.prog 21 #[.slice A0 rl0.length c0, .string s2] w' (fun en w2 => en = .returned (.int .i64 (Pt.Vw.decides v s2.data.toList)) ∧ Below w'.heap.size w' w2) from by rw [hv]; exact vdec_any A0 rl0 c0 s2 w' (hr0.keep hb) (by omega) (hm.keep hb hm.size))
    have HDu0 := Lib.hid (fun (A : Option Addr) (c : Nat) (w' : World) (hrd : RdV w' A L9 c) (hb : Below w.heap.size w w') => show Calls Tryd.prog 21 #[.slice A L9.length c, .string s2] w' (fun en w2 => en = .returned (.int .i64 (Pt.Vw.decides u s2.data.toList)) ∧ Below w'.heap.size w' w2) from by rw [← hLu]; exact vdec_any A L9 c s2 w' hrd (by omega) (hm.keep hb hm.size))
    have hdu : Pt.Vw.decides u s2.data.toList = if Pt.Vw.decides v s2.data.toList < 0 then (if Pt.Vw.lm r s2.data.toList then 0 else -1) else Pt.Vw.decides v s2.data.toList + 1 := by rw [hu]; exact Pt.Vw.first_decides hck _
    have hdl := Pt.Vw.decides_lt v s2.data.toList
    have hvl : v.length ≤ 20 := by rw [hv, List.length_map]; omega
    by_cases hd : Pt.Vw.decides v s2.data.toList < 0
    · have hd1 : Pt.Vw.decides v s2.data.toList = -1 := by omega
      rw [if_pos hd] at hdu
      rw [hd1] at HDv
      rw [hdu] at HDu0
      clear hdu hdl hd hd1 hvl
      cases hlm : Pt.Vw.lm r s2.data.toList
      all_goals
        rw [hlm] at HM HDu0
        clear hlm
        simp only [Bool.false_eq_true, if_false, if_true] at HDu0
        obtain ⟨n, hn⟩ : ∃ n, n = rl0.length := ⟨_, rfl⟩
        have HN := Lib.hid hn
        have HWS := Lib.hid hws0
        obtain ⟨t0, t1, t2, t3, t4, tl⟩ := hbx
        have HL9 := Lib.hid hL9
        rw [← hn] at HF
        rw [← hn] at HDv
        rw [← hn]
        clear hr0 hy1 hapr hap1 hv hr hu hLu hl9 hl1 hl0 hz0 hN0 hx1 hw1 hz1 hws0 hn hL9 hal hck hz5 hz6 hn20 hz60 hl200 hl
        subst hW0
        go_enter Tryd.func7, Tryd.ntmps7
        go_wp2_with (refine wpList_append_vr rfl _ _ rfl (w.heap.size + 1) (.slice (some ⟨w.heap.size + 1, 0, none⟩) 1 1) [y1] rfl HOW.out A0 rl0 n c0 HN.out rfl (HRV.out _ (HAL.out.trans (((Below.refl _ _).alloc (Nat.le_refl _) _ : Below (w.alloc (.cells #[.bool y1.ex, .slice y1.A y1.xs.length y1.c, .bool y1.b, .slice y1.B y1.ys.length y1.d, .bool y1.f] 34)).heap.size (w.alloc (.cells #[.bool y1.ex, .slice y1.A y1.xs.length y1.c, .bool y1.b, .slice y1.B y1.ys.length y1.d, .bool y1.f] 34)) (World.alloc _ _)).mono HAL.out.size))) (fun x hx y hy a ha => ⟨fun e => by have h1 := HAPR.out x hx y hy a ha; have e2 : w.heap.size + 1 = a.block := Option.some.inj e; omega, by have h1 := HAPR.out x hx y hy a ha; have h3 := HAL.out.size; simp; omega⟩) HNN.out (by simp) ?_; intro v9 w9 hown9 hb9 hg9)
        have hb99 : Below (w.alloc (.cells #[.bool y1.ex, .slice y1.A y1.xs.length y1.c, .bool y1.b, .slice y1.B y1.ys.length y1.d, .bool y1.f] 34)).heap.size (w.alloc (.cells #[.bool y1.ex, .slice y1.A y1.xs.length y1.c, .bool y1.b, .slice y1.B y1.ys.length y1.d, .bool y1.f] 34)) w9 := ((Below.refl _ _).alloc (Nat.le_refl _) _ : Below (w.alloc (.cells #[.bool y1.ex, .slice y1.A y1.xs.length y1.c, .bool y1.b, .slice y1.B y1.ys.length y1.d, .bool y1.f] 34)).heap.size (w.alloc (.cells #[.bool y1.ex, .slice y1.A y1.xs.length y1.c, .bool y1.b, .slice y1.B y1.ys.length y1.d, .bool y1.f] 34)) (World.alloc _ _)).trans (by rw [show (w.alloc (.cells #[.bool y1.ex, .slice y1.A y1.xs.length y1.c, .bool y1.b, .slice y1.B y1.ys.length y1.d, .bool y1.f] 34)).heap.size = w.heap.size + 1 by simp]; exact hb9)
        obtain ⟨A8, c8, hv9, hrd9, _⟩ := hown9.rd
        rw [show ([y1] ++ rl0 : List RulV) = L9 from HL9.out.symm] at hrd9 hv9
        subst hv9
        obtain ⟨t0, t1, t2, t3, t4, tl⟩ := HB.out _ hb99
        have HX0 := Lib.hid (HAL.out.trans (hb99.mono HAL.out.size))
        have HCk2 := Lib.hid (fun (w' : World) (hb : Below w9.heap.size w9 w') => HCk0.out A8 c8 w' (hrd9.keep hb))
        have HSm2 := Lib.hid (fun (w' : World) (hb : Below w9.heap.size w9 w') => HSm0.out A8 c8 w' (hrd9.keep hb))
        have HAw2 := Lib.hid (fun (w' : World) (hb : Below w9.heap.size w9 w') => HAw.out w' (HX0.out.trans (hb.mono HX0.out.size)))
        have HFu := Lib.hid (fun (w' : World) (hb : Below w9.heap.size w9 w') => HFu0.out A8 c8 w' (hrd9.keep hb) (HX0.out.trans (hb.mono HX0.out.size)))
        have HDu := Lib.hid (fun (w' : World) (hb : Below w9.heap.size w9 w') => HDu0.out A8 c8 w' (hrd9.keep hb) (HX0.out.trans (hb.mono HX0.out.size)))
        have HF2 := Lib.hid (fun (w' : World) (hb : Below w9.heap.size w9 w') => HF.out w' (HX0.out.trans (hb.mono HX0.out.size)))
        have HD2 := Lib.hid (fun (w' : World) (hb : Below w9.heap.size w9 w') => HDv.out w' (HX0.out.trans (hb.mono HX0.out.size)))
        have HM2 := Lib.hid (fun (w' : World) (hb : Below w9.heap.size w9 w') => HM.out w' (HX0.out.trans (hb.mono HX0.out.size)))
        have HRB := Lib.hid (fun (w' : World) (hb : Below w9.heap.size w9 w') => HB.out w' (hb99.trans (hb.mono hb99.size)))
        generalize L9.length = q at *
        have HX9 := HX0
        have HX0 := Lib.hid (Below.refl w9.heap.size w9)
        clear hown9 hb9 hg9 hb99 hrd9
        go_wp2_with fail
        with_reducible refine (HCk2.out _ HX0.out).mono ?_
        rintro e u1 ⟨rfl, hb1⟩
        have hX1 := HX0.out.trans (hb1.mono HX0.out.size)
        have HX1 := Lib.hid hX1
        clear hb1 hX1 
        go_wp2_with fail
        with_reducible refine (HSm2.out _ HX1.out).mono ?_
        rintro e u2 ⟨rfl, hb2⟩
        have hX2 := HX1.out.trans (hb2.mono HX1.out.size)
        have HX2 := Lib.hid hX2
        clear hb2 hX2 
        go_wp2_with fail
        with_reducible refine (HD2.out _ HX2.out).mono ?_
        rintro e u3 ⟨rfl, hb3⟩
        have hX3 := HX2.out.trans (hb3.mono HX2.out.size)
        have HX3 := Lib.hid hX3
        clear hb3 hX3 
        go_wp2_with fail
        with_reducible refine (HDu.out _ HX3.out).mono ?_
        rintro e u4 ⟨rfl, hb4⟩
        have hX4 := HX3.out.trans (hb4.mono HX3.out.size)
        have HX4 := Lib.hid hX4
        obtain ⟨b0_HRB4, b1_HRB4, b2_HRB4, b3_HRB4, b4_HRB4, bl_HRB4⟩ := HRB.out _ hX4
        clear hb4 hX4 
        go_wp2_with fail
        with_reducible refine (HM2.out _ HX4.out).mono ?_
        rintro e u5 ⟨rfl, hb5⟩
        have hX5 := HX4.out.trans (hb5.mono HX4.out.size)
        have HX5 := Lib.hid hX5
        obtain ⟨b0_HRB5, b1_HRB5, b2_HRB5, b3_HRB5, b4_HRB5, bl_HRB5⟩ := HRB.out _ hX5
        clear hb5 hX5 b0_HRB4 b1_HRB4 b2_HRB4 b3_HRB4 b4_HRB4 bl_HRB4
        go_wp2_with fail
        with_reducible refine (HAw2.out _ HX5.out).mono ?_
        rintro e u6 ⟨rfl, hb6⟩
        have hX6 := HX5.out.trans (hb6.mono HX5.out.size)
        have HX6 := Lib.hid hX6
        obtain ⟨b0_HRB6, b1_HRB6, b2_HRB6, b3_HRB6, b4_HRB6, bl_HRB6⟩ := HRB.out _ hX6
        clear hb6 hX6 b0_HRB5 b1_HRB5 b2_HRB5 b3_HRB5 b4_HRB5 bl_HRB5
        go_wp2
        go_ret
        exact ⟨rfl, HX9.out.trans (HX6.out.mono HX9.out.size)⟩
    · obtain ⟨d, hd1⟩ : ∃ d : Nat, Pt.Vw.decides v s2.data.toList = d := ⟨(Pt.Vw.decides v s2.data.toList).toNat, by omega⟩
      rw [if_neg hd] at hdu
      have hfm : Pt.Vw.vfwd u s2.data.toList = Pt.Vw.vfwd v s2.data.toList := by rw [hu]; exact Pt.Vw.first_more hck _ hd
      rw [hd1] at HDv
      rw [hdu, hd1] at HDu0
      rw [hfm] at HFu0
      unfold GivesFw at HF HFu0
      generalize (⟨((Pt.Vw.vfwd v s2.data.toList).getD []).toArray⟩ : ByteArray) = SS at *
      generalize (Pt.Vw.vfwd v s2.data.toList).isSome = jj at *
      have hdi : (d : Int) ≤ 20 := by omega
      have i5 : ¬ (d : Int) < 0 := by omega
      clear hdu hdl hd hd1 hvl hfm
      cases jj
      all_goals
        obtain ⟨n, hn⟩ : ∃ n, n = rl0.length := ⟨_, rfl⟩
        have HN := Lib.hid hn
        have HWS := Lib.hid hws0
        obtain ⟨t0, t1, t2, t3, t4, tl⟩ := hbx
        have HL9 := Lib.hid hL9
        rw [← hn] at HF
        rw [← hn] at HDv
        rw [← hn]
        clear hr0 hy1 hapr hap1 hv hr hu hLu hl9 hl1 hl0 hz0 hN0 hx1 hw1 hz1 hws0 hn hL9 hal hck hz5 hz6 hn20 hz60 hl200 hl
        subst hW0
        go_enter Tryd.func7, Tryd.ntmps7
        go_wp2_with (refine wpList_append_vr rfl _ _ rfl (w.heap.size + 1) (.slice (some ⟨w.heap.size + 1, 0, none⟩) 1 1) [y1] rfl HOW.out A0 rl0 n c0 HN.out rfl (HRV.out _ (HAL.out.trans (((Below.refl _ _).alloc (Nat.le_refl _) _ : Below (w.alloc (.cells #[.bool y1.ex, .slice y1.A y1.xs.length y1.c, .bool y1.b, .slice y1.B y1.ys.length y1.d, .bool y1.f] 34)).heap.size (w.alloc (.cells #[.bool y1.ex, .slice y1.A y1.xs.length y1.c, .bool y1.b, .slice y1.B y1.ys.length y1.d, .bool y1.f] 34)) (World.alloc _ _)).mono HAL.out.size))) (fun x hx y hy a ha => ⟨fun e => by have h1 := HAPR.out x hx y hy a ha; have e2 : w.heap.size + 1 = a.block := Option.some.inj e; omega, by have h1 := HAPR.out x hx y hy a ha; have h3 := HAL.out.size; simp; omega⟩) HNN.out (by simp) ?_; intro v9 w9 hown9 hb9 hg9)
        have hb99 : Below (w.alloc (.cells #[.bool y1.ex, .slice y1.A y1.xs.length y1.c, .bool y1.b, .slice y1.B y1.ys.length y1.d, .bool y1.f] 34)).heap.size (w.alloc (.cells #[.bool y1.ex, .slice y1.A y1.xs.length y1.c, .bool y1.b, .slice y1.B y1.ys.length y1.d, .bool y1.f] 34)) w9 := ((Below.refl _ _).alloc (Nat.le_refl _) _ : Below (w.alloc (.cells #[.bool y1.ex, .slice y1.A y1.xs.length y1.c, .bool y1.b, .slice y1.B y1.ys.length y1.d, .bool y1.f] 34)).heap.size (w.alloc (.cells #[.bool y1.ex, .slice y1.A y1.xs.length y1.c, .bool y1.b, .slice y1.B y1.ys.length y1.d, .bool y1.f] 34)) (World.alloc _ _)).trans (by rw [show (w.alloc (.cells #[.bool y1.ex, .slice y1.A y1.xs.length y1.c, .bool y1.b, .slice y1.B y1.ys.length y1.d, .bool y1.f] 34)).heap.size = w.heap.size + 1 by simp]; exact hb9)
        obtain ⟨A8, c8, hv9, hrd9, _⟩ := hown9.rd
        rw [show ([y1] ++ rl0 : List RulV) = L9 from HL9.out.symm] at hrd9 hv9
        subst hv9
        obtain ⟨t0, t1, t2, t3, t4, tl⟩ := HB.out _ hb99
        have HX0 := Lib.hid (HAL.out.trans (hb99.mono HAL.out.size))
        have HCk2 := Lib.hid (fun (w' : World) (hb : Below w9.heap.size w9 w') => HCk0.out A8 c8 w' (hrd9.keep hb))
        have HSm2 := Lib.hid (fun (w' : World) (hb : Below w9.heap.size w9 w') => HSm0.out A8 c8 w' (hrd9.keep hb))
        have HAw2 := Lib.hid (fun (w' : World) (hb : Below w9.heap.size w9 w') => HAw.out w' (HX0.out.trans (hb.mono HX0.out.size)))
        have HFu := Lib.hid (fun (w' : World) (hb : Below w9.heap.size w9 w') => HFu0.out A8 c8 w' (hrd9.keep hb) (HX0.out.trans (hb.mono HX0.out.size)))
        have HDu := Lib.hid (fun (w' : World) (hb : Below w9.heap.size w9 w') => HDu0.out A8 c8 w' (hrd9.keep hb) (HX0.out.trans (hb.mono HX0.out.size)))
        have HF2 := Lib.hid (fun (w' : World) (hb : Below w9.heap.size w9 w') => HF.out w' (HX0.out.trans (hb.mono HX0.out.size)))
        have HD2 := Lib.hid (fun (w' : World) (hb : Below w9.heap.size w9 w') => HDv.out w' (HX0.out.trans (hb.mono HX0.out.size)))
        have HM2 := Lib.hid (fun (w' : World) (hb : Below w9.heap.size w9 w') => HM.out w' (HX0.out.trans (hb.mono HX0.out.size)))
        have HRB := Lib.hid (fun (w' : World) (hb : Below w9.heap.size w9 w') => HB.out w' (hb99.trans (hb.mono hb99.size)))
        generalize L9.length = q at *
        have HX9 := HX0
        have HX0 := Lib.hid (Below.refl w9.heap.size w9)
        clear hown9 hb9 hg9 hb99 hrd9
        go_wp2_with fail
        with_reducible refine (HCk2.out _ HX0.out).mono ?_
        rintro e u1 ⟨rfl, hb1⟩
        have hX1 := HX0.out.trans (hb1.mono HX0.out.size)
        have HX1 := Lib.hid hX1
        clear hb1 hX1 
        go_wp2_with fail
        with_reducible refine (HSm2.out _ HX1.out).mono ?_
        rintro e u2 ⟨rfl, hb2⟩
        have hX2 := HX1.out.trans (hb2.mono HX1.out.size)
        have HX2 := Lib.hid hX2
        clear hb2 hX2 
        go_wp2_with fail
        with_reducible refine (HD2.out _ HX2.out).mono ?_
        rintro e u3 ⟨rfl, hb3⟩
        have hX3 := HX2.out.trans (hb3.mono HX2.out.size)
        have HX3 := Lib.hid hX3
        clear hb3 hX3 
        go_wp2_with fail
        with_reducible refine (HDu.out _ HX3.out).mono ?_
        rintro e u4 ⟨rfl, hb4⟩
        have hX4 := HX3.out.trans (hb4.mono HX3.out.size)
        have HX4 := Lib.hid hX4
        clear hb4 hX4 
        go_wp2_with fail
        with_reducible refine (HF2.out _ HX4.out).mono ?_
        rintro e u5 ⟨rfl, hb5⟩
        have hX5 := HX4.out.trans (hb5.mono HX4.out.size)
        have HX5 := Lib.hid hX5
        clear hb5 hX5 
        go_wp2_with fail
        with_reducible refine (HFu.out _ HX5.out).mono ?_
        rintro e u6 ⟨rfl, hb6⟩
        have hX6 := HX5.out.trans (hb6.mono HX5.out.size)
        have HX6 := Lib.hid hX6
        clear hb6 hX6 
        go_wp2_with fail
        with_reducible refine (HAw2.out _ HX6.out).mono ?_
        rintro e u7 ⟨rfl, hb7⟩
        have hX7 := HX6.out.trans (hb7.mono HX6.out.size)
        have HX7 := Lib.hid hX7
        clear hb7 hX7 
        go_wp2
        go_ret
        exact ⟨rfl, HX9.out.trans (HX7.out.mono HX9.out.size)⟩

end Go.Proofs.YtchgbigjfpffeaaDoor.viewFirst
