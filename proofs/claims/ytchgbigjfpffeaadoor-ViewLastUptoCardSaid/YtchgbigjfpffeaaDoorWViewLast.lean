/- ViewLast returns true at every list of lines and every line and every string (the card: the variables that it lists hold what the program text lays). Conditions: what it reads is of bulk at most 1048576 values and letters. -/
import Derived.Test.YtchgbigjfpffeaaDoorCards
import Derived.Test.YtchgbigjfpffeaaDoorTie
import Derived.WalkKit
import Derived.ProofKit
import Derived.OpenShut
import Derived.ShutString
import Derived.Test.YtchgbigjfpffeaaDoorPatOpen
import Derived.Test.YtchgbigjfpffeaaDoorVwOpen
import Derived.Test.YtchgbigjfpffeaaDoorVwLaw
import Derived.Test.YtchgbigjfpffeaaDoorVwBack
import Derived.Test.YtchgbigjfpffeaaDoorOwnVr
import Derived.Deep.DeepHandedRow
import Derived.Lib.LaidTab
import Derived.Deep.DeepWitnessRowRef
import Derived.Deep.CondSized
namespace Go.Proofs.YtchgbigjfpffeaaDoor.viewLast
open Go.ChangeShapes Go.WideShapes Go.ChangeAt Go.RowKit
open Go.ChangeMaps (open_string shut_string)
set_option linter.unusedVariables false

set_option maxHeartbeats 8000000 in
theorem walk (w : World) (A0 : Option Addr) (rl0 : List RulV) (c0 : Nat) (hr0 : RdV w A0 rl0 c0) (hN0 : rl0.length ≤ 1048576) (hl0 : ∀ x ∈ rl0, x.xs.length ≤ 1048576 ∧ x.ys.length ≤ 1048576) (hz0 : SzV 1048576 rl0) (y1 : RulV) (hy1 : RulV.R w y1) (hx1 : y1.xs.length ≤ 1048576) (hw1 : y1.ys.length ≤ 1048576) (hz1 : SzV 1048576 [y1]) (s2 : ByteArray) (w2 : s2.size ≤ maxLen) (hm : MaxL w) :
    Calls Tryd.prog 6 #[.slice A0 rl0.length c0, rulV y1.ex y1.A y1.xs.length y1.c y1.b y1.B y1.ys.length y1.d y1.f, .string s2] w fun e w' => e = .returned (.bool true) ∧ Below w.heap.size w w' := by
  obtain ⟨W0, hW0⟩ : ∃ W0, W0 = w.alloc (.cells #[.bool y1.ex, .slice y1.A y1.xs.length y1.c, .bool y1.b, .slice y1.B y1.ys.length y1.d, .bool y1.f] 34) := ⟨_, rfl⟩
  have hal : Below w.heap.size w W0 := by rw [hW0]; exact (Below.refl _ _).alloc (Nat.le_refl _) _
  have HAL := Lib.hid hal
  have hws0 : W0.heap.size = w.heap.size + 1 := by rw [hW0]; simp
  have hbx : RBox W0 w.heap.size y1.ex y1.A y1.xs.length y1.c y1.b y1.B y1.ys.length y1.d y1.f := by rw [hW0]; exact RBox.new ..
  have HB := Lib.hid (fun (w' : World) (hb : Below W0.heap.size W0 w') => hbx.keep hb)
  obtain ⟨v, hv⟩ : ∃ v, v = rl0.map RulV.rul := ⟨_, rfl⟩
  obtain ⟨r, hr⟩ : ∃ r, r = y1.rul := ⟨_, rfl⟩
  obtain ⟨L9, hL9⟩ : ∃ L9, L9 = rl0 ++ [y1] := ⟨_, rfl⟩
  obtain ⟨u, hu⟩ : ∃ u, u = v ++ [r] := ⟨_, rfl⟩
  have hLu : L9.map RulV.rul = u := by rw [hL9, hu, hv, hr]; simp
  have hl9 : L9.length = rl0.length + 1 := by rw [hL9]; simp
  have hl1 : ∀ x ∈ L9, x.xs.length ≤ 1100000 ∧ x.ys.length ≤ 1100000 := by
    intro x hx
    have hx2 : x ∈ rl0 ∨ x = y1 := by rw [hL9] at hx; simpa [or_comm] using hx
    rcases hx2 with h | h
    · have := hl0 x h; omega
    · rw [h]; omega
  have HRV := Lib.hid (fun (w' : World) (hb : Below w.heap.size w w') => hr0.keep hb)
  have HY1 := Lib.hid (fun (w' : World) (hb : Below w.heap.size w w') => hy1.keep hb)
  have HMX := Lib.hid (fun (w' : World) (hb : Below w.heap.size w w') => hm.keep hb hm.size)
  have HAw := Lib.hid (fun (w' : World) (hb : Below w.heap.size w w') => awake6_any w' (hm.keep hb hm.size))
  have HSm0 := Lib.hid (fun (A : Option Addr) (c : Nat) (w' : World) (hrd : RdV w' A L9 c) => small6_any A L9 c w' hrd (by omega) hl1)
  have HCk0 := Lib.hid (fun (A : Option Addr) (c : Nat) (w' : World) (hrd : RdV w' A L9 c) => show Calls Tryd.prog 12 #[.slice A L9.length c] w' (fun en w2 => en = .returned (.tuple #[.int .i64 ((Pt.Vw.vcheck u).1 : Int), .int .i64 ((Pt.Vw.vcheck u).2 : Int)]) ∧ Below w'.heap.size w' w2) from by rw [← hLu]; exact vcheck_any A L9 c w' hrd)
  have hapr : ∀ x ∈ rl0, ∀ y ∈ (adr x.A x.xs ++ adr x.B x.ys), ∀ a, y = some a → a.block < w.heap.size := fun x hx => RulV.adr_lt (hr0.parts x hx)
  have hap1 : ∀ y ∈ (adr y1.A y1.xs ++ adr y1.B y1.ys), ∀ a, y = some a → a.block < w.heap.size := RulV.adr_lt hy1
  have HAPR := Lib.hid hapr
  have HAP1 := Lib.hid hap1
  have hHN : (rl0.length + 1) * 72 ≤ 140737488355328 := by omega
  have HNN := Lib.hid hHN
  clear hHN
  have HRW := Lib.hid (fun (w' : World) (hb : Below W0.heap.size W0 w') => hr0.keep (hal.trans (hb.mono hal.size)))
  have HYW := Lib.hid (fun (w' : World) (hb : Below W0.heap.size W0 w') => hy1.keep (hal.trans (hb.mono hal.size)))
  have HS5 := Lib.hid (fun (w' : World) (hb : Below W0.heap.size W0 w') => show w'.cell? ⟨w.heap.size, 0, none⟩ = some (.bool y1.ex) ∧ w'.cell? ⟨w.heap.size, 1, none⟩ = some (.slice y1.A y1.xs.length y1.c) ∧ w'.cell? ⟨w.heap.size, 2, none⟩ = some (.bool y1.b) ∧ w'.cell? ⟨w.heap.size, 3, none⟩ = some (.slice y1.B y1.ys.length y1.d) ∧ w'.cell? ⟨w.heap.size, 4, none⟩ = some (.bool y1.f) from ⟨(hbx.keep hb).c0, (hbx.keep hb).c1, (hbx.keep hb).c2, (hbx.keep hb).c3, (hbx.keep hb).c4⟩)
  cases hsm : smallV L9 with
  | false =>
    rw [hsm] at HSm0
    clear hsm
    obtain ⟨n, hn⟩ : ∃ n, n = rl0.length := ⟨_, rfl⟩
    have HN := Lib.hid hn
    have HWS := Lib.hid hws0
    obtain ⟨t0, t1, t2, t3, t4, tl⟩ := hbx
    have HL9 := Lib.hid hL9
    have HLN := Lib.hid hl9
    rw [← hn]
    clear hr0 hy1 hapr hap1 hv hr hu hLu hl9 hl1 hl0 hz0 hN0 hx1 hw1 hz1 hws0 hn hL9 hal 
    go_enter Tryd.func6, Tryd.ntmps6
    go_upto_region 1 with fail
    generalize hwg : w.alloc (.cells #[.bool y1.ex, .slice y1.A y1.xs.length y1.c, .bool y1.b, .slice y1.B y1.ys.length y1.d, .bool y1.f] 34) = W7
    have hWW : W7 = W0 := by rw [← hwg, hW0]
    subst hWW
    clear hwg hW0
    have hdr9 : W7.drew.heap.size = W7.heap.size := rfl
    set_option maxRecDepth 100000 in
    go_region_held3 (fun w' => w'.cell? ⟨w.heap.size, 0, none⟩ = some (.bool y1.ex) ∧ w'.cell? ⟨w.heap.size, 1, none⟩ = some (.slice y1.A y1.xs.length y1.c) ∧ w'.cell? ⟨w.heap.size, 2, none⟩ = some (.bool y1.b) ∧ w'.cell? ⟨w.heap.size, 3, none⟩ = some (.slice y1.B y1.ys.length y1.d) ∧ w'.cell? ⟨w.heap.size, 4, none⟩ = some (.bool y1.f))
      (first | exact HS5.out _ b6 | exact HS5.out _ b5 | exact HS5.out _ (b5.alloc b5.size _) | exact HS5.out _ (below_drew (Below.refl _ _)) | exact HS5.out _ (Below.refl _ _) | exact HS5.out _ ((below_drew (Below.refl _ _)).alloc (Nat.le_refl _) _) | go_keep)
      (first
        | (refine step_append_vr rfl _ _ rfl W7.heap.size v5 ([] ++ rl0) rfl (hown5.below ((Below.refl _ _).alloc (Nat.le_refl _) _)) (some ⟨w5.heap.size, 0, none⟩) [y1] 1 1 rfl rfl (newV w5 y1 (HYW.out _ b5)) (fun x hx y hy a ha => by
             rw [List.mem_singleton.1 hx] at hy
             have h1 := HAP1.out y hy a ha
             have h2 := b5.size
             have h3 := HWS.out
             refine ⟨fun e => ?_, by (simp; omega)⟩
             have h4 := hown5.lt a.block e
             omega) (by (have := HNN.out; simp only [List.nil_append, List.length_cons, List.length_nil]; omega)) (by (have h2 := b5.size; simp; omega)) ?_; intro v6 w6 hown6 hb6 hg6
           have b6 : Below W7.heap.size W7 w6 := (b5.trans (((Below.refl _ _).alloc (Nat.le_refl _) _ : Below w5.heap.size w5 (World.alloc _ _)).mono b5.size)).trans hb6
           obtain ⟨A8, c8, hv9, hrd9, _⟩ := hown6.rd
           subst hv9)
        | (refine step_append_vr rfl _ _ rfl W7.heap.size v5 ([] ++ rl0) rfl (hown5.more (Nat.le_succ _)) (some ⟨W7.heap.size, 0, none⟩) [y1] 1 1 rfl rfl (RdV.keep (newV W7.drew y1 (HYW.out _ (below_drew (Below.refl _ _)))) (by have h5 := hb5; exact ⟨h5.os, h5.tape, h5.output, h5.size, fun k hk => h5.block k (by simpa using hk)⟩)) (fun x hx y hy a ha => by
             rw [List.mem_singleton.1 hx] at hy
             have h1 := HAP1.out y hy a ha
             have h2 := b5.size
             have h3 := HWS.out
             refine ⟨fun e => ?_, by omega⟩
             have h4 := hown5.lt a.block e
             omega) (by (have := HNN.out; simp only [List.nil_append, List.length_cons, List.length_nil]; omega)) b5.size ?_; intro v6 w6 hown6 hb6 hg6
           have b6 : Below W7.heap.size W7 w6 := b5.trans hb6
           obtain ⟨A8, c8, hv9, hrd9, _⟩ := hown6.rd
           subst hv9)
        | (refine step_append_vr rfl _ _ rfl W7.heap.size (.slice none 0 0) [] rfl (OwnW.empty _ _) A0 rl0 n c0 HN.out rfl (HRW.out _ (below_drew (Below.refl _ _))) (fun x hx y hy a ha => ⟨fun e => (by cases e), by have h1 := HAPR.out x hx y hy a ha; have h3 := HWS.out; show a.block < W7.heap.size; omega⟩) (by have := HNN.out; simp; omega) (by exact Nat.le_refl _) ?_; intro v5 w5 hown5 hb5 hg5
           have b5 : Below W7.heap.size W7 w5 := (below_drew (Below.refl _ _)).trans hb5)
        | (refine step_append_vr rfl _ _ rfl (W7.heap.size + 1) (.slice none 0 0) [] rfl (OwnW.empty _ _) A0 rl0 n c0 HN.out rfl (HRW.out _ ((below_drew (Below.refl _ _)).alloc (Nat.le_refl _) _)) (fun x hx y hy a ha => ⟨fun e => (by cases e), by have h1 := HAPR.out x hx y hy a ha; have h3 := HWS.out; simp; omega⟩) (by have := HNN.out; simp; omega) (by simp) ?_; intro v5 w5 hown5 hb5 hg5
           have b5 : Below W7.heap.size W7 w5 := ((below_drew (Below.refl _ _)).alloc (Nat.le_refl _) _).trans (hb5.mono (by omega))))
    all_goals
      have hLL9 : ([] ++ rl0 ++ [y1] : List RulV) = L9 := by rw [HL9.out]; simp
      rw [hLL9] at hrd9 hown6 ⊢
      clear hLL9
      obtain ⟨t0, t1, t2, t3, t4, tl⟩ := HB.out _ b6
      have HX0 := Lib.hid (HAL.out.trans (b6.mono HAL.out.size))
      have HCk2 := Lib.hid (fun (w' : World) (hb : Below w6.heap.size w6 w') => HCk0.out A8 c8 w' (hrd9.keep hb))
      have HSm2 := Lib.hid (fun (w' : World) (hb : Below w6.heap.size w6 w') => HSm0.out A8 c8 w' (hrd9.keep hb))
      have HAw2 := Lib.hid (fun (w' : World) (hb : Below w6.heap.size w6 w') => HAw.out w' (HX0.out.trans (hb.mono HX0.out.size)))
      have HRB := Lib.hid (fun (w' : World) (hb : Below w6.heap.size w6 w') => HB.out w' (b6.trans (hb.mono b6.size)))
      rw [HLN.out] at HCk2 HSm2
      generalize rl0.length + 1 = q at *
      have HX9 := HX0
      have HX0 := Lib.hid (Below.refl w6.heap.size w6)
      clear hown6 hb6 hg6 b6 hrd9 hown5 hb5 hg5 b5 hdr9
      go_wp2_with fail
      with_reducible refine (HCk2.out _ HX0.out).mono ?_
      rintro e u1 ⟨rfl, hb1⟩
      have hX1 := HX0.out.trans (hb1.mono HX0.out.size)
      have HX1 := Lib.hid hX1
      clear hb1 hX1 
      go_wp2_with fail
      with_reducible refine (HSm2.out _ HX1.out).mono ?_
      rintro e u2 ⟨rfl, hb2⟩
      have hX2 := HX1.out.trans (hb2.mono HX1.out.size)
      have HX2 := Lib.hid hX2
      clear hb2 hX2 
      go_wp2_with fail
      with_reducible refine (HAw2.out _ HX2.out).mono ?_
      rintro e u3 ⟨rfl, hb3⟩
      have hX3 := HX2.out.trans (hb3.mono HX2.out.size)
      have HX3 := Lib.hid hX3
      clear hb3 hX3 
      go_wp2
      go_ret
      exact ⟨rfl, HX9.out.trans (HX3.out.mono HX9.out.size)⟩
  | true =>
    rw [hsm] at HSm0
    obtain ⟨hn20, hz60, hl200⟩ := smallV_facts hsm
    clear hsm
    by_cases hl : s2.size ≤ 300
    rotate_left
    · have i1 : (300 : Int) < (s2.size : Int) := by omega
      clear hl
      obtain ⟨n, hn⟩ : ∃ n, n = rl0.length := ⟨_, rfl⟩
      have HN := Lib.hid hn
      have HWS := Lib.hid hws0
      obtain ⟨t0, t1, t2, t3, t4, tl⟩ := hbx
      have HL9 := Lib.hid hL9
      have HLN := Lib.hid hl9
      rw [← hn]
      clear hr0 hy1 hapr hap1 hv hr hu hLu hl9 hl1 hl0 hz0 hN0 hx1 hw1 hz1 hws0 hn hL9 hal 
      go_enter Tryd.func6, Tryd.ntmps6
      go_upto_region 1 with fail
      generalize hwg : w.alloc (.cells #[.bool y1.ex, .slice y1.A y1.xs.length y1.c, .bool y1.b, .slice y1.B y1.ys.length y1.d, .bool y1.f] 34) = W7
      have hWW : W7 = W0 := by rw [← hwg, hW0]
      subst hWW
      clear hwg hW0
      have hdr9 : W7.drew.heap.size = W7.heap.size := rfl
      set_option maxRecDepth 100000 in
      go_region_held3 (fun w' => w'.cell? ⟨w.heap.size, 0, none⟩ = some (.bool y1.ex) ∧ w'.cell? ⟨w.heap.size, 1, none⟩ = some (.slice y1.A y1.xs.length y1.c) ∧ w'.cell? ⟨w.heap.size, 2, none⟩ = some (.bool y1.b) ∧ w'.cell? ⟨w.heap.size, 3, none⟩ = some (.slice y1.B y1.ys.length y1.d) ∧ w'.cell? ⟨w.heap.size, 4, none⟩ = some (.bool y1.f))
        (first | exact HS5.out _ b6 | exact HS5.out _ b5 | exact HS5.out _ (b5.alloc b5.size _) | exact HS5.out _ (below_drew (Below.refl _ _)) | exact HS5.out _ (Below.refl _ _) | exact HS5.out _ ((below_drew (Below.refl _ _)).alloc (Nat.le_refl _) _) | go_keep)
        (first
          | (refine step_append_vr rfl _ _ rfl W7.heap.size v5 ([] ++ rl0) rfl (hown5.below ((Below.refl _ _).alloc (Nat.le_refl _) _)) (some ⟨w5.heap.size, 0, none⟩) [y1] 1 1 rfl rfl (newV w5 y1 (HYW.out _ b5)) (fun x hx y hy a ha => by
               rw [List.mem_singleton.1 hx] at hy
               have h1 := HAP1.out y hy a ha
               have h2 := b5.size
               have h3 := HWS.out
               refine ⟨fun e => ?_, by (simp; omega)⟩
               have h4 := hown5.lt a.block e
               omega) (by (have := HNN.out; simp only [List.nil_append, List.length_cons, List.length_nil]; omega)) (by (have h2 := b5.size; simp; omega)) ?_; intro v6 w6 hown6 hb6 hg6
             have b6 : Below W7.heap.size W7 w6 := (b5.trans (((Below.refl _ _).alloc (Nat.le_refl _) _ : Below w5.heap.size w5 (World.alloc _ _)).mono b5.size)).trans hb6
             obtain ⟨A8, c8, hv9, hrd9, _⟩ := hown6.rd
             subst hv9)
          | (refine step_append_vr rfl _ _ rfl W7.heap.size v5 ([] ++ rl0) rfl (hown5.more (Nat.le_succ _)) (some ⟨W7.heap.size, 0, none⟩) [y1] 1 1 rfl rfl (RdV.keep (newV W7.drew y1 (HYW.out _ (below_drew (Below.refl _ _)))) (by have h5 := hb5; exact ⟨h5.os, h5.tape, h5.output, h5.size, fun k hk => h5.block k (by simpa using hk)⟩)) (fun x hx y hy a ha => by
               rw [List.mem_singleton.1 hx] at hy
               have h1 := HAP1.out y hy a ha
               have h2 := b5.size
               have h3 := HWS.out
               refine ⟨fun e => ?_, by omega⟩
               have h4 := hown5.lt a.block e
               omega) (by (have := HNN.out; simp only [List.nil_append, List.length_cons, List.length_nil]; omega)) b5.size ?_; intro v6 w6 hown6 hb6 hg6
             have b6 : Below W7.heap.size W7 w6 := b5.trans hb6
             obtain ⟨A8, c8, hv9, hrd9, _⟩ := hown6.rd
             subst hv9)
          | (refine step_append_vr rfl _ _ rfl W7.heap.size (.slice none 0 0) [] rfl (OwnW.empty _ _) A0 rl0 n c0 HN.out rfl (HRW.out _ (below_drew (Below.refl _ _))) (fun x hx y hy a ha => ⟨fun e => (by cases e), by have h1 := HAPR.out x hx y hy a ha; have h3 := HWS.out; show a.block < W7.heap.size; omega⟩) (by have := HNN.out; simp; omega) (by exact Nat.le_refl _) ?_; intro v5 w5 hown5 hb5 hg5
             have b5 : Below W7.heap.size W7 w5 := (below_drew (Below.refl _ _)).trans hb5)
          | (refine step_append_vr rfl _ _ rfl (W7.heap.size + 1) (.slice none 0 0) [] rfl (OwnW.empty _ _) A0 rl0 n c0 HN.out rfl (HRW.out _ ((below_drew (Below.refl _ _)).alloc (Nat.le_refl _) _)) (fun x hx y hy a ha => ⟨fun e => (by cases e), by have h1 := HAPR.out x hx y hy a ha; have h3 := HWS.out; simp; omega⟩) (by have := HNN.out; simp; omega) (by simp) ?_; intro v5 w5 hown5 hb5 hg5
             have b5 : Below W7.heap.size W7 w5 := ((below_drew (Below.refl _ _)).alloc (Nat.le_refl _) _).trans (hb5.mono (by omega))))
      all_goals
        have hLL9 : ([] ++ rl0 ++ [y1] : List RulV) = L9 := by rw [HL9.out]; simp
        rw [hLL9] at hrd9 hown6 ⊢
        clear hLL9
        obtain ⟨t0, t1, t2, t3, t4, tl⟩ := HB.out _ b6
        have HX0 := Lib.hid (HAL.out.trans (b6.mono HAL.out.size))
        have HCk2 := Lib.hid (fun (w' : World) (hb : Below w6.heap.size w6 w') => HCk0.out A8 c8 w' (hrd9.keep hb))
        have HSm2 := Lib.hid (fun (w' : World) (hb : Below w6.heap.size w6 w') => HSm0.out A8 c8 w' (hrd9.keep hb))
        have HAw2 := Lib.hid (fun (w' : World) (hb : Below w6.heap.size w6 w') => HAw.out w' (HX0.out.trans (hb.mono HX0.out.size)))
        have HRB := Lib.hid (fun (w' : World) (hb : Below w6.heap.size w6 w') => HB.out w' (b6.trans (hb.mono b6.size)))
        rw [HLN.out] at HCk2 HSm2
        generalize rl0.length + 1 = q at *
        have HX9 := HX0
        have HX0 := Lib.hid (Below.refl w6.heap.size w6)
        clear hown6 hb6 hg6 b6 hrd9 hown5 hb5 hg5 b5 hdr9
        go_wp2_with fail
        with_reducible refine (HCk2.out _ HX0.out).mono ?_
        rintro e u1 ⟨rfl, hb1⟩
        have hX1 := HX0.out.trans (hb1.mono HX0.out.size)
        have HX1 := Lib.hid hX1
        clear hb1 hX1 
        go_wp2_with fail
        with_reducible refine (HSm2.out _ HX1.out).mono ?_
        rintro e u2 ⟨rfl, hb2⟩
        have hX2 := HX1.out.trans (hb2.mono HX1.out.size)
        have HX2 := Lib.hid hX2
        clear hb2 hX2 
        go_wp2_with fail
        with_reducible refine (HAw2.out _ HX2.out).mono ?_
        rintro e u3 ⟨rfl, hb3⟩
        have hX3 := HX2.out.trans (hb3.mono HX2.out.size)
        have HX3 := Lib.hid hX3
        clear hb3 hX3 
        go_wp2
        go_ret
        exact ⟨rfl, HX9.out.trans (HX3.out.mono HX9.out.size)⟩
    have i1 : ¬ (300 : Int) < (s2.size : Int) := by omega
    by_cases hck : (Pt.Vw.vcheck u).2 = 0
    rotate_left
    · have p1 : (((Pt.Vw.vcheck u).2 : Int) == 0) = false := by rw [beq_eq_false_iff_ne]; omega
      have p2 : (((Pt.Vw.vcheck u).2 : Int) != 0) = true := by rw [bne, p1]; rfl
      generalize (Pt.Vw.vcheck u).1 = k1 at *
      generalize (Pt.Vw.vcheck u).2 = k2 at *
      clear hck
      obtain ⟨n, hn⟩ : ∃ n, n = rl0.length := ⟨_, rfl⟩
      have HN := Lib.hid hn
      have HWS := Lib.hid hws0
      obtain ⟨t0, t1, t2, t3, t4, tl⟩ := hbx
      have HL9 := Lib.hid hL9
      have HLN := Lib.hid hl9
      rw [← hn]
      clear hr0 hy1 hapr hap1 hv hr hu hLu hl9 hl1 hl0 hz0 hN0 hx1 hw1 hz1 hws0 hn hL9 hal 
      go_enter Tryd.func6, Tryd.ntmps6
      go_upto_region 1 with fail
      generalize hwg : w.alloc (.cells #[.bool y1.ex, .slice y1.A y1.xs.length y1.c, .bool y1.b, .slice y1.B y1.ys.length y1.d, .bool y1.f] 34) = W7
      have hWW : W7 = W0 := by rw [← hwg, hW0]
      subst hWW
      clear hwg hW0
      have hdr9 : W7.drew.heap.size = W7.heap.size := rfl
      set_option maxRecDepth 100000 in
      go_region_held3 (fun w' => w'.cell? ⟨w.heap.size, 0, none⟩ = some (.bool y1.ex) ∧ w'.cell? ⟨w.heap.size, 1, none⟩ = some (.slice y1.A y1.xs.length y1.c) ∧ w'.cell? ⟨w.heap.size, 2, none⟩ = some (.bool y1.b) ∧ w'.cell? ⟨w.heap.size, 3, none⟩ = some (.slice y1.B y1.ys.length y1.d) ∧ w'.cell? ⟨w.heap.size, 4, none⟩ = some (.bool y1.f))
        (first | exact HS5.out _ b6 | exact HS5.out _ b5 | exact HS5.out _ (b5.alloc b5.size _) | exact HS5.out _ (below_drew (Below.refl _ _)) | exact HS5.out _ (Below.refl _ _) | exact HS5.out _ ((below_drew (Below.refl _ _)).alloc (Nat.le_refl _) _) | go_keep)
        (first
          | (refine step_append_vr rfl _ _ rfl W7.heap.size v5 ([] ++ rl0) rfl (hown5.below ((Below.refl _ _).alloc (Nat.le_refl _) _)) (some ⟨w5.heap.size, 0, none⟩) [y1] 1 1 rfl rfl (newV w5 y1 (HYW.out _ b5)) (fun x hx y hy a ha => by
               rw [List.mem_singleton.1 hx] at hy
               have h1 := HAP1.out y hy a ha
               have h2 := b5.size
               have h3 := HWS.out
               refine ⟨fun e => ?_, by (simp; omega)⟩
               have h4 := hown5.lt a.block e
               omega) (by (have := HNN.out; simp only [List.nil_append, List.length_cons, List.length_nil]; omega)) (by (have h2 := b5.size; simp; omega)) ?_; intro v6 w6 hown6 hb6 hg6
             have b6 : Below W7.heap.size W7 w6 := (b5.trans (((Below.refl _ _).alloc (Nat.le_refl _) _ : Below w5.heap.size w5 (World.alloc _ _)).mono b5.size)).trans hb6
             obtain ⟨A8, c8, hv9, hrd9, _⟩ := hown6.rd
             subst hv9)
          | (refine step_append_vr rfl _ _ rfl W7.heap.size v5 ([] ++ rl0) rfl (hown5.more (Nat.le_succ _)) (some ⟨W7.heap.size, 0, none⟩) [y1] 1 1 rfl rfl (RdV.keep (newV W7.drew y1 (HYW.out _ (below_drew (Below.refl _ _)))) (by have h5 := hb5; exact ⟨h5.os, h5.tape, h5.output, h5.size, fun k hk => h5.block k (by simpa using hk)⟩)) (fun x hx y hy a ha => by
               rw [List.mem_singleton.1 hx] at hy
               have h1 := HAP1.out y hy a ha
               have h2 := b5.size
               have h3 := HWS.out
               refine ⟨fun e => ?_, by omega⟩
               have h4 := hown5.lt a.block e
               omega) (by (have := HNN.out; simp only [List.nil_append, List.length_cons, List.length_nil]; omega)) b5.size ?_; intro v6 w6 hown6 hb6 hg6
             have b6 : Below W7.heap.size W7 w6 := b5.trans hb6
             obtain ⟨A8, c8, hv9, hrd9, _⟩ := hown6.rd
             subst hv9)
          | (refine step_append_vr rfl _ _ rfl W7.heap.size (.slice none 0 0) [] rfl (OwnW.empty _ _) A0 rl0 n c0 HN.out rfl (HRW.out _ (below_drew (Below.refl _ _))) (fun x hx y hy a ha => ⟨fun e => (by cases e), by have h1 := HAPR.out x hx y hy a ha; have h3 := HWS.out; show a.block < W7.heap.size; omega⟩) (by have := HNN.out; simp; omega) (by exact Nat.le_refl _) ?_; intro v5 w5 hown5 hb5 hg5
             have b5 : Below W7.heap.size W7 w5 := (below_drew (Below.refl _ _)).trans hb5)
          | (refine step_append_vr rfl _ _ rfl (W7.heap.size + 1) (.slice none 0 0) [] rfl (OwnW.empty _ _) A0 rl0 n c0 HN.out rfl (HRW.out _ ((below_drew (Below.refl _ _)).alloc (Nat.le_refl _) _)) (fun x hx y hy a ha => ⟨fun e => (by cases e), by have h1 := HAPR.out x hx y hy a ha; have h3 := HWS.out; simp; omega⟩) (by have := HNN.out; simp; omega) (by simp) ?_; intro v5 w5 hown5 hb5 hg5
             have b5 : Below W7.heap.size W7 w5 := ((below_drew (Below.refl _ _)).alloc (Nat.le_refl _) _).trans (hb5.mono (by omega))))
      all_goals
        have hLL9 : ([] ++ rl0 ++ [y1] : List RulV) = L9 := by rw [HL9.out]; simp
        rw [hLL9] at hrd9 hown6 ⊢
        clear hLL9
        obtain ⟨t0, t1, t2, t3, t4, tl⟩ := HB.out _ b6
        have HX0 := Lib.hid (HAL.out.trans (b6.mono HAL.out.size))
        have HCk2 := Lib.hid (fun (w' : World) (hb : Below w6.heap.size w6 w') => HCk0.out A8 c8 w' (hrd9.keep hb))
        have HSm2 := Lib.hid (fun (w' : World) (hb : Below w6.heap.size w6 w') => HSm0.out A8 c8 w' (hrd9.keep hb))
        have HAw2 := Lib.hid (fun (w' : World) (hb : Below w6.heap.size w6 w') => HAw.out w' (HX0.out.trans (hb.mono HX0.out.size)))
        have HRB := Lib.hid (fun (w' : World) (hb : Below w6.heap.size w6 w') => HB.out w' (b6.trans (hb.mono b6.size)))
        rw [HLN.out] at HCk2 HSm2
        generalize rl0.length + 1 = q at *
        have HX9 := HX0
        have HX0 := Lib.hid (Below.refl w6.heap.size w6)
        clear hown6 hb6 hg6 b6 hrd9 hown5 hb5 hg5 b5 hdr9
        go_wp2_with fail
        with_reducible refine (HCk2.out _ HX0.out).mono ?_
        rintro e u1 ⟨rfl, hb1⟩
        have hX1 := HX0.out.trans (hb1.mono HX0.out.size)
        have HX1 := Lib.hid hX1
        clear hb1 hX1 
        go_wp2_with fail
        with_reducible refine (HSm2.out _ HX1.out).mono ?_
        rintro e u2 ⟨rfl, hb2⟩
        have hX2 := HX1.out.trans (hb2.mono HX1.out.size)
        have HX2 := Lib.hid hX2
        clear hb2 hX2 
        go_wp2_with fail
        with_reducible refine (HAw2.out _ HX2.out).mono ?_
        rintro e u3 ⟨rfl, hb3⟩
        have hX3 := HX2.out.trans (hb3.mono HX2.out.size)
        have HX3 := Lib.hid hX3
        clear hb3 hX3 
        go_wp2
        go_ret
        exact ⟨rfl, HX9.out.trans (HX3.out.mono HX9.out.size)⟩
    rw [Pt.Vw.vcheck_zero hck] at HCk0
    rw [hu] at hck
    have hz5 : SzV 100000 L9 := fun x hx => ⟨fun y hy => Nat.le_trans ((hz60 x hx).1 y hy) (by decide), fun y hy => Nat.le_trans ((hz60 x hx).2 y hy) (by decide)⟩
    have hz6 : SzV 100000 rl0 := fun x hx => hz5 x (by rw [hL9]; simp [hx])
    have HF := Lib.hid (fun (w' : World) (hb : Below w.heap.size w w') => show Calls Tryd.prog 17 #[.slice A0 rl0.length c0, .string s2] w' (GivesFw w' (Pt.Vw.vfwd v s2.data.toList)) from by rw [hv]; exact vfwd_any A0 rl0 c0 s2 w' (hr0.keep hb) hz6 (by omega) (hm.keep hb hm.size))
    have HFu0 := Lib.hid (fun (A : Option Addr) (c : Nat) (w' : World) (hrd : RdV w' A L9 c) (hb : Below w.heap.size w w') => show Calls Tryd.prog 17 #[.slice A L9.length c, .string s2] w' (GivesFw w' (Pt.Vw.vfwd u s2.data.toList)) from by rw [← hLu]; exact vfwd_any A L9 c s2 w' hrd hz5 (by omega) (hm.keep hb hm.size))
    have HM := Lib.hid (fun (w' : World) (hb : Below w.heap.size w w') => show Calls Tryd.prog 19 #[patV y1.A y1.xs.length y1.c y1.b, .string s2] w' (GivesBB w' (Pt.Vw.lm r s2.data.toList)) from by rw [hr]; exact vmatches6_any y1.A y1.xs y1.c y1.b y1.rul.left s2 w' (hy1.keep hb).left (by omega) (hm.keep hb hm.size))
    have hlm0 := Pt.Vw.last_more hck s2.data.toList
    rw [← hu] at hlm0
    have hrc := (Pt.Vw.last_ok hck).2
    have hsz9 : ∀ x ∈ v, Pt.szs 60 x.right := fun x hx => ((show SzV 60 rl0 from fun z hz => hz60 z (by rw [hL9]; simp [hz])).szs x (by rw [← hv]; exact hx)).2
    have hlen := fun (c : List UInt8) (h : Pt.Vw.vfwd v s2.data.toList = some c) => vfwd_len h hsz9 (show s2.data.toList.length ≤ 300 by rw [← Lib.size_eq]; exact hl)
    have HQr := Lib.hid (fun (w' : World) (hb : Below w.heap.size w w') => show Calls Tryd.prog 20 #[rulV y1.ex y1.A y1.xs.length y1.c y1.b y1.B y1.ys.length y1.d y1.f, .string s2] w' (GivesFw w' (Pt.fwd r s2.data.toList)) from by rw [hr]; exact qfwd_any y1.ex y1.A y1.xs y1.c y1.b y1.B y1.ys y1.d y1.f y1.rul s2 w' (hy1.keep hb) (hz5 y1 (by rw [hL9]; simp)).2 (by omega) (hm.keep hb hm.size))
    have hNr0 := fun (t : ByteArray) (ht : t.size ≤ 100000) (w' : World) (hb : Below w.heap.size w w') => show Calls Tryd.prog 19 #[patV y1.B y1.ys.length y1.d y1.f, .string t] w' (GivesBB w' (Pt.Vw.rm r t.data.toList)) from by rw [hr]; exact vmatches6_any y1.B y1.ys y1.d y1.f y1.rul.right t w' (hy1.keep hb).right (by omega) (hm.keep hb hm.size)
    have hrex : r.ex = y1.ex := by rw [hr]; rfl
    cases hlm : Pt.Vw.lm r s2.data.toList with
    | true =>
      rw [hlm, if_pos rfl] at hlm0
      rw [hlm] at HM
      have HNr := Lib.hid (fun (w' : World) (hb : Below w.heap.size w w') => trivial)
      clear hNr0 hlen hsz9
      by_cases hex : y1.ex = true
      · skip
        rw [hrex, hex, if_pos rfl] at hlm0
        rw [hlm0] at HFu0
        unfold GivesFw at HF HFu0 HQr
        simp only [Option.getD_none, Option.isSome_none] at HFu0
        generalize (⟨((Pt.Vw.vfwd v s2.data.toList).getD []).toArray⟩ : ByteArray) = SS at *
        generalize (Pt.Vw.vfwd v s2.data.toList).isSome = jj at *
        generalize (⟨((Pt.fwd r s2.data.toList).getD []).toArray⟩ : ByteArray) = S2 at *
        generalize (Pt.fwd r s2.data.toList).isSome = j2 at *
        have HEX := Lib.hid hex
        clear hlm0 hlm hex hrex hrc
        obtain ⟨n, hn⟩ : ∃ n, n = rl0.length := ⟨_, rfl⟩
        have HN := Lib.hid hn
        have HWS := Lib.hid hws0
        obtain ⟨t0, t1, t2, t3, t4, tl⟩ := hbx
        have HL9 := Lib.hid hL9
        have HLN := Lib.hid hl9
        rw [← hn] at HF
        rw [← hn]
        clear hr0 hy1 hapr hap1 hv hr hu hLu hl9 hl1 hl0 hz0 hN0 hx1 hw1 hz1 hws0 hn hL9 hal hck hz5 hz6 hn20 hz60 hl200 hl
        go_enter Tryd.func6, Tryd.ntmps6
        go_upto_region 1 with fail
        generalize hwg : w.alloc (.cells #[.bool y1.ex, .slice y1.A y1.xs.length y1.c, .bool y1.b, .slice y1.B y1.ys.length y1.d, .bool y1.f] 34) = W7
        have hWW : W7 = W0 := by rw [← hwg, hW0]
        subst hWW
        clear hwg hW0
        have hdr9 : W7.drew.heap.size = W7.heap.size := rfl
        set_option maxRecDepth 100000 in
        go_region_held3 (fun w' => w'.cell? ⟨w.heap.size, 0, none⟩ = some (.bool y1.ex) ∧ w'.cell? ⟨w.heap.size, 1, none⟩ = some (.slice y1.A y1.xs.length y1.c) ∧ w'.cell? ⟨w.heap.size, 2, none⟩ = some (.bool y1.b) ∧ w'.cell? ⟨w.heap.size, 3, none⟩ = some (.slice y1.B y1.ys.length y1.d) ∧ w'.cell? ⟨w.heap.size, 4, none⟩ = some (.bool y1.f))
          (first | exact HS5.out _ b6 | exact HS5.out _ b5 | exact HS5.out _ (b5.alloc b5.size _) | exact HS5.out _ (below_drew (Below.refl _ _)) | exact HS5.out _ (Below.refl _ _) | exact HS5.out _ ((below_drew (Below.refl _ _)).alloc (Nat.le_refl _) _) | go_keep)
          (first
            | (refine step_append_vr rfl _ _ rfl W7.heap.size v5 ([] ++ rl0) rfl (hown5.below ((Below.refl _ _).alloc (Nat.le_refl _) _)) (some ⟨w5.heap.size, 0, none⟩) [y1] 1 1 rfl rfl (newV w5 y1 (HYW.out _ b5)) (fun x hx y hy a ha => by
                 rw [List.mem_singleton.1 hx] at hy
                 have h1 := HAP1.out y hy a ha
                 have h2 := b5.size
                 have h3 := HWS.out
                 refine ⟨fun e => ?_, by (simp; omega)⟩
                 have h4 := hown5.lt a.block e
                 omega) (by (have := HNN.out; simp only [List.nil_append, List.length_cons, List.length_nil]; omega)) (by (have h2 := b5.size; simp; omega)) ?_; intro v6 w6 hown6 hb6 hg6
               have b6 : Below W7.heap.size W7 w6 := (b5.trans (((Below.refl _ _).alloc (Nat.le_refl _) _ : Below w5.heap.size w5 (World.alloc _ _)).mono b5.size)).trans hb6
               obtain ⟨A8, c8, hv9, hrd9, _⟩ := hown6.rd
               subst hv9)
            | (refine step_append_vr rfl _ _ rfl W7.heap.size v5 ([] ++ rl0) rfl (hown5.more (Nat.le_succ _)) (some ⟨W7.heap.size, 0, none⟩) [y1] 1 1 rfl rfl (RdV.keep (newV W7.drew y1 (HYW.out _ (below_drew (Below.refl _ _)))) (by have h5 := hb5; exact ⟨h5.os, h5.tape, h5.output, h5.size, fun k hk => h5.block k (by simpa using hk)⟩)) (fun x hx y hy a ha => by
                 rw [List.mem_singleton.1 hx] at hy
                 have h1 := HAP1.out y hy a ha
                 have h2 := b5.size
                 have h3 := HWS.out
                 refine ⟨fun e => ?_, by omega⟩
                 have h4 := hown5.lt a.block e
                 omega) (by (have := HNN.out; simp only [List.nil_append, List.length_cons, List.length_nil]; omega)) b5.size ?_; intro v6 w6 hown6 hb6 hg6
               have b6 : Below W7.heap.size W7 w6 := b5.trans hb6
               obtain ⟨A8, c8, hv9, hrd9, _⟩ := hown6.rd
               subst hv9)
            | (refine step_append_vr rfl _ _ rfl W7.heap.size (.slice none 0 0) [] rfl (OwnW.empty _ _) A0 rl0 n c0 HN.out rfl (HRW.out _ (below_drew (Below.refl _ _))) (fun x hx y hy a ha => ⟨fun e => (by cases e), by have h1 := HAPR.out x hx y hy a ha; have h3 := HWS.out; show a.block < W7.heap.size; omega⟩) (by have := HNN.out; simp; omega) (by exact Nat.le_refl _) ?_; intro v5 w5 hown5 hb5 hg5
               have b5 : Below W7.heap.size W7 w5 := (below_drew (Below.refl _ _)).trans hb5)
            | (refine step_append_vr rfl _ _ rfl (W7.heap.size + 1) (.slice none 0 0) [] rfl (OwnW.empty _ _) A0 rl0 n c0 HN.out rfl (HRW.out _ ((below_drew (Below.refl _ _)).alloc (Nat.le_refl _) _)) (fun x hx y hy a ha => ⟨fun e => (by cases e), by have h1 := HAPR.out x hx y hy a ha; have h3 := HWS.out; simp; omega⟩) (by have := HNN.out; simp; omega) (by simp) ?_; intro v5 w5 hown5 hb5 hg5
               have b5 : Below W7.heap.size W7 w5 := ((below_drew (Below.refl _ _)).alloc (Nat.le_refl _) _).trans (hb5.mono (by omega))))
        all_goals
          have hLL9 : ([] ++ rl0 ++ [y1] : List RulV) = L9 := by rw [HL9.out]; simp
          rw [hLL9] at hrd9 hown6 ⊢
          clear hLL9
          obtain ⟨t0, t1, t2, t3, t4, tl⟩ := HB.out _ b6
          have HX0 := Lib.hid (HAL.out.trans (b6.mono HAL.out.size))
          have HCk2 := Lib.hid (fun (w' : World) (hb : Below w6.heap.size w6 w') => HCk0.out A8 c8 w' (hrd9.keep hb))
          have HSm2 := Lib.hid (fun (w' : World) (hb : Below w6.heap.size w6 w') => HSm0.out A8 c8 w' (hrd9.keep hb))
          have HAw2 := Lib.hid (fun (w' : World) (hb : Below w6.heap.size w6 w') => HAw.out w' (HX0.out.trans (hb.mono HX0.out.size)))
          have HFu := Lib.hid (fun (w' : World) (hb : Below w6.heap.size w6 w') => HFu0.out A8 c8 w' (hrd9.keep hb) (HX0.out.trans (hb.mono HX0.out.size)))
          have HF2 := Lib.hid (fun (w' : World) (hb : Below w6.heap.size w6 w') => HF.out w' (HX0.out.trans (hb.mono HX0.out.size)))
          have HM2 := Lib.hid (fun (w' : World) (hb : Below w6.heap.size w6 w') => HM.out w' (HX0.out.trans (hb.mono HX0.out.size)))
          have HQ2 := Lib.hid (fun (w' : World) (hb : Below w6.heap.size w6 w') => HQr.out w' (HX0.out.trans (hb.mono HX0.out.size)))
          have HN2 := Lib.hid (fun (w' : World) (hb : Below w6.heap.size w6 w') => HNr.out w' (HX0.out.trans (hb.mono HX0.out.size)))
          have HRB := Lib.hid (fun (w' : World) (hb : Below w6.heap.size w6 w') => HB.out w' (b6.trans (hb.mono b6.size)))
          rw [HLN.out] at HCk2 HSm2 HFu
          generalize rl0.length + 1 = q at *
          rw [HEX.out] at HRB HQ2
          have HX9 := HX0
          have HX0 := Lib.hid (Below.refl w6.heap.size w6)
          clear hown6 hb6 hg6 b6 hrd9 hown5 hb5 hg5 b5 hdr9
          go_wp2_with fail
          with_reducible refine (HCk2.out _ HX0.out).mono ?_
          rintro e u1 ⟨rfl, hb1⟩
          have hX1 := HX0.out.trans (hb1.mono HX0.out.size)
          have HX1 := Lib.hid hX1
          clear hb1 hX1 
          go_wp2_with fail
          with_reducible refine (HSm2.out _ HX1.out).mono ?_
          rintro e u2 ⟨rfl, hb2⟩
          have hX2 := HX1.out.trans (hb2.mono HX1.out.size)
          have HX2 := Lib.hid hX2
          clear hb2 hX2 
          go_wp2_with fail
          with_reducible refine (HF2.out _ HX2.out).mono ?_
          rintro e u3 ⟨rfl, hb3⟩
          have hX3 := HX2.out.trans (hb3.mono HX2.out.size)
          have HX3 := Lib.hid hX3
          clear hb3 hX3 
          go_wp2_with fail
          with_reducible refine (HFu.out _ HX3.out).mono ?_
          rintro e u4 ⟨rfl, hb4⟩
          have hX4 := HX3.out.trans (hb4.mono HX3.out.size)
          have HX4 := Lib.hid hX4
          obtain ⟨b0_HRB4, b1_HRB4, b2_HRB4, b3_HRB4, b4_HRB4, bl_HRB4⟩ := HRB.out _ hX4
          clear hb4 hX4 
          go_wp2_with fail
          with_reducible refine (HM2.out _ HX4.out).mono ?_
          rintro e u5 ⟨rfl, hb5⟩
          have hX5 := HX4.out.trans (hb5.mono HX4.out.size)
          have HX5 := Lib.hid hX5
          obtain ⟨b0_HRB5, b1_HRB5, b2_HRB5, b3_HRB5, b4_HRB5, bl_HRB5⟩ := HRB.out _ hX5
          clear hb5 hX5 b0_HRB4 b1_HRB4 b2_HRB4 b3_HRB4 b4_HRB4 bl_HRB4
          go_wp2_with fail
          with_reducible refine (HQ2.out _ HX5.out).mono ?_
          rintro e u6 ⟨rfl, hb6⟩
          have hX6 := HX5.out.trans (hb6.mono HX5.out.size)
          have HX6 := Lib.hid hX6
          obtain ⟨b0_HRB6, b1_HRB6, b2_HRB6, b3_HRB6, b4_HRB6, bl_HRB6⟩ := HRB.out _ hX6
          clear hb6 hX6 b0_HRB5 b1_HRB5 b2_HRB5 b3_HRB5 b4_HRB5 bl_HRB5
          go_wp2_with fail
          with_reducible refine (HAw2.out _ HX6.out).mono ?_
          rintro e u7 ⟨rfl, hb7⟩
          have hX7 := HX6.out.trans (hb7.mono HX6.out.size)
          have HX7 := Lib.hid hX7
          obtain ⟨b0_HRB7, b1_HRB7, b2_HRB7, b3_HRB7, b4_HRB7, bl_HRB7⟩ := HRB.out _ hX7
          clear hb7 hX7 b0_HRB6 b1_HRB6 b2_HRB6 b3_HRB6 b4_HRB6 bl_HRB6
          go_wp2
          go_ret
          exact ⟨rfl, HX9.out.trans (HX7.out.mono HX9.out.size)⟩
      · rw [Bool.not_eq_true] at hex
        rw [hrex, hex, if_neg (by simp)] at hlm0
        rw [hlm0] at HFu0
        have hsome : (Pt.fwd r s2.data.toList).isSome = true := by rw [Pt.fwd_match hrc]; exact hlm
        unfold GivesFw at HF HFu0 HQr
        rw [hsome] at HFu0 HQr
        generalize (⟨((Pt.Vw.vfwd v s2.data.toList).getD []).toArray⟩ : ByteArray) = SS at *
        generalize (Pt.Vw.vfwd v s2.data.toList).isSome = jj at *
        generalize (⟨((Pt.fwd r s2.data.toList).getD []).toArray⟩ : ByteArray) = S2 at *
        have HEX := Lib.hid hex
        clear hlm0 hlm hex hrex hrc hsome
        obtain ⟨n, hn⟩ : ∃ n, n = rl0.length := ⟨_, rfl⟩
        have HN := Lib.hid hn
        have HWS := Lib.hid hws0
        obtain ⟨t0, t1, t2, t3, t4, tl⟩ := hbx
        have HL9 := Lib.hid hL9
        have HLN := Lib.hid hl9
        rw [← hn] at HF
        rw [← hn]
        clear hr0 hy1 hapr hap1 hv hr hu hLu hl9 hl1 hl0 hz0 hN0 hx1 hw1 hz1 hws0 hn hL9 hal hck hz5 hz6 hn20 hz60 hl200 hl
        go_enter Tryd.func6, Tryd.ntmps6
        go_upto_region 1 with fail
        generalize hwg : w.alloc (.cells #[.bool y1.ex, .slice y1.A y1.xs.length y1.c, .bool y1.b, .slice y1.B y1.ys.length y1.d, .bool y1.f] 34) = W7
        have hWW : W7 = W0 := by rw [← hwg, hW0]
        subst hWW
        clear hwg hW0
        have hdr9 : W7.drew.heap.size = W7.heap.size := rfl
        set_option maxRecDepth 100000 in
        go_region_held3 (fun w' => w'.cell? ⟨w.heap.size, 0, none⟩ = some (.bool y1.ex) ∧ w'.cell? ⟨w.heap.size, 1, none⟩ = some (.slice y1.A y1.xs.length y1.c) ∧ w'.cell? ⟨w.heap.size, 2, none⟩ = some (.bool y1.b) ∧ w'.cell? ⟨w.heap.size, 3, none⟩ = some (.slice y1.B y1.ys.length y1.d) ∧ w'.cell? ⟨w.heap.size, 4, none⟩ = some (.bool y1.f))
          (first | exact HS5.out _ b6 | exact HS5.out _ b5 | exact HS5.out _ (b5.alloc b5.size _) | exact HS5.out _ (below_drew (Below.refl _ _)) | exact HS5.out _ (Below.refl _ _) | exact HS5.out _ ((below_drew (Below.refl _ _)).alloc (Nat.le_refl _) _) | go_keep)
          (first
            | (refine step_append_vr rfl _ _ rfl W7.heap.size v5 ([] ++ rl0) rfl (hown5.below ((Below.refl _ _).alloc (Nat.le_refl _) _)) (some ⟨w5.heap.size, 0, none⟩) [y1] 1 1 rfl rfl (newV w5 y1 (HYW.out _ b5)) (fun x hx y hy a ha => by
                 rw [List.mem_singleton.1 hx] at hy
                 have h1 := HAP1.out y hy a ha
                 have h2 := b5.size
                 have h3 := HWS.out
                 refine ⟨fun e => ?_, by (simp; omega)⟩
                 have h4 := hown5.lt a.block e
                 omega) (by (have := HNN.out; simp only [List.nil_append, List.length_cons, List.length_nil]; omega)) (by (have h2 := b5.size; simp; omega)) ?_; intro v6 w6 hown6 hb6 hg6
               have b6 : Below W7.heap.size W7 w6 := (b5.trans (((Below.refl _ _).alloc (Nat.le_refl _) _ : Below w5.heap.size w5 (World.alloc _ _)).mono b5.size)).trans hb6
               obtain ⟨A8, c8, hv9, hrd9, _⟩ := hown6.rd
               subst hv9)
            | (refine step_append_vr rfl _ _ rfl W7.heap.size v5 ([] ++ rl0) rfl (hown5.more (Nat.le_succ _)) (some ⟨W7.heap.size, 0, none⟩) [y1] 1 1 rfl rfl (RdV.keep (newV W7.drew y1 (HYW.out _ (below_drew (Below.refl _ _)))) (by have h5 := hb5; exact ⟨h5.os, h5.tape, h5.output, h5.size, fun k hk => h5.block k (by simpa using hk)⟩)) (fun x hx y hy a ha => by
                 rw [List.mem_singleton.1 hx] at hy
                 have h1 := HAP1.out y hy a ha
                 have h2 := b5.size
                 have h3 := HWS.out
                 refine ⟨fun e => ?_, by omega⟩
                 have h4 := hown5.lt a.block e
                 omega) (by (have := HNN.out; simp only [List.nil_append, List.length_cons, List.length_nil]; omega)) b5.size ?_; intro v6 w6 hown6 hb6 hg6
               have b6 : Below W7.heap.size W7 w6 := b5.trans hb6
               obtain ⟨A8, c8, hv9, hrd9, _⟩ := hown6.rd
               subst hv9)
            | (refine step_append_vr rfl _ _ rfl W7.heap.size (.slice none 0 0) [] rfl (OwnW.empty _ _) A0 rl0 n c0 HN.out rfl (HRW.out _ (below_drew (Below.refl _ _))) (fun x hx y hy a ha => ⟨fun e => (by cases e), by have h1 := HAPR.out x hx y hy a ha; have h3 := HWS.out; show a.block < W7.heap.size; omega⟩) (by have := HNN.out; simp; omega) (by exact Nat.le_refl _) ?_; intro v5 w5 hown5 hb5 hg5
               have b5 : Below W7.heap.size W7 w5 := (below_drew (Below.refl _ _)).trans hb5)
            | (refine step_append_vr rfl _ _ rfl (W7.heap.size + 1) (.slice none 0 0) [] rfl (OwnW.empty _ _) A0 rl0 n c0 HN.out rfl (HRW.out _ ((below_drew (Below.refl _ _)).alloc (Nat.le_refl _) _)) (fun x hx y hy a ha => ⟨fun e => (by cases e), by have h1 := HAPR.out x hx y hy a ha; have h3 := HWS.out; simp; omega⟩) (by have := HNN.out; simp; omega) (by simp) ?_; intro v5 w5 hown5 hb5 hg5
               have b5 : Below W7.heap.size W7 w5 := ((below_drew (Below.refl _ _)).alloc (Nat.le_refl _) _).trans (hb5.mono (by omega))))
        all_goals
          have hLL9 : ([] ++ rl0 ++ [y1] : List RulV) = L9 := by rw [HL9.out]; simp
          rw [hLL9] at hrd9 hown6 ⊢
          clear hLL9
          obtain ⟨t0, t1, t2, t3, t4, tl⟩ := HB.out _ b6
          have HX0 := Lib.hid (HAL.out.trans (b6.mono HAL.out.size))
          have HCk2 := Lib.hid (fun (w' : World) (hb : Below w6.heap.size w6 w') => HCk0.out A8 c8 w' (hrd9.keep hb))
          have HSm2 := Lib.hid (fun (w' : World) (hb : Below w6.heap.size w6 w') => HSm0.out A8 c8 w' (hrd9.keep hb))
          have HAw2 := Lib.hid (fun (w' : World) (hb : Below w6.heap.size w6 w') => HAw.out w' (HX0.out.trans (hb.mono HX0.out.size)))
          have HFu := Lib.hid (fun (w' : World) (hb : Below w6.heap.size w6 w') => HFu0.out A8 c8 w' (hrd9.keep hb) (HX0.out.trans (hb.mono HX0.out.size)))
          have HF2 := Lib.hid (fun (w' : World) (hb : Below w6.heap.size w6 w') => HF.out w' (HX0.out.trans (hb.mono HX0.out.size)))
          have HM2 := Lib.hid (fun (w' : World) (hb : Below w6.heap.size w6 w') => HM.out w' (HX0.out.trans (hb.mono HX0.out.size)))
          have HQ2 := Lib.hid (fun (w' : World) (hb : Below w6.heap.size w6 w') => HQr.out w' (HX0.out.trans (hb.mono HX0.out.size)))
          have HN2 := Lib.hid (fun (w' : World) (hb : Below w6.heap.size w6 w') => HNr.out w' (HX0.out.trans (hb.mono HX0.out.size)))
          have HRB := Lib.hid (fun (w' : World) (hb : Below w6.heap.size w6 w') => HB.out w' (b6.trans (hb.mono b6.size)))
          rw [HLN.out] at HCk2 HSm2 HFu
          generalize rl0.length + 1 = q at *
          rw [HEX.out] at HRB HQ2
          have HX9 := HX0
          have HX0 := Lib.hid (Below.refl w6.heap.size w6)
          clear hown6 hb6 hg6 b6 hrd9 hown5 hb5 hg5 b5 hdr9
          go_wp2_with fail
          with_reducible refine (HCk2.out _ HX0.out).mono ?_
          rintro e u1 ⟨rfl, hb1⟩
          have hX1 := HX0.out.trans (hb1.mono HX0.out.size)
          have HX1 := Lib.hid hX1
          clear hb1 hX1 
          go_wp2_with fail
          with_reducible refine (HSm2.out _ HX1.out).mono ?_
          rintro e u2 ⟨rfl, hb2⟩
          have hX2 := HX1.out.trans (hb2.mono HX1.out.size)
          have HX2 := Lib.hid hX2
          clear hb2 hX2 
          go_wp2_with fail
          with_reducible refine (HF2.out _ HX2.out).mono ?_
          rintro e u3 ⟨rfl, hb3⟩
          have hX3 := HX2.out.trans (hb3.mono HX2.out.size)
          have HX3 := Lib.hid hX3
          clear hb3 hX3 
          go_wp2_with fail
          with_reducible refine (HFu.out _ HX3.out).mono ?_
          rintro e u4 ⟨rfl, hb4⟩
          have hX4 := HX3.out.trans (hb4.mono HX3.out.size)
          have HX4 := Lib.hid hX4
          obtain ⟨b0_HRB4, b1_HRB4, b2_HRB4, b3_HRB4, b4_HRB4, bl_HRB4⟩ := HRB.out _ hX4
          clear hb4 hX4 
          go_wp2_with fail
          with_reducible refine (HM2.out _ HX4.out).mono ?_
          rintro e u5 ⟨rfl, hb5⟩
          have hX5 := HX4.out.trans (hb5.mono HX4.out.size)
          have HX5 := Lib.hid hX5
          obtain ⟨b0_HRB5, b1_HRB5, b2_HRB5, b3_HRB5, b4_HRB5, bl_HRB5⟩ := HRB.out _ hX5
          clear hb5 hX5 b0_HRB4 b1_HRB4 b2_HRB4 b3_HRB4 b4_HRB4 bl_HRB4
          go_wp2_with fail
          with_reducible refine (HQ2.out _ HX5.out).mono ?_
          rintro e u6 ⟨rfl, hb6⟩
          have hX6 := HX5.out.trans (hb6.mono HX5.out.size)
          have HX6 := Lib.hid hX6
          obtain ⟨b0_HRB6, b1_HRB6, b2_HRB6, b3_HRB6, b4_HRB6, bl_HRB6⟩ := HRB.out _ hX6
          clear hb6 hX6 b0_HRB5 b1_HRB5 b2_HRB5 b3_HRB5 b4_HRB5 bl_HRB5
          go_wp2_with fail
          with_reducible refine (HAw2.out _ HX6.out).mono ?_
          rintro e u7 ⟨rfl, hb7⟩
          have hX7 := HX6.out.trans (hb7.mono HX6.out.size)
          have HX7 := Lib.hid hX7
          obtain ⟨b0_HRB7, b1_HRB7, b2_HRB7, b3_HRB7, b4_HRB7, bl_HRB7⟩ := HRB.out _ hX7
          clear hb7 hX7 b0_HRB6 b1_HRB6 b2_HRB6 b3_HRB6 b4_HRB6 bl_HRB6
          go_wp2
          go_ret
          exact ⟨rfl, HX9.out.trans (HX7.out.mono HX9.out.size)⟩
    | false =>
      rw [hlm, if_neg (by simp)] at hlm0
      rw [hlm] at HM
      clear hlm hrex hrc
      cases ho : Pt.Vw.vfwd v s2.data.toList with
      | none =>
        rw [ho, Option.elim_none] at hlm0
        rw [hlm0] at HFu0
        rw [ho] at HF
        unfold GivesFw at HF HFu0
        simp only [Option.getD_none, Option.isSome_none] at HF HFu0
        have HNr := Lib.hid (fun (w' : World) (hb : Below w.heap.size w w') => trivial)
        clear hNr0 hlen hsz9 hlm0 ho
        obtain ⟨n, hn⟩ : ∃ n, n = rl0.length := ⟨_, rfl⟩
        have HN := Lib.hid hn
        have HWS := Lib.hid hws0
        obtain ⟨t0, t1, t2, t3, t4, tl⟩ := hbx
        have HL9 := Lib.hid hL9
        have HLN := Lib.hid hl9
        rw [← hn] at HF
        rw [← hn]
        clear hr0 hy1 hapr hap1 hv hr hu hLu hl9 hl1 hl0 hz0 hN0 hx1 hw1 hz1 hws0 hn hL9 hal hck hz5 hz6 hn20 hz60 hl200 hl
        go_enter Tryd.func6, Tryd.ntmps6
        go_upto_region 1 with fail
        generalize hwg : w.alloc (.cells #[.bool y1.ex, .slice y1.A y1.xs.length y1.c, .bool y1.b, .slice y1.B y1.ys.length y1.d, .bool y1.f] 34) = W7
        have hWW : W7 = W0 := by rw [← hwg, hW0]
        subst hWW
        clear hwg hW0
        have hdr9 : W7.drew.heap.size = W7.heap.size := rfl
        set_option maxRecDepth 100000 in
        go_region_held3 (fun w' => w'.cell? ⟨w.heap.size, 0, none⟩ = some (.bool y1.ex) ∧ w'.cell? ⟨w.heap.size, 1, none⟩ = some (.slice y1.A y1.xs.length y1.c) ∧ w'.cell? ⟨w.heap.size, 2, none⟩ = some (.bool y1.b) ∧ w'.cell? ⟨w.heap.size, 3, none⟩ = some (.slice y1.B y1.ys.length y1.d) ∧ w'.cell? ⟨w.heap.size, 4, none⟩ = some (.bool y1.f))
          (first | exact HS5.out _ b6 | exact HS5.out _ b5 | exact HS5.out _ (b5.alloc b5.size _) | exact HS5.out _ (below_drew (Below.refl _ _)) | exact HS5.out _ (Below.refl _ _) | exact HS5.out _ ((below_drew (Below.refl _ _)).alloc (Nat.le_refl _) _) | go_keep)
          (first
            | (refine step_append_vr rfl _ _ rfl W7.heap.size v5 ([] ++ rl0) rfl (hown5.below ((Below.refl _ _).alloc (Nat.le_refl _) _)) (some ⟨w5.heap.size, 0, none⟩) [y1] 1 1 rfl rfl (newV w5 y1 (HYW.out _ b5)) (fun x hx y hy a ha => by
                 rw [List.mem_singleton.1 hx] at hy
                 have h1 := HAP1.out y hy a ha
                 have h2 := b5.size
                 have h3 := HWS.out
                 refine ⟨fun e => ?_, by (simp; omega)⟩
                 have h4 := hown5.lt a.block e
                 omega) (by (have := HNN.out; simp only [List.nil_append, List.length_cons, List.length_nil]; omega)) (by (have h2 := b5.size; simp; omega)) ?_; intro v6 w6 hown6 hb6 hg6
               have b6 : Below W7.heap.size W7 w6 := (b5.trans (((Below.refl _ _).alloc (Nat.le_refl _) _ : Below w5.heap.size w5 (World.alloc _ _)).mono b5.size)).trans hb6
               obtain ⟨A8, c8, hv9, hrd9, _⟩ := hown6.rd
               subst hv9)
            | (refine step_append_vr rfl _ _ rfl W7.heap.size v5 ([] ++ rl0) rfl (hown5.more (Nat.le_succ _)) (some ⟨W7.heap.size, 0, none⟩) [y1] 1 1 rfl rfl (RdV.keep (newV W7.drew y1 (HYW.out _ (below_drew (Below.refl _ _)))) (by have h5 := hb5; exact ⟨h5.os, h5.tape, h5.output, h5.size, fun k hk => h5.block k (by simpa using hk)⟩)) (fun x hx y hy a ha => by
                 rw [List.mem_singleton.1 hx] at hy
                 have h1 := HAP1.out y hy a ha
                 have h2 := b5.size
                 have h3 := HWS.out
                 refine ⟨fun e => ?_, by omega⟩
                 have h4 := hown5.lt a.block e
                 omega) (by (have := HNN.out; simp only [List.nil_append, List.length_cons, List.length_nil]; omega)) b5.size ?_; intro v6 w6 hown6 hb6 hg6
               have b6 : Below W7.heap.size W7 w6 := b5.trans hb6
               obtain ⟨A8, c8, hv9, hrd9, _⟩ := hown6.rd
               subst hv9)
            | (refine step_append_vr rfl _ _ rfl W7.heap.size (.slice none 0 0) [] rfl (OwnW.empty _ _) A0 rl0 n c0 HN.out rfl (HRW.out _ (below_drew (Below.refl _ _))) (fun x hx y hy a ha => ⟨fun e => (by cases e), by have h1 := HAPR.out x hx y hy a ha; have h3 := HWS.out; show a.block < W7.heap.size; omega⟩) (by have := HNN.out; simp; omega) (by exact Nat.le_refl _) ?_; intro v5 w5 hown5 hb5 hg5
               have b5 : Below W7.heap.size W7 w5 := (below_drew (Below.refl _ _)).trans hb5)
            | (refine step_append_vr rfl _ _ rfl (W7.heap.size + 1) (.slice none 0 0) [] rfl (OwnW.empty _ _) A0 rl0 n c0 HN.out rfl (HRW.out _ ((below_drew (Below.refl _ _)).alloc (Nat.le_refl _) _)) (fun x hx y hy a ha => ⟨fun e => (by cases e), by have h1 := HAPR.out x hx y hy a ha; have h3 := HWS.out; simp; omega⟩) (by have := HNN.out; simp; omega) (by simp) ?_; intro v5 w5 hown5 hb5 hg5
               have b5 : Below W7.heap.size W7 w5 := ((below_drew (Below.refl _ _)).alloc (Nat.le_refl _) _).trans (hb5.mono (by omega))))
        all_goals
          have hLL9 : ([] ++ rl0 ++ [y1] : List RulV) = L9 := by rw [HL9.out]; simp
          rw [hLL9] at hrd9 hown6 ⊢
          clear hLL9
          obtain ⟨t0, t1, t2, t3, t4, tl⟩ := HB.out _ b6
          have HX0 := Lib.hid (HAL.out.trans (b6.mono HAL.out.size))
          have HCk2 := Lib.hid (fun (w' : World) (hb : Below w6.heap.size w6 w') => HCk0.out A8 c8 w' (hrd9.keep hb))
          have HSm2 := Lib.hid (fun (w' : World) (hb : Below w6.heap.size w6 w') => HSm0.out A8 c8 w' (hrd9.keep hb))
          have HAw2 := Lib.hid (fun (w' : World) (hb : Below w6.heap.size w6 w') => HAw.out w' (HX0.out.trans (hb.mono HX0.out.size)))
          have HFu := Lib.hid (fun (w' : World) (hb : Below w6.heap.size w6 w') => HFu0.out A8 c8 w' (hrd9.keep hb) (HX0.out.trans (hb.mono HX0.out.size)))
          have HF2 := Lib.hid (fun (w' : World) (hb : Below w6.heap.size w6 w') => HF.out w' (HX0.out.trans (hb.mono HX0.out.size)))
          have HM2 := Lib.hid (fun (w' : World) (hb : Below w6.heap.size w6 w') => HM.out w' (HX0.out.trans (hb.mono HX0.out.size)))
          have HQ2 := Lib.hid (fun (w' : World) (hb : Below w6.heap.size w6 w') => HQr.out w' (HX0.out.trans (hb.mono HX0.out.size)))
          have HN2 := Lib.hid (fun (w' : World) (hb : Below w6.heap.size w6 w') => HNr.out w' (HX0.out.trans (hb.mono HX0.out.size)))
          have HRB := Lib.hid (fun (w' : World) (hb : Below w6.heap.size w6 w') => HB.out w' (b6.trans (hb.mono b6.size)))
          rw [HLN.out] at HCk2 HSm2 HFu
          generalize rl0.length + 1 = q at *
          have HX9 := HX0
          have HX0 := Lib.hid (Below.refl w6.heap.size w6)
          clear hown6 hb6 hg6 b6 hrd9 hown5 hb5 hg5 b5 hdr9
          go_wp2_with fail
          with_reducible refine (HCk2.out _ HX0.out).mono ?_
          rintro e u1 ⟨rfl, hb1⟩
          have hX1 := HX0.out.trans (hb1.mono HX0.out.size)
          have HX1 := Lib.hid hX1
          clear hb1 hX1 
          go_wp2_with fail
          with_reducible refine (HSm2.out _ HX1.out).mono ?_
          rintro e u2 ⟨rfl, hb2⟩
          have hX2 := HX1.out.trans (hb2.mono HX1.out.size)
          have HX2 := Lib.hid hX2
          clear hb2 hX2 
          go_wp2_with fail
          with_reducible refine (HF2.out _ HX2.out).mono ?_
          rintro e u3 ⟨rfl, hb3⟩
          have hX3 := HX2.out.trans (hb3.mono HX2.out.size)
          have HX3 := Lib.hid hX3
          clear hb3 hX3 
          go_wp2_with fail
          with_reducible refine (HFu.out _ HX3.out).mono ?_
          rintro e u4 ⟨rfl, hb4⟩
          have hX4 := HX3.out.trans (hb4.mono HX3.out.size)
          have HX4 := Lib.hid hX4
          obtain ⟨b0_HRB4, b1_HRB4, b2_HRB4, b3_HRB4, b4_HRB4, bl_HRB4⟩ := HRB.out _ hX4
          clear hb4 hX4 
          go_wp2_with fail
          with_reducible refine (HM2.out _ HX4.out).mono ?_
          rintro e u5 ⟨rfl, hb5⟩
          have hX5 := HX4.out.trans (hb5.mono HX4.out.size)
          have HX5 := Lib.hid hX5
          obtain ⟨b0_HRB5, b1_HRB5, b2_HRB5, b3_HRB5, b4_HRB5, bl_HRB5⟩ := HRB.out _ hX5
          clear hb5 hX5 b0_HRB4 b1_HRB4 b2_HRB4 b3_HRB4 b4_HRB4 bl_HRB4
          go_wp2_with fail
          with_reducible refine (HAw2.out _ HX5.out).mono ?_
          rintro e u6 ⟨rfl, hb6⟩
          have hX6 := HX5.out.trans (hb6.mono HX5.out.size)
          have HX6 := Lib.hid hX6
          obtain ⟨b0_HRB6, b1_HRB6, b2_HRB6, b3_HRB6, b4_HRB6, bl_HRB6⟩ := HRB.out _ hX6
          clear hb6 hX6 b0_HRB5 b1_HRB5 b2_HRB5 b3_HRB5 b4_HRB5 bl_HRB5
          go_wp2
          go_ret
          exact ⟨rfl, HX9.out.trans (HX6.out.mono HX9.out.size)⟩
      | some cc =>
        have hcl := hlen cc ho
        have hc9 : (⟨cc.toArray⟩ : ByteArray).size ≤ 100000 := by rw [size_mk]; omega
        have HNr := Lib.hid (hNr0 ⟨cc.toArray⟩ hc9)
        rw [show (⟨cc.toArray⟩ : ByteArray).data.toList = cc by simp] at HNr
        rw [ho, Option.elim_some] at hlm0
        rw [ho] at HF
        unfold GivesFw at HF
        simp only [Option.getD_some, Option.isSome_some] at HF
        clear hNr0 hlen hsz9 ho hcl hc9
        cases hrm : Pt.Vw.rm r cc with
        | true =>
          rw [hrm, if_pos rfl] at hlm0
          rw [hrm] at HNr
          rw [hlm0] at HFu0
          unfold GivesFw at HFu0
          simp only [Option.getD_none, Option.isSome_none] at HFu0
          generalize (⟨cc.toArray⟩ : ByteArray) = T1 at *
          clear hlm0 hrm
          obtain ⟨n, hn⟩ : ∃ n, n = rl0.length := ⟨_, rfl⟩
          have HN := Lib.hid hn
          have HWS := Lib.hid hws0
          obtain ⟨t0, t1, t2, t3, t4, tl⟩ := hbx
          have HL9 := Lib.hid hL9
          have HLN := Lib.hid hl9
          rw [← hn] at HF
          rw [← hn]
          clear hr0 hy1 hapr hap1 hv hr hu hLu hl9 hl1 hl0 hz0 hN0 hx1 hw1 hz1 hws0 hn hL9 hal hck hz5 hz6 hn20 hz60 hl200 hl
          go_enter Tryd.func6, Tryd.ntmps6
          go_upto_region 1 with fail
          generalize hwg : w.alloc (.cells #[.bool y1.ex, .slice y1.A y1.xs.length y1.c, .bool y1.b, .slice y1.B y1.ys.length y1.d, .bool y1.f] 34) = W7
          have hWW : W7 = W0 := by rw [← hwg, hW0]
          subst hWW
          clear hwg hW0
          have hdr9 : W7.drew.heap.size = W7.heap.size := rfl
          set_option maxRecDepth 100000 in
          go_region_held3 (fun w' => w'.cell? ⟨w.heap.size, 0, none⟩ = some (.bool y1.ex) ∧ w'.cell? ⟨w.heap.size, 1, none⟩ = some (.slice y1.A y1.xs.length y1.c) ∧ w'.cell? ⟨w.heap.size, 2, none⟩ = some (.bool y1.b) ∧ w'.cell? ⟨w.heap.size, 3, none⟩ = some (.slice y1.B y1.ys.length y1.d) ∧ w'.cell? ⟨w.heap.size, 4, none⟩ = some (.bool y1.f))
            (first | exact HS5.out _ b6 | exact HS5.out _ b5 | exact HS5.out _ (b5.alloc b5.size _) | exact HS5.out _ (below_drew (Below.refl _ _)) | exact HS5.out _ (Below.refl _ _) | exact HS5.out _ ((below_drew (Below.refl _ _)).alloc (Nat.le_refl _) _) | go_keep)
            (first
              | (refine step_append_vr rfl _ _ rfl W7.heap.size v5 ([] ++ rl0) rfl (hown5.below ((Below.refl _ _).alloc (Nat.le_refl _) _)) (some ⟨w5.heap.size, 0, none⟩) [y1] 1 1 rfl rfl (newV w5 y1 (HYW.out _ b5)) (fun x hx y hy a ha => by
                   rw [List.mem_singleton.1 hx] at hy
                   have h1 := HAP1.out y hy a ha
                   have h2 := b5.size
                   have h3 := HWS.out
                   refine ⟨fun e => ?_, by (simp; omega)⟩
                   have h4 := hown5.lt a.block e
                   omega) (by (have := HNN.out; simp only [List.nil_append, List.length_cons, List.length_nil]; omega)) (by (have h2 := b5.size; simp; omega)) ?_; intro v6 w6 hown6 hb6 hg6
                 have b6 : Below W7.heap.size W7 w6 := (b5.trans (((Below.refl _ _).alloc (Nat.le_refl _) _ : Below w5.heap.size w5 (World.alloc _ _)).mono b5.size)).trans hb6
                 obtain ⟨A8, c8, hv9, hrd9, _⟩ := hown6.rd
                 subst hv9)
              | (refine step_append_vr rfl _ _ rfl W7.heap.size v5 ([] ++ rl0) rfl (hown5.more (Nat.le_succ _)) (some ⟨W7.heap.size, 0, none⟩) [y1] 1 1 rfl rfl (RdV.keep (newV W7.drew y1 (HYW.out _ (below_drew (Below.refl _ _)))) (by have h5 := hb5; exact ⟨h5.os, h5.tape, h5.output, h5.size, fun k hk => h5.block k (by simpa using hk)⟩)) (fun x hx y hy a ha => by
                   rw [List.mem_singleton.1 hx] at hy
                   have h1 := HAP1.out y hy a ha
                   have h2 := b5.size
                   have h3 := HWS.out
                   refine ⟨fun e => ?_, by omega⟩
                   have h4 := hown5.lt a.block e
                   omega) (by (have := HNN.out; simp only [List.nil_append, List.length_cons, List.length_nil]; omega)) b5.size ?_; intro v6 w6 hown6 hb6 hg6
                 have b6 : Below W7.heap.size W7 w6 := b5.trans hb6
                 obtain ⟨A8, c8, hv9, hrd9, _⟩ := hown6.rd
                 subst hv9)
              | (refine step_append_vr rfl _ _ rfl W7.heap.size (.slice none 0 0) [] rfl (OwnW.empty _ _) A0 rl0 n c0 HN.out rfl (HRW.out _ (below_drew (Below.refl _ _))) (fun x hx y hy a ha => ⟨fun e => (by cases e), by have h1 := HAPR.out x hx y hy a ha; have h3 := HWS.out; show a.block < W7.heap.size; omega⟩) (by have := HNN.out; simp; omega) (by exact Nat.le_refl _) ?_; intro v5 w5 hown5 hb5 hg5
                 have b5 : Below W7.heap.size W7 w5 := (below_drew (Below.refl _ _)).trans hb5)
              | (refine step_append_vr rfl _ _ rfl (W7.heap.size + 1) (.slice none 0 0) [] rfl (OwnW.empty _ _) A0 rl0 n c0 HN.out rfl (HRW.out _ ((below_drew (Below.refl _ _)).alloc (Nat.le_refl _) _)) (fun x hx y hy a ha => ⟨fun e => (by cases e), by have h1 := HAPR.out x hx y hy a ha; have h3 := HWS.out; simp; omega⟩) (by have := HNN.out; simp; omega) (by simp) ?_; intro v5 w5 hown5 hb5 hg5
                 have b5 : Below W7.heap.size W7 w5 := ((below_drew (Below.refl _ _)).alloc (Nat.le_refl _) _).trans (hb5.mono (by omega))))
          all_goals
            have hLL9 : ([] ++ rl0 ++ [y1] : List RulV) = L9 := by rw [HL9.out]; simp
            rw [hLL9] at hrd9 hown6 ⊢
            clear hLL9
            obtain ⟨t0, t1, t2, t3, t4, tl⟩ := HB.out _ b6
            have HX0 := Lib.hid (HAL.out.trans (b6.mono HAL.out.size))
            have HCk2 := Lib.hid (fun (w' : World) (hb : Below w6.heap.size w6 w') => HCk0.out A8 c8 w' (hrd9.keep hb))
            have HSm2 := Lib.hid (fun (w' : World) (hb : Below w6.heap.size w6 w') => HSm0.out A8 c8 w' (hrd9.keep hb))
            have HAw2 := Lib.hid (fun (w' : World) (hb : Below w6.heap.size w6 w') => HAw.out w' (HX0.out.trans (hb.mono HX0.out.size)))
            have HFu := Lib.hid (fun (w' : World) (hb : Below w6.heap.size w6 w') => HFu0.out A8 c8 w' (hrd9.keep hb) (HX0.out.trans (hb.mono HX0.out.size)))
            have HF2 := Lib.hid (fun (w' : World) (hb : Below w6.heap.size w6 w') => HF.out w' (HX0.out.trans (hb.mono HX0.out.size)))
            have HM2 := Lib.hid (fun (w' : World) (hb : Below w6.heap.size w6 w') => HM.out w' (HX0.out.trans (hb.mono HX0.out.size)))
            have HQ2 := Lib.hid (fun (w' : World) (hb : Below w6.heap.size w6 w') => HQr.out w' (HX0.out.trans (hb.mono HX0.out.size)))
            have HN2 := Lib.hid (fun (w' : World) (hb : Below w6.heap.size w6 w') => HNr.out w' (HX0.out.trans (hb.mono HX0.out.size)))
            have HRB := Lib.hid (fun (w' : World) (hb : Below w6.heap.size w6 w') => HB.out w' (b6.trans (hb.mono b6.size)))
            rw [HLN.out] at HCk2 HSm2 HFu
            generalize rl0.length + 1 = q at *
            have HX9 := HX0
            have HX0 := Lib.hid (Below.refl w6.heap.size w6)
            clear hown6 hb6 hg6 b6 hrd9 hown5 hb5 hg5 b5 hdr9
            go_wp2_with fail
            with_reducible refine (HCk2.out _ HX0.out).mono ?_
            rintro e u1 ⟨rfl, hb1⟩
            have hX1 := HX0.out.trans (hb1.mono HX0.out.size)
            have HX1 := Lib.hid hX1
            clear hb1 hX1 
            go_wp2_with fail
            with_reducible refine (HSm2.out _ HX1.out).mono ?_
            rintro e u2 ⟨rfl, hb2⟩
            have hX2 := HX1.out.trans (hb2.mono HX1.out.size)
            have HX2 := Lib.hid hX2
            clear hb2 hX2 
            go_wp2_with fail
            with_reducible refine (HF2.out _ HX2.out).mono ?_
            rintro e u3 ⟨rfl, hb3⟩
            have hX3 := HX2.out.trans (hb3.mono HX2.out.size)
            have HX3 := Lib.hid hX3
            clear hb3 hX3 
            go_wp2_with fail
            with_reducible refine (HFu.out _ HX3.out).mono ?_
            rintro e u4 ⟨rfl, hb4⟩
            have hX4 := HX3.out.trans (hb4.mono HX3.out.size)
            have HX4 := Lib.hid hX4
            obtain ⟨b0_HRB4, b1_HRB4, b2_HRB4, b3_HRB4, b4_HRB4, bl_HRB4⟩ := HRB.out _ hX4
            clear hb4 hX4 
            go_wp2_with fail
            with_reducible refine (HM2.out _ HX4.out).mono ?_
            rintro e u5 ⟨rfl, hb5⟩
            have hX5 := HX4.out.trans (hb5.mono HX4.out.size)
            have HX5 := Lib.hid hX5
            obtain ⟨b0_HRB5, b1_HRB5, b2_HRB5, b3_HRB5, b4_HRB5, bl_HRB5⟩ := HRB.out _ hX5
            clear hb5 hX5 b0_HRB4 b1_HRB4 b2_HRB4 b3_HRB4 b4_HRB4 bl_HRB4
            go_wp2_with fail
            with_reducible refine (HN2.out _ HX5.out).mono ?_
            rintro e u6 ⟨rfl, hb6⟩
            have hX6 := HX5.out.trans (hb6.mono HX5.out.size)
            have HX6 := Lib.hid hX6
            obtain ⟨b0_HRB6, b1_HRB6, b2_HRB6, b3_HRB6, b4_HRB6, bl_HRB6⟩ := HRB.out _ hX6
            clear hb6 hX6 b0_HRB5 b1_HRB5 b2_HRB5 b3_HRB5 b4_HRB5 bl_HRB5
            go_wp2_with fail
            with_reducible refine (HAw2.out _ HX6.out).mono ?_
            rintro e u7 ⟨rfl, hb7⟩
            have hX7 := HX6.out.trans (hb7.mono HX6.out.size)
            have HX7 := Lib.hid hX7
            obtain ⟨b0_HRB7, b1_HRB7, b2_HRB7, b3_HRB7, b4_HRB7, bl_HRB7⟩ := HRB.out _ hX7
            clear hb7 hX7 b0_HRB6 b1_HRB6 b2_HRB6 b3_HRB6 b4_HRB6 bl_HRB6
            go_wp2
            go_ret
            exact ⟨rfl, HX9.out.trans (HX7.out.mono HX9.out.size)⟩
        | false =>
          rw [hrm, if_neg (by simp)] at hlm0
          rw [hrm] at HNr
          rw [hlm0] at HFu0
          unfold GivesFw at HFu0
          simp only [Option.getD_some, Option.isSome_some] at HFu0
          generalize (⟨cc.toArray⟩ : ByteArray) = T1 at *
          clear hlm0 hrm
          obtain ⟨n, hn⟩ : ∃ n, n = rl0.length := ⟨_, rfl⟩
          have HN := Lib.hid hn
          have HWS := Lib.hid hws0
          obtain ⟨t0, t1, t2, t3, t4, tl⟩ := hbx
          have HL9 := Lib.hid hL9
          have HLN := Lib.hid hl9
          rw [← hn] at HF
          rw [← hn]
          clear hr0 hy1 hapr hap1 hv hr hu hLu hl9 hl1 hl0 hz0 hN0 hx1 hw1 hz1 hws0 hn hL9 hal hck hz5 hz6 hn20 hz60 hl200 hl
          go_enter Tryd.func6, Tryd.ntmps6
          go_upto_region 1 with fail
          generalize hwg : w.alloc (.cells #[.bool y1.ex, .slice y1.A y1.xs.length y1.c, .bool y1.b, .slice y1.B y1.ys.length y1.d, .bool y1.f] 34) = W7
          have hWW : W7 = W0 := by rw [← hwg, hW0]
          subst hWW
          clear hwg hW0
          have hdr9 : W7.drew.heap.size = W7.heap.size := rfl
          set_option maxRecDepth 100000 in
          go_region_held3 (fun w' => w'.cell? ⟨w.heap.size, 0, none⟩ = some (.bool y1.ex) ∧ w'.cell? ⟨w.heap.size, 1, none⟩ = some (.slice y1.A y1.xs.length y1.c) ∧ w'.cell? ⟨w.heap.size, 2, none⟩ = some (.bool y1.b) ∧ w'.cell? ⟨w.heap.size, 3, none⟩ = some (.slice y1.B y1.ys.length y1.d) ∧ w'.cell? ⟨w.heap.size, 4, none⟩ = some (.bool y1.f))
            (first | exact HS5.out _ b6 | exact HS5.out _ b5 | exact HS5.out _ (b5.alloc b5.size _) | exact HS5.out _ (below_drew (Below.refl _ _)) | exact HS5.out _ (Below.refl _ _) | exact HS5.out _ ((below_drew (Below.refl _ _)).alloc (Nat.le_refl _) _) | go_keep)
            (first
              | (refine step_append_vr rfl _ _ rfl W7.heap.size v5 ([] ++ rl0) rfl (hown5.below ((Below.refl _ _).alloc (Nat.le_refl _) _)) (some ⟨w5.heap.size, 0, none⟩) [y1] 1 1 rfl rfl (newV w5 y1 (HYW.out _ b5)) (fun x hx y hy a ha => by
                   rw [List.mem_singleton.1 hx] at hy
                   have h1 := HAP1.out y hy a ha
                   have h2 := b5.size
                   have h3 := HWS.out
                   refine ⟨fun e => ?_, by (simp; omega)⟩
                   have h4 := hown5.lt a.block e
                   omega) (by (have := HNN.out; simp only [List.nil_append, List.length_cons, List.length_nil]; omega)) (by (have h2 := b5.size; simp; omega)) ?_; intro v6 w6 hown6 hb6 hg6
                 have b6 : Below W7.heap.size W7 w6 := (b5.trans (((Below.refl _ _).alloc (Nat.le_refl _) _ : Below w5.heap.size w5 (World.alloc _ _)).mono b5.size)).trans hb6
                 obtain ⟨A8, c8, hv9, hrd9, _⟩ := hown6.rd
                 subst hv9)
              | (refine step_append_vr rfl _ _ rfl W7.heap.size v5 ([] ++ rl0) rfl (hown5.more (Nat.le_succ _)) (some ⟨W7.heap.size, 0, none⟩) [y1] 1 1 rfl rfl (RdV.keep (newV W7.drew y1 (HYW.out _ (below_drew (Below.refl _ _)))) (by have h5 := hb5; exact ⟨h5.os, h5.tape, h5.output, h5.size, fun k hk => h5.block k (by simpa using hk)⟩)) (fun x hx y hy a ha => by
                   rw [List.mem_singleton.1 hx] at hy
                   have h1 := HAP1.out y hy a ha
                   have h2 := b5.size
                   have h3 := HWS.out
                   refine ⟨fun e => ?_, by omega⟩
                   have h4 := hown5.lt a.block e
                   omega) (by (have := HNN.out; simp only [List.nil_append, List.length_cons, List.length_nil]; omega)) b5.size ?_; intro v6 w6 hown6 hb6 hg6
                 have b6 : Below W7.heap.size W7 w6 := b5.trans hb6
                 obtain ⟨A8, c8, hv9, hrd9, _⟩ := hown6.rd
                 subst hv9)
              | (refine step_append_vr rfl _ _ rfl W7.heap.size (.slice none 0 0) [] rfl (OwnW.empty _ _) A0 rl0 n c0 HN.out rfl (HRW.out _ (below_drew (Below.refl _ _))) (fun x hx y hy a ha => ⟨fun e => (by cases e), by have h1 := HAPR.out x hx y hy a ha; have h3 := HWS.out; show a.block < W7.heap.size; omega⟩) (by have := HNN.out; simp; omega) (by exact Nat.le_refl _) ?_; intro v5 w5 hown5 hb5 hg5
                 have b5 : Below W7.heap.size W7 w5 := (below_drew (Below.refl _ _)).trans hb5)
              | (refine step_append_vr rfl _ _ rfl (W7.heap.size + 1) (.slice none 0 0) [] rfl (OwnW.empty _ _) A0 rl0 n c0 HN.out rfl (HRW.out _ ((below_drew (Below.refl _ _)).alloc (Nat.le_refl _) _)) (fun x hx y hy a ha => ⟨fun e => (by cases e), by have h1 := HAPR.out x hx y hy a ha; have h3 := HWS.out; simp; omega⟩) (by have := HNN.out; simp; omega) (by simp) ?_; intro v5 w5 hown5 hb5 hg5
                 have b5 : Below W7.heap.size W7 w5 := ((below_drew (Below.refl _ _)).alloc (Nat.le_refl _) _).trans (hb5.mono (by omega))))
          all_goals
            have hLL9 : ([] ++ rl0 ++ [y1] : List RulV) = L9 := by rw [HL9.out]; simp
            rw [hLL9] at hrd9 hown6 ⊢
            clear hLL9
            obtain ⟨t0, t1, t2, t3, t4, tl⟩ := HB.out _ b6
            have HX0 := Lib.hid (HAL.out.trans (b6.mono HAL.out.size))
            have HCk2 := Lib.hid (fun (w' : World) (hb : Below w6.heap.size w6 w') => HCk0.out A8 c8 w' (hrd9.keep hb))
            have HSm2 := Lib.hid (fun (w' : World) (hb : Below w6.heap.size w6 w') => HSm0.out A8 c8 w' (hrd9.keep hb))
            have HAw2 := Lib.hid (fun (w' : World) (hb : Below w6.heap.size w6 w') => HAw.out w' (HX0.out.trans (hb.mono HX0.out.size)))
            have HFu := Lib.hid (fun (w' : World) (hb : Below w6.heap.size w6 w') => HFu0.out A8 c8 w' (hrd9.keep hb) (HX0.out.trans (hb.mono HX0.out.size)))
            have HF2 := Lib.hid (fun (w' : World) (hb : Below w6.heap.size w6 w') => HF.out w' (HX0.out.trans (hb.mono HX0.out.size)))
            have HM2 := Lib.hid (fun (w' : World) (hb : Below w6.heap.size w6 w') => HM.out w' (HX0.out.trans (hb.mono HX0.out.size)))
            have HQ2 := Lib.hid (fun (w' : World) (hb : Below w6.heap.size w6 w') => HQr.out w' (HX0.out.trans (hb.mono HX0.out.size)))
            have HN2 := Lib.hid (fun (w' : World) (hb : Below w6.heap.size w6 w') => HNr.out w' (HX0.out.trans (hb.mono HX0.out.size)))
            have HRB := Lib.hid (fun (w' : World) (hb : Below w6.heap.size w6 w') => HB.out w' (b6.trans (hb.mono b6.size)))
            rw [HLN.out] at HCk2 HSm2 HFu
            generalize rl0.length + 1 = q at *
            have HX9 := HX0
            have HX0 := Lib.hid (Below.refl w6.heap.size w6)
            clear hown6 hb6 hg6 b6 hrd9 hown5 hb5 hg5 b5 hdr9
            go_wp2_with fail
            with_reducible refine (HCk2.out _ HX0.out).mono ?_
            rintro e u1 ⟨rfl, hb1⟩
            have hX1 := HX0.out.trans (hb1.mono HX0.out.size)
            have HX1 := Lib.hid hX1
            clear hb1 hX1 
            go_wp2_with fail
            with_reducible refine (HSm2.out _ HX1.out).mono ?_
            rintro e u2 ⟨rfl, hb2⟩
            have hX2 := HX1.out.trans (hb2.mono HX1.out.size)
            have HX2 := Lib.hid hX2
            clear hb2 hX2 
            go_wp2_with fail
            with_reducible refine (HF2.out _ HX2.out).mono ?_
            rintro e u3 ⟨rfl, hb3⟩
            have hX3 := HX2.out.trans (hb3.mono HX2.out.size)
            have HX3 := Lib.hid hX3
            clear hb3 hX3 
            go_wp2_with fail
            with_reducible refine (HFu.out _ HX3.out).mono ?_
            rintro e u4 ⟨rfl, hb4⟩
            have hX4 := HX3.out.trans (hb4.mono HX3.out.size)
            have HX4 := Lib.hid hX4
            obtain ⟨b0_HRB4, b1_HRB4, b2_HRB4, b3_HRB4, b4_HRB4, bl_HRB4⟩ := HRB.out _ hX4
            clear hb4 hX4 
            go_wp2_with fail
            with_reducible refine (HM2.out _ HX4.out).mono ?_
            rintro e u5 ⟨rfl, hb5⟩
            have hX5 := HX4.out.trans (hb5.mono HX4.out.size)
            have HX5 := Lib.hid hX5
            obtain ⟨b0_HRB5, b1_HRB5, b2_HRB5, b3_HRB5, b4_HRB5, bl_HRB5⟩ := HRB.out _ hX5
            clear hb5 hX5 b0_HRB4 b1_HRB4 b2_HRB4 b3_HRB4 b4_HRB4 bl_HRB4
            go_wp2_with fail
            with_reducible refine (HN2.out _ HX5.out).mono ?_
            rintro e u6 ⟨rfl, hb6⟩
            have hX6 := HX5.out.trans (hb6.mono HX5.out.size)
            have HX6 := Lib.hid hX6
            obtain ⟨b0_HRB6, b1_HRB6, b2_HRB6, b3_HRB6, b4_HRB6, bl_HRB6⟩ := HRB.out _ hX6
            clear hb6 hX6 b0_HRB5 b1_HRB5 b2_HRB5 b3_HRB5 b4_HRB5 bl_HRB5
            go_wp2_with fail
            with_reducible refine (HAw2.out _ HX6.out).mono ?_
            rintro e u7 ⟨rfl, hb7⟩
            have hX7 := HX6.out.trans (hb7.mono HX6.out.size)
            have HX7 := Lib.hid hX7
            obtain ⟨b0_HRB7, b1_HRB7, b2_HRB7, b3_HRB7, b4_HRB7, bl_HRB7⟩ := HRB.out _ hX7
            clear hb7 hX7 b0_HRB6 b1_HRB6 b2_HRB6 b3_HRB6 b4_HRB6 bl_HRB6
            go_wp2
            go_ret
            exact ⟨rfl, HX9.out.trans (HX7.out.mono HX9.out.size)⟩

end Go.Proofs.YtchgbigjfpffeaaDoor.viewLast
