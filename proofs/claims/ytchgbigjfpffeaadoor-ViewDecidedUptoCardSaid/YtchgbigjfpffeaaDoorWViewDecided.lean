/- ViewDecided returns true at every list of lines and every string (the card: the variables that it lists hold what the program text lays). Conditions: what it reads is of bulk at most 1048576 values and letters. -/
import Derived.Test.YtchgbigjfpffeaaDoorCards
import Derived.Test.YtchgbigjfpffeaaDoorTie
import Derived.WalkKit
import Derived.ProofKit
import Derived.OpenShut
import Derived.ShutString
import Derived.Test.YtchgbigjfpffeaaDoorPatOpen
import Derived.Test.YtchgbigjfpffeaaDoorVwOpen
import Derived.Test.YtchgbigjfpffeaaDoorVwLaw
import Derived.Deep.DeepHandedRow
import Derived.Lib.LaidTab
import Derived.Deep.DeepWitnessRowRef
import Derived.Deep.CondSized
namespace Go.Proofs.YtchgbigjfpffeaaDoor.viewDecided
open Go.ChangeShapes Go.WideShapes Go.ChangeAt Go.RowKit
open Go.ChangeMaps (open_string shut_string)
set_option linter.unusedVariables false

set_option maxHeartbeats 8000000 in
theorem walk (w : World) (A0 : Option Addr) (rl0 : List RulV) (c0 : Nat) (hr0 : RdV w A0 rl0 c0) (hN0 : rl0.length ≤ 1048576) (hl0 : ∀ x ∈ rl0, x.xs.length ≤ 1048576 ∧ x.ys.length ≤ 1048576) (hz0 : SzV 1048576 rl0) (s1 : ByteArray) (w1 : s1.size ≤ maxLen) (hm : MaxL w) :
    Calls Tryd.prog 8 #[.slice A0 rl0.length c0, .string s1] w fun e w' => e = .returned (.bool true) ∧ Below w.heap.size w w' := by
  have HX0 := Lib.hid (Below.refl w.heap.size w)
  have HAw := Lib.hid (fun (w' : World) (hb : Below w.heap.size w w') => awake6_any w' (hm.keep hb hm.size))
  have HSm := Lib.hid (fun (w' : World) (hb : Below w.heap.size w w') => small6_any A0 rl0 c0 w' (hr0.keep hb) (by omega) (fun x hx => ⟨by have := (hl0 x hx).1; omega, by have := (hl0 x hx).2; omega⟩))
  cases hsm : smallV rl0 with
  | false =>
    rw [hsm] at HSm
    clear hsm hr0 hl0 hz0 hN0
    generalize rl0.length = n at *
    go_enter Tryd.func8, Tryd.ntmps8
    go_wp2_with fail
    with_reducible refine (HSm.out _ HX0.out).mono ?_
    rintro e u1 ⟨rfl, hb1⟩
    have hX1 := HX0.out.trans (hb1.mono HX0.out.size)
    have HX1 := Lib.hid hX1
    clear hb1 hX1 
    go_wp2_with fail
    with_reducible refine (HAw.out _ HX1.out).mono ?_
    rintro e u2 ⟨rfl, hb2⟩
    have hX2 := HX1.out.trans (hb2.mono HX1.out.size)
    have HX2 := Lib.hid hX2
    clear hb2 hX2 
    go_wp2
    go_ret
    exact ⟨rfl, HX2.out⟩
  | true =>
    rw [hsm] at HSm
    obtain ⟨hn20, hz60, hl200⟩ := smallV_facts hsm
    have hz5 : SzV 100000 rl0 := (fun x hx => ⟨fun y hy => Nat.le_trans ((smallV_facts hsm).2.1 x hx |>.1 y hy) (by decide), fun y hy => Nat.le_trans ((smallV_facts hsm).2.1 x hx |>.2 y hy) (by decide)⟩)
    by_cases hl : s1.size ≤ 300
    rotate_left
    · have i1 : (300 : Int) < (s1.size : Int) := by omega
      clear hsm hr0 hl0 hz0 hN0 hn20 hz60 hl200 hz5 hl
      generalize rl0.length = n at *
      go_enter Tryd.func8, Tryd.ntmps8
      go_wp2_with fail
      with_reducible refine (HSm.out _ HX0.out).mono ?_
      rintro e u1 ⟨rfl, hb1⟩
      have hX1 := HX0.out.trans (hb1.mono HX0.out.size)
      have HX1 := Lib.hid hX1
      clear hb1 hX1 
      go_wp2_with fail
      with_reducible refine (HAw.out _ HX1.out).mono ?_
      rintro e u2 ⟨rfl, hb2⟩
      have hX2 := HX1.out.trans (hb2.mono HX1.out.size)
      have HX2 := Lib.hid hX2
      clear hb2 hX2 
      go_wp2
      go_ret
      exact ⟨rfl, HX2.out⟩
    have i1 : ¬ (300 : Int) < (s1.size : Int) := by omega
    obtain ⟨v, hv⟩ : ∃ v, v = rl0.map RulV.rul := ⟨_, rfl⟩
    have HF := Lib.hid (fun (w' : World) (hb : Below w.heap.size w w') => show Calls Tryd.prog 17 #[.slice A0 rl0.length c0, .string s1] w' (GivesFw w' (Pt.Vw.vfwd v s1.data.toList)) from by rw [hv]; exact vfwd_any A0 rl0 c0 s1 w' (hr0.keep hb) hz5 (by omega) (hm.keep hb hm.size))
    have HD := Lib.hid (fun (w' : World) (hb : Below w.heap.size w w') => show Calls Tryd.prog 21 #[.slice A0 rl0.length c0, .string s1] w' (fun en w2 => en = .returned (.int .i64 (Pt.Vw.decides v s1.data.toList)) ∧ Below w'.heap.size w' w2) from by rw [hv]; exact vdec_any A0 rl0 c0 s1 w' (hr0.keep hb) (by omega) (hm.keep hb hm.size))
    have hlt := Pt.Vw.decides_lt v s1.data.toList
    have hvl : v.length = rl0.length := by rw [hv, List.length_map]
    rw [hvl] at hlt
    cases ho : Pt.Vw.vfwd v s1.data.toList with
    | none =>
      rw [ho] at HF
      unfold GivesFw at HF
      simp only [Option.getD_none, Option.isSome_none] at HF
      generalize Pt.Vw.decides v s1.data.toList = z at *
      obtain ⟨hz1, hz2⟩ := hlt
      have i2 : z < (rl0.length : Int) := hz1
      clear hv hvl ho hsm hr0 hl0 hz0 hN0 hn20 hz60 hl200 hz5 hl hz1 hz2
      generalize rl0.length = n at *
      go_enter Tryd.func8, Tryd.ntmps8
      go_wp2_with fail
      with_reducible refine (HSm.out _ HX0.out).mono ?_
      rintro e u1 ⟨rfl, hb1⟩
      have hX1 := HX0.out.trans (hb1.mono HX0.out.size)
      have HX1 := Lib.hid hX1
      clear hb1 hX1 
      go_wp2_with fail
      with_reducible refine (HF.out _ HX1.out).mono ?_
      rintro e u2 ⟨rfl, hb2⟩
      have hX2 := HX1.out.trans (hb2.mono HX1.out.size)
      have HX2 := Lib.hid hX2
      clear hb2 hX2 
      go_wp2_with fail
      with_reducible refine (HD.out _ HX2.out).mono ?_
      rintro e u3 ⟨rfl, hb3⟩
      have hX3 := HX2.out.trans (hb3.mono HX2.out.size)
      have HX3 := Lib.hid hX3
      clear hb3 hX3 
      go_wp2_with fail
      with_reducible refine (HAw.out _ HX3.out).mono ?_
      rintro e u4 ⟨rfl, hb4⟩
      have hX4 := HX3.out.trans (hb4.mono HX3.out.size)
      have HX4 := Lib.hid hX4
      clear hb4 hX4 
      go_wp2
      go_ret
      exact ⟨rfl, HX4.out⟩
    | some cc =>
      obtain ⟨i, hi, hd, hex, hf⟩ := Pt.Vw.vfwd_line ho
      rw [ho] at HF
      rw [hd] at HD
      unfold GivesFw at HF
      simp only [Option.getD_some, Option.isSome_some] at HF
      have hin : i < rl0.length := by rw [← hvl]; exact hi
      have hvi : v[i] = rl0[i].rul := by simp [hv]
      rw [hvi] at hex hf
      obtain ⟨g, o, hA, hg, hcell⟩ := hr0.at (by omega)
      subst hA
      obtain ⟨q0, q1, q2, q3, q4⟩ := hcell i hin
      have hex' : rl0[i].ex = false := hex
      rw [hex'] at q0
      have HQ := Lib.hid (fun (w' : World) (hb : Below w.heap.size w w') => show w'.cell? ⟨g, o + i * 5, none⟩ = some (.bool false) ∧ w'.cell? ⟨g, o + i * 5 + 1, none⟩ = some (.slice rl0[i].A rl0[i].xs.length rl0[i].c) ∧ w'.cell? ⟨g, o + i * 5 + 2, none⟩ = some (.bool rl0[i].b) ∧ w'.cell? ⟨g, o + i * 5 + 3, none⟩ = some (.slice rl0[i].B rl0[i].ys.length rl0[i].d) ∧ w'.cell? ⟨g, o + i * 5 + 4, none⟩ = some (.bool rl0[i].f) from ⟨(hb.cell (p := ⟨g, o + i * 5, none⟩) hg).trans q0, (hb.cell (p := ⟨g, o + i * 5 + 1, none⟩) hg).trans q1, (hb.cell (p := ⟨g, o + i * 5 + 2, none⟩) hg).trans q2, (hb.cell (p := ⟨g, o + i * 5 + 3, none⟩) hg).trans q3, (hb.cell (p := ⟨g, o + i * 5 + 4, none⟩) hg).trans q4⟩)
      have HR := Lib.hid (fun (w' : World) (hb : Below w.heap.size w w') => show Calls Tryd.prog 20 #[rulV false rl0[i].A rl0[i].xs.length rl0[i].c rl0[i].b rl0[i].B rl0[i].ys.length rl0[i].d rl0[i].f, .string s1] w' (GivesFw w' (some cc)) from by
          have h := qfwd_any rl0[i].ex rl0[i].A rl0[i].xs rl0[i].c rl0[i].b rl0[i].B rl0[i].ys rl0[i].d rl0[i].f rl0[i].rul s1 w' ((hr0.keep hb).parts _ (List.getElem_mem hin)) (hz5 _ (List.getElem_mem hin)).2 (by omega) (hm.keep hb hm.size)
          rw [hf, hex'] at h
          exact h)
      unfold GivesFw at HR
      simp only [Option.getD_some, Option.isSome_some] at HR
      have i2 : ¬ (i : Int) < 0 := by omega
      have i3 : (i : Int) < (rl0.length : Int) := by omega
      have i4 : ¬ (rl0.length : Int) ≤ (i : Int) := by omega
      clear hv hvl ho hsm hr0 hl0 hz0 hN0 hn20 hz60 hl200 hz5 hl hlt hi hd hex hf hvi hcell hex' q0 q1 q2 q3 q4 hg
      generalize rl0[i].A = xA at *
      generalize rl0[i].xs.length = xn at *
      generalize rl0[i].c = xc at *
      generalize rl0[i].b = xb at *
      generalize rl0[i].B = xB at *
      generalize rl0[i].ys.length = xm at *
      generalize rl0[i].d = xd at *
      generalize rl0[i].f = xf at *
      generalize (⟨cc.toArray⟩ : ByteArray) = S at *
      generalize rl0.length = n at *
      go_enter Tryd.func8, Tryd.ntmps8
      go_wp2_with fail
      with_reducible refine (HSm.out _ HX0.out).mono ?_
      rintro e u1 ⟨rfl, hb1⟩
      have hX1 := HX0.out.trans (hb1.mono HX0.out.size)
      have HX1 := Lib.hid hX1
      clear hb1 hX1 
      go_wp2_with fail
      with_reducible refine (HF.out _ HX1.out).mono ?_
      rintro e u2 ⟨rfl, hb2⟩
      have hX2 := HX1.out.trans (hb2.mono HX1.out.size)
      have HX2 := Lib.hid hX2
      clear hb2 hX2 
      go_wp2_with fail
      with_reducible refine (HD.out _ HX2.out).mono ?_
      rintro e u3 ⟨rfl, hb3⟩
      have hX3 := HX2.out.trans (hb3.mono HX2.out.size)
      have HX3 := Lib.hid hX3
      obtain ⟨r0_HQ3, r1_HQ3, r2_HQ3, r3_HQ3, r4_HQ3⟩ := HQ.out _ hX3
      clear hb3 hX3 
      go_wp2_with fail
      with_reducible refine (HR.out _ HX3.out).mono ?_
      rintro e u4 ⟨rfl, hb4⟩
      have hX4 := HX3.out.trans (hb4.mono HX3.out.size)
      have HX4 := Lib.hid hX4
      obtain ⟨r0_HQ4, r1_HQ4, r2_HQ4, r3_HQ4, r4_HQ4⟩ := HQ.out _ hX4
      clear hb4 hX4 r0_HQ3 r1_HQ3 r2_HQ3 r3_HQ3 r4_HQ3
      go_wp2_with fail
      with_reducible refine (HAw.out _ HX4.out).mono ?_
      rintro e u5 ⟨rfl, hb5⟩
      have hX5 := HX4.out.trans (hb5.mono HX4.out.size)
      have HX5 := Lib.hid hX5
      obtain ⟨r0_HQ5, r1_HQ5, r2_HQ5, r3_HQ5, r4_HQ5⟩ := HQ.out _ hX5
      clear hb5 hX5 r0_HQ4 r1_HQ4 r2_HQ4 r3_HQ4 r4_HQ4
      go_wp2
      go_ret
      exact ⟨rfl, HX5.out⟩

end Go.Proofs.YtchgbigjfpffeaaDoor.viewDecided
