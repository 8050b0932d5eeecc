/- ViewTurns returns true at every list of lines and every string (the card: the variables that it lists hold what the program text lays). Conditions: what it reads is of bulk at most 1048576 values and letters. -/
import Derived.Test.YtchgbigjfpffeaaDoorCards
import Derived.Test.YtchgbigjfpffeaaDoorTie
import Derived.WalkKit
import Derived.ProofKit
import Derived.OpenShut
import Derived.ShutString
import Derived.Test.YtchgbigjfpffeaaDoorPatOpen
import Derived.Test.YtchgbigjfpffeaaDoorVwOpen
import Derived.Test.YtchgbigjfpffeaaDoorVwLaw
import Derived.Test.YtchgbigjfpffeaaDoorVwBack
import Derived.Deep.DeepHandedRow
import Derived.Lib.LaidTab
import Derived.Deep.DeepWitnessRowRef
import Derived.Deep.CondSized
namespace Go.Proofs.YtchgbigjfpffeaaDoor.viewTurns
open Go.ChangeShapes Go.WideShapes Go.ChangeAt Go.RowKit
open Go.ChangeMaps (open_string shut_string)
set_option linter.unusedVariables false

set_option maxHeartbeats 8000000 in
theorem walk (w : World) (A0 : Option Addr) (rl0 : List RulV) (c0 : Nat) (hr0 : RdV w A0 rl0 c0) (hN0 : rl0.length ≤ 1048576) (hl0 : ∀ x ∈ rl0, x.xs.length ≤ 1048576 ∧ x.ys.length ≤ 1048576) (hz0 : SzV 1048576 rl0) (s1 : ByteArray) (w1 : s1.size ≤ maxLen) (hm : MaxL w) :
    Calls Tryd.prog 5 #[.slice A0 rl0.length c0, .string s1] w fun e w' => e = .returned (.bool true) ∧ Below w.heap.size w w' := by
  have HX0 := Lib.hid (Below.refl w.heap.size w)
  have HAw := Lib.hid (fun (w' : World) (hb : Below w.heap.size w w') => awake6_any w' (hm.keep hb hm.size))
  have HSm := Lib.hid (fun (w' : World) (hb : Below w.heap.size w w') => small6_any A0 rl0 c0 w' (hr0.keep hb) (by omega) (fun x hx => ⟨by have := (hl0 x hx).1; omega, by have := (hl0 x hx).2; omega⟩))
  cases hsm : smallV rl0 with
  | false =>
    rw [hsm] at HSm
    clear hsm hr0 hl0 hz0 hN0
    generalize rl0.length = n at *
    go_enter Tryd.func5, Tryd.ntmps5
    go_wp2_with fail
    with_reducible refine (HSm.out _ HX0.out).mono ?_
    rintro e u1 ⟨rfl, hb1⟩
    have hX1 := HX0.out.trans (hb1.mono HX0.out.size)
    have HX1 := Lib.hid hX1
    clear hb1 hX1 
    go_wp2_with fail
    with_reducible refine (HAw.out _ HX1.out).mono ?_
    rintro e u2 ⟨rfl, hb2⟩
    have hX2 := HX1.out.trans (hb2.mono HX1.out.size)
    have HX2 := Lib.hid hX2
    clear hb2 hX2 
    go_wp2
    go_ret
    exact ⟨rfl, HX2.out⟩
  | true =>
    rw [hsm] at HSm
    obtain ⟨hn20, hz60, hl200⟩ := smallV_facts hsm
    have hz5 : SzV 100000 rl0 := (fun x hx => ⟨fun y hy => Nat.le_trans ((smallV_facts hsm).2.1 x hx |>.1 y hy) (by decide), fun y hy => Nat.le_trans ((smallV_facts hsm).2.1 x hx |>.2 y hy) (by decide)⟩)
    by_cases hl : s1.size ≤ 300
    rotate_left
    · have i1 : (300 : Int) < (s1.size : Int) := by omega
      clear hsm hr0 hl0 hz0 hN0 hn20 hz60 hl200 hz5 hl
      generalize rl0.length = n at *
      go_enter Tryd.func5, Tryd.ntmps5
      go_wp2_with fail
      with_reducible refine (HSm.out _ HX0.out).mono ?_
      rintro e u1 ⟨rfl, hb1⟩
      have hX1 := HX0.out.trans (hb1.mono HX0.out.size)
      have HX1 := Lib.hid hX1
      clear hb1 hX1 
      go_wp2_with fail
      with_reducible refine (HAw.out _ HX1.out).mono ?_
      rintro e u2 ⟨rfl, hb2⟩
      have hX2 := HX1.out.trans (hb2.mono HX1.out.size)
      have HX2 := Lib.hid hX2
      clear hb2 hX2 
      go_wp2
      go_ret
      exact ⟨rfl, HX2.out⟩
    have i1 : ¬ (300 : Int) < (s1.size : Int) := by omega
    obtain ⟨v, hv⟩ : ∃ v, v = rl0.map RulV.rul := ⟨_, rfl⟩
    have HT := Lib.hid (fun (w' : World) (hb : Below w.heap.size w w') => show Calls Tryd.prog 14 #[.slice A0 rl0.length c0] w' (GivesTurnV w' v) from by rw [hv]; exact vturn_any A0 rl0 c0 w' (hr0.keep hb) (fun x hx => ⟨by have := (hl200 x hx).1; omega, by have := (hl200 x hx).2; omega⟩) (by omega))
    have HC := Lib.hid (fun (w' : World) (hb : Below w.heap.size w w') => show Calls Tryd.prog 12 #[.slice A0 rl0.length c0] w' (fun en w2 => en = .returned (.tuple #[.int .i64 ((Pt.Vw.vcheck v).1 : Int), .int .i64 ((Pt.Vw.vcheck v).2 : Int)]) ∧ Below w'.heap.size w' w2) from by rw [hv]; exact vcheck_any A0 rl0 c0 w' (hr0.keep hb))
    have HB := Lib.hid (fun (w' : World) (hb : Below w.heap.size w w') => show Calls Tryd.prog 18 #[.slice A0 rl0.length c0, .string s1] w' (GivesFw w' (Pt.Vw.vfwd (Pt.Vw.turnV v) s1.data.toList)) from by rw [hv]; exact vback_any A0 rl0 c0 s1 w' (hr0.keep hb) (fun x hx => ⟨by have := (hl200 x hx).1; omega, by have := (hl200 x hx).2; omega⟩) (by omega) hz5 (by omega) (hm.keep hb hm.size))
    have HSZ := Lib.hid (fun (tl : List RulV) (h : tl.map RulV.rul = Pt.Vw.turnV v) => turn_szv (N := 100000) (tl := tl) (rl := rl0) (by rw [← hv]; exact h) hz5)
    have HFT := Lib.hid (fun (A : Option Addr) (tl : List RulV) (c : Nat) (w' : World) (h : tl.map RulV.rul = Pt.Vw.turnV v) (hrd : RdV w' A tl c) (hb : Below w.heap.size w w') => show Calls Tryd.prog 17 #[.slice A tl.length c, .string s1] w' (GivesFw w' (Pt.Vw.vfwd (Pt.Vw.turnV v) s1.data.toList)) from by rw [← h]; exact vfwd_any A tl c s1 w' hrd (HSZ.out tl h) (by omega) (hm.keep hb hm.size))
    have HCT := Lib.hid (fun (A : Option Addr) (tl : List RulV) (c : Nat) (w' : World) (h : tl.map RulV.rul = Pt.Vw.turnV v) (hrd : RdV w' A tl c) => show Calls Tryd.prog 12 #[.slice A tl.length c] w' (fun en w2 => en = .returned (.tuple #[.int .i64 ((Pt.Vw.vcheck (Pt.Vw.turnV v)).1 : Int), .int .i64 ((Pt.Vw.vcheck (Pt.Vw.turnV v)).2 : Int)]) ∧ Below w'.heap.size w' w2) from by rw [← h]; exact vcheck_any A tl c w' hrd)
    unfold GivesTurnV at HT
    unfold GivesFw at HB HFT
    by_cases hc : (Pt.Vw.vcheck v).2 = 0
    rotate_left
    · have p1 : (((Pt.Vw.vcheck v).2 : Int) == 0) = false := by rw [beq_eq_false_iff_ne]; omega
      have p2 : (((Pt.Vw.vcheck v).2 : Int) != 0) = true := by rw [bne, p1]; rfl
      generalize (Pt.Vw.vcheck v).1 = k1 at *
      generalize (Pt.Vw.vcheck v).2 = k2 at *
      clear hc
      clear hv hsm hr0 hl0 hz0 hN0 hn20 hz60 hl200 hz5 hl
      generalize rl0.length = n at *
      go_enter Tryd.func5, Tryd.ntmps5
      go_wp2_with fail
      with_reducible refine (HSm.out _ HX0.out).mono ?_
      rintro e u1 ⟨rfl, hb1⟩
      have hX1 := HX0.out.trans (hb1.mono HX0.out.size)
      have HX1 := Lib.hid hX1
      clear hb1 hX1 
      go_wp2_with fail
      with_reducible refine (HT.out _ HX1.out).mono ?_
      rintro e u2 ⟨A9, tl, c9, rfl, hown, htm, hb2⟩
      have hX2 := HX1.out.trans (hb2.mono HX1.out.size)
      have HX2 := Lib.hid hX2
      clear hown htm
      generalize tl.length = tn at *
      clear hb2 hX2 
      go_wp2_with fail
      with_reducible refine (HC.out _ HX2.out).mono ?_
      rintro e u3 ⟨rfl, hb3⟩
      have hX3 := HX2.out.trans (hb3.mono HX2.out.size)
      have HX3 := Lib.hid hX3
      clear hb3 hX3 
      go_wp2_with fail
      with_reducible refine (HAw.out _ HX3.out).mono ?_
      rintro e u4 ⟨rfl, hb4⟩
      have hX4 := HX3.out.trans (hb4.mono HX3.out.size)
      have HX4 := Lib.hid hX4
      clear hb4 hX4 
      go_wp2
      go_ret
      exact ⟨rfl, HX4.out⟩
    have hct := Pt.Vw.turnV_ok hc
    rw [Pt.Vw.vcheck_zero hc] at HC
    rw [Pt.Vw.vcheck_zero hct] at HCT
    clear hc hct
    generalize (⟨((Pt.Vw.vfwd (Pt.Vw.turnV v) s1.data.toList).getD []).toArray⟩ : ByteArray) = S at *
    generalize (Pt.Vw.vfwd (Pt.Vw.turnV v) s1.data.toList).isSome = j at *
    clear hv hsm hr0 hl0 hz0 hN0 hn20 hz60 hl200 hz5 hl
    generalize rl0.length = n at *
    cases j
    all_goals
      go_enter Tryd.func5, Tryd.ntmps5
      go_wp2_with fail
      with_reducible refine (HSm.out _ HX0.out).mono ?_
      rintro e u1 ⟨rfl, hb1⟩
      have hX1 := HX0.out.trans (hb1.mono HX0.out.size)
      have HX1 := Lib.hid hX1
      clear hb1 hX1 
      go_wp2_with fail
      with_reducible refine (HT.out _ HX1.out).mono ?_
      rintro e u2 ⟨A9, tl, c9, rfl, hown, htm, hb2⟩
      have hX2 := HX1.out.trans (hb2.mono HX1.out.size)
      have HX2 := Lib.hid hX2
      obtain ⟨A8, c8, he8, hrd8, _⟩ := hown.rd
      injection he8 with e81 _ e83
      subst e81 e83
      have HCT2 := Lib.hid (HCT.out _ _ _ u2 htm hrd8)
      have HRD := Lib.hid hrd8
      have HFT1 := Lib.hid (fun (w' : World) (hb : Below u2.heap.size u2 w') (hbw : Below w.heap.size w w') => HFT.out _ _ _ w' htm (HRD.out.keep hb) hbw)
      have HU2 := Lib.hid (Below.refl u2.heap.size u2)
      have HRK := Lib.hid (fun (w' : World) (hb : Below u2.heap.size u2 w') => HCT.out _ _ _ w' htm (HRD.out.keep hb))
      clear hown htm hrd8
      generalize tl.length = tn at *
      clear hb2 hX2 
      go_wp2_with fail
      with_reducible refine (HC.out _ HX2.out).mono ?_
      rintro e u3 ⟨rfl, hb3⟩
      have HX3 := Lib.hid (HX2.out.trans (hb3.mono HX2.out.size))
      have HU3 := Lib.hid (HU2.out.trans (hb3.mono HU2.out.size))
      clear hb3
      go_wp2_with fail
      with_reducible refine (HRK.out _ HU3.out).mono ?_
      rintro e u4 ⟨rfl, hb4⟩
      have HX4 := Lib.hid (HX3.out.trans (hb4.mono HX3.out.size))
      have HU4 := Lib.hid (HU3.out.trans (hb4.mono HU3.out.size))
      clear hb4
      go_wp2_with fail
      with_reducible refine (HFT1.out _ HU4.out HX4.out).mono ?_
      rintro e u5 ⟨rfl, hb5⟩
      have HX5 := Lib.hid (HX4.out.trans (hb5.mono HX4.out.size))
      have HU5 := Lib.hid (HU4.out.trans (hb5.mono HU4.out.size))
      clear hb5
      go_wp2_with fail
      with_reducible refine (HB.out _ HX5.out).mono ?_
      rintro e u6 ⟨rfl, hb6⟩
      have HX6 := Lib.hid (HX5.out.trans (hb6.mono HX5.out.size))
      have HU6 := Lib.hid (HU5.out.trans (hb6.mono HU5.out.size))
      clear hb6
      go_wp2_with fail
      with_reducible refine (HAw.out _ HX6.out).mono ?_
      rintro e u7 ⟨rfl, hb7⟩
      have hX7 := HX6.out.trans (hb7.mono HX6.out.size)
      have HX7 := Lib.hid hX7
      clear hb7 hX7 
      go_wp2
      go_ret
      exact ⟨rfl, HX7.out⟩

end Go.Proofs.YtchgbigjfpffeaaDoor.viewTurns
