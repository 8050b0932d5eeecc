/- ViewMaps returns true at every list of lines and every string (the card: the variables that it lists hold what the program text lays). Conditions: what it reads is of bulk at most 1048576 values and letters. -/
import Derived.Test.YtipljgkhooeeiaaGreatDoorCards
import Derived.Test.YtipljgkhooeeiaaGreatDoorTie
import Derived.WalkKit
import Derived.ProofKit
import Derived.OpenShut
import Derived.ShutString
import Derived.Test.YtipljgkhooeeiaaGreatDoorPatOpen
import Derived.Test.YtipljgkhooeeiaaGreatDoorVwOpen
import Derived.Test.YtipljgkhooeeiaaGreatDoorVwLaw
import Derived.Test.YtipljgkhooeeiaaGreatDoorVwBack
import Derived.Test.YtipljgkhooeeiaaGreatDoorVwRef
import Derived.Deep.DeepHandedRow
import Derived.Lib.LaidTab
import Derived.Deep.DeepWitnessRowRef
import Derived.Deep.CondSized
namespace Go.Proofs.YtipljgkhooeeiaaGreatDoor.viewMaps
open Go.ChangeShapes Go.WideShapes Go.ChangeAt Go.RowKit
open Go.ChangeMaps (open_string shut_string)
set_option linter.unusedVariables false

set_option maxHeartbeats 8000000 in
theorem walk (w : World) (A0 : Option Addr) (rl0 : List RulV) (c0 : Nat) (hr0 : RdV w A0 rl0 c0) (hN0 : rl0.length ≤ 1048576) (hl0 : ∀ x ∈ rl0, x.xs.length ≤ 1048576 ∧ x.ys.length ≤ 1048576) (hz0 : SzV 1048576 rl0) (s1 : ByteArray) (w1 : s1.size ≤ maxLen) (hm : MaxL w) :
    Calls Tryz.prog 16 #[.slice A0 rl0.length c0, .string s1] w fun e w' => e = .returned (.bool true) ∧ Below w.heap.size w w' := by
  have HX0 := Lib.hid (Below.refl w.heap.size w)
  have HAw := Lib.hid (fun (w' : World) (hb : Below w.heap.size w w') => awake6_any w' (hm.keep hb hm.size))
  have HSm := Lib.hid (fun (w' : World) (hb : Below w.heap.size w w') => small6_any A0 rl0 c0 w' (hr0.keep hb) (by omega) (fun x hx => ⟨by have := (hl0 x hx).1; omega, by have := (hl0 x hx).2; omega⟩))
  cases hsm : smallV rl0 with
  | false =>
    rw [hsm] at HSm
    clear hsm hr0 hl0 hz0 hN0
    generalize rl0.length = n at *
    go_enter Tryz.func16, Tryz.ntmps16
    go_wp2_with fail
    with_reducible refine (HSm.out _ HX0.out).mono ?_
    rintro e u1 ⟨rfl, hb1⟩
    have hX1 := HX0.out.trans (hb1.mono HX0.out.size)
    have HX1 := Lib.hid hX1
    clear hb1 hX1 
    go_wp2_with fail
    with_reducible refine (HAw.out _ HX1.out).mono ?_
    rintro e u2 ⟨rfl, hb2⟩
    have hX2 := HX1.out.trans (hb2.mono HX1.out.size)
    have HX2 := Lib.hid hX2
    clear hb2 hX2 
    go_wp2
    go_ret
    exact ⟨rfl, HX2.out⟩
  | true =>
    rw [hsm] at HSm
    obtain ⟨hn20, hz60, hl200⟩ := smallV_facts hsm
    have hz5 : SzV 100000 rl0 := (fun x hx => ⟨fun y hy => Nat.le_trans ((smallV_facts hsm).2.1 x hx |>.1 y hy) (by decide), fun y hy => Nat.le_trans ((smallV_facts hsm).2.1 x hx |>.2 y hy) (by decide)⟩)
    by_cases hl : s1.size ≤ 300
    rotate_left
    · have i1 : (300 : Int) < (s1.size : Int) := by omega
      clear hsm hr0 hl0 hz0 hN0 hn20 hz60 hl200 hz5 hl
      generalize rl0.length = n at *
      go_enter Tryz.func16, Tryz.ntmps16
      go_wp2_with fail
      with_reducible refine (HSm.out _ HX0.out).mono ?_
      rintro e u1 ⟨rfl, hb1⟩
      have hX1 := HX0.out.trans (hb1.mono HX0.out.size)
      have HX1 := Lib.hid hX1
      clear hb1 hX1 
      go_wp2_with fail
      with_reducible refine (HAw.out _ HX1.out).mono ?_
      rintro e u2 ⟨rfl, hb2⟩
      have hX2 := HX1.out.trans (hb2.mono HX1.out.size)
      have HX2 := Lib.hid hX2
      clear hb2 hX2 
      go_wp2
      go_ret
      exact ⟨rfl, HX2.out⟩
    have i1 : ¬ (300 : Int) < (s1.size : Int) := by omega
    obtain ⟨v, hv⟩ : ∃ v, v = rl0.map RulV.rul := ⟨_, rfl⟩
    have HF := Lib.hid (fun (w' : World) (hb : Below w.heap.size w w') => show Calls Tryz.prog 42 #[.slice A0 rl0.length c0, .string s1] w' (GivesFw w' (Pt.Vw.vfwd v s1.data.toList)) from by rw [hv]; exact vfwd_any A0 rl0 c0 s1 w' (hr0.keep hb) hz5 (by omega) (hm.keep hb hm.size))
    have HQ := Lib.hid (fun (w' : World) (hb : Below w.heap.size w w') => show Calls Tryz.prog 43 #[.slice A0 rl0.length c0, .string s1] w' (GivesFw w' (Pt.Vw.vfwd v s1.data.toList)) from by rw [hv]; exact qvfwd_any A0 rl0 c0 s1 w' (hr0.keep hb) hz5 (by omega) (hm.keep hb hm.size))
    have HD := Lib.hid (fun (w' : World) (hb : Below w.heap.size w w') => show Calls Tryz.prog 44 #[.slice A0 rl0.length c0, .string s1] w' (fun en w2 => en = .returned (.int .i64 (Pt.Vw.decides v s1.data.toList)) ∧ Below w'.heap.size w' w2) from by rw [hv]; exact vdec_any A0 rl0 c0 s1 w' (hr0.keep hb) (by omega) (hm.keep hb hm.size))
    have HE := Lib.hid (fun (w' : World) (hb : Below w.heap.size w w') => show Calls Tryz.prog 45 #[.slice A0 rl0.length c0, .string s1] w' (fun en w2 => en = .returned (.int .i64 (Pt.Vw.decides v s1.data.toList)) ∧ Below w'.heap.size w' w2) from by rw [hv]; exact qvdec_any A0 rl0 c0 s1 w' (hr0.keep hb) (by omega) (hm.keep hb hm.size))
    have HBk := Lib.hid (fun (w' : World) (hb : Below w.heap.size w w') => show Calls Tryz.prog 46 #[.slice A0 rl0.length c0, .string s1] w' (GivesFw w' (Pt.Vw.vfwd (Pt.Vw.turnV v) s1.data.toList)) from by rw [hv]; exact vback_any A0 rl0 c0 s1 w' (hr0.keep hb) (fun x hx => ⟨by have := (hl200 x hx).1; omega, by have := (hl200 x hx).2; omega⟩) (by omega) hz5 (by omega) (hm.keep hb hm.size))
    have HT := Lib.hid (fun (w' : World) (hb : Below w.heap.size w w') => show Calls Tryz.prog 47 #[.slice A0 rl0.length c0] w' (GivesTurnV w' v) from by rw [hv]; exact qvturn_any A0 rl0 c0 w' (hr0.keep hb) (fun x hx => ⟨by have := (hl200 x hx).1; omega, by have := (hl200 x hx).2; omega⟩) (by omega))
    have HC := Lib.hid (fun (w' : World) (hb : Below w.heap.size w w') => show Calls Tryz.prog 48 #[.slice A0 rl0.length c0] w' (fun en w2 => en = .returned (.tuple #[.int .i64 ((Pt.Vw.vcheck v).1 : Int), .int .i64 ((Pt.Vw.vcheck v).2 : Int)]) ∧ Below w'.heap.size w' w2) from by rw [hv]; exact qvcheck_any A0 rl0 c0 w' (hr0.keep hb))
    have HSZ := Lib.hid (fun (tl : List RulV) (h : tl.map RulV.rul = Pt.Vw.turnV v) => turn_szv (N := 100000) (tl := tl) (rl := rl0) (by rw [← hv]; exact h) hz5)
    have HFT := Lib.hid (fun (A : Option Addr) (tl : List RulV) (c : Nat) (w' : World) (h : tl.map RulV.rul = Pt.Vw.turnV v) (hrd : RdV w' A tl c) (hb : Below w.heap.size w w') => show Calls Tryz.prog 43 #[.slice A tl.length c, .string s1] w' (GivesFw w' (Pt.Vw.vfwd (Pt.Vw.turnV v) s1.data.toList)) from by rw [← h]; exact qvfwd_any A tl c s1 w' hrd (HSZ.out tl h) (by omega) (hm.keep hb hm.size))
    unfold GivesTurnV at HT
    unfold GivesFw at HF HQ
    generalize (⟨((Pt.Vw.vfwd v s1.data.toList).getD []).toArray⟩ : ByteArray) = S1 at *
    generalize (Pt.Vw.vfwd v s1.data.toList).isSome = j1 at *
    generalize Pt.Vw.decides v s1.data.toList = z at *
    by_cases hc : (Pt.Vw.vcheck v).2 = 0
    rotate_left
    · have hno : Pt.Vw.vfwd (Pt.Vw.turnV v) s1.data.toList = none := if_neg fun h => hc (Pt.Vw.turnV_ok_iff.1 h)
      have p1 : (((Pt.Vw.vcheck v).2 : Int) == 0) = false := by rw [beq_eq_false_iff_ne]; omega
      have p2 : (((Pt.Vw.vcheck v).2 : Int) != 0) = true := by rw [bne, p1]; rfl
      rw [hno] at HBk HFT
      unfold GivesFw at HBk HFT
      simp only [Option.getD_none, Option.isSome_none] at HBk HFT
      generalize (Pt.Vw.vcheck v).1 = k1 at *
      generalize (Pt.Vw.vcheck v).2 = k2 at *
      clear hc hno
      clear hv hsm hr0 hl0 hz0 hN0 hn20 hz60 hl200 hz5 hl
      generalize rl0.length = n at *
      cases j1
      all_goals
        go_enter Tryz.func16, Tryz.ntmps16
        go_wp2_with fail
        with_reducible refine (HSm.out _ HX0.out).mono ?_
        rintro e u1 ⟨rfl, hb1⟩
        have hX1 := HX0.out.trans (hb1.mono HX0.out.size)
        have HX1 := Lib.hid hX1
        clear hb1 hX1 
        go_wp2_with fail
        with_reducible refine (HF.out _ HX1.out).mono ?_
        rintro e u2 ⟨rfl, hb2⟩
        have hX2 := HX1.out.trans (hb2.mono HX1.out.size)
        have HX2 := Lib.hid hX2
        clear hb2 hX2 
        go_wp2_with fail
        with_reducible refine (HQ.out _ HX2.out).mono ?_
        rintro e u3 ⟨rfl, hb3⟩
        have hX3 := HX2.out.trans (hb3.mono HX2.out.size)
        have HX3 := Lib.hid hX3
        clear hb3 hX3 
        go_wp2_with fail
        with_reducible refine (HD.out _ HX3.out).mono ?_
        rintro e u4 ⟨rfl, hb4⟩
        have hX4 := HX3.out.trans (hb4.mono HX3.out.size)
        have HX4 := Lib.hid hX4
        clear hb4 hX4 
        go_wp2_with fail
        with_reducible refine (HE.out _ HX4.out).mono ?_
        rintro e u5 ⟨rfl, hb5⟩
        have hX5 := HX4.out.trans (hb5.mono HX4.out.size)
        have HX5 := Lib.hid hX5
        clear hb5 hX5 
        go_wp2_with fail
        with_reducible refine (HBk.out _ HX5.out).mono ?_
        rintro e u6 ⟨rfl, hb6⟩
        have hX6 := HX5.out.trans (hb6.mono HX5.out.size)
        have HX6 := Lib.hid hX6
        clear hb6 hX6 
        go_wp2_with fail
        with_reducible refine (HT.out _ HX6.out).mono ?_
        rintro e u7 ⟨A9, tl, c9, rfl, hown, htm, hb7⟩
        have hX7 := HX6.out.trans (hb7.mono HX6.out.size)
        have HX7 := Lib.hid hX7
        obtain ⟨A8, c8, he8, hrd8, _⟩ := hown.rd
        injection he8 with e81 _ e83
        subst e81 e83
        have HFT1 := Lib.hid (HFT.out _ _ _ u7 htm hrd8 hX7)
        clear hown htm hrd8
        generalize tl.length = tn at *
        clear hb7 hX7 
        go_wp2_with fail
        with_reducible refine (HFT1.out).mono ?_
        rintro e u8 ⟨rfl, hb8⟩
        have hX8 := HX7.out.trans (hb8.mono HX7.out.size)
        have HX8 := Lib.hid hX8
        clear hb8 hX8 
        go_wp2_with fail
        with_reducible refine (HC.out _ HX8.out).mono ?_
        rintro e u9 ⟨rfl, hb9⟩
        have hX9 := HX8.out.trans (hb9.mono HX8.out.size)
        have HX9 := Lib.hid hX9
        clear hb9 hX9 
        go_wp2_with fail
        with_reducible refine (HAw.out _ HX9.out).mono ?_
        rintro e u10 ⟨rfl, hb10⟩
        have hX10 := HX9.out.trans (hb10.mono HX9.out.size)
        have HX10 := Lib.hid hX10
        clear hb10 hX10 
        go_wp2
        go_ret
        exact ⟨rfl, HX10.out⟩
    rw [Pt.Vw.vcheck_zero hc] at HC
    clear hc
    unfold GivesFw at HBk HFT
    generalize (⟨((Pt.Vw.vfwd (Pt.Vw.turnV v) s1.data.toList).getD []).toArray⟩ : ByteArray) = S2 at *
    generalize (Pt.Vw.vfwd (Pt.Vw.turnV v) s1.data.toList).isSome = j2 at *
    clear hv hsm hr0 hl0 hz0 hN0 hn20 hz60 hl200 hz5 hl
    generalize rl0.length = n at *
    cases j1 <;> cases j2
    all_goals
      go_enter Tryz.func16, Tryz.ntmps16
      go_wp2_with fail
      with_reducible refine (HSm.out _ HX0.out).mono ?_
      rintro e u1 ⟨rfl, hb1⟩
      have hX1 := HX0.out.trans (hb1.mono HX0.out.size)
      have HX1 := Lib.hid hX1
      clear hb1 hX1 
      go_wp2_with fail
      with_reducible refine (HF.out _ HX1.out).mono ?_
      rintro e u2 ⟨rfl, hb2⟩
      have hX2 := HX1.out.trans (hb2.mono HX1.out.size)
      have HX2 := Lib.hid hX2
      clear hb2 hX2 
      go_wp2_with fail
      with_reducible refine (HQ.out _ HX2.out).mono ?_
      rintro e u3 ⟨rfl, hb3⟩
      have hX3 := HX2.out.trans (hb3.mono HX2.out.size)
      have HX3 := Lib.hid hX3
      clear hb3 hX3 
      go_wp2_with fail
      with_reducible refine (HD.out _ HX3.out).mono ?_
      rintro e u4 ⟨rfl, hb4⟩
      have hX4 := HX3.out.trans (hb4.mono HX3.out.size)
      have HX4 := Lib.hid hX4
      clear hb4 hX4 
      go_wp2_with fail
      with_reducible refine (HE.out _ HX4.out).mono ?_
      rintro e u5 ⟨rfl, hb5⟩
      have hX5 := HX4.out.trans (hb5.mono HX4.out.size)
      have HX5 := Lib.hid hX5
      clear hb5 hX5 
      go_wp2_with fail
      with_reducible refine (HBk.out _ HX5.out).mono ?_
      rintro e u6 ⟨rfl, hb6⟩
      have hX6 := HX5.out.trans (hb6.mono HX5.out.size)
      have HX6 := Lib.hid hX6
      clear hb6 hX6 
      go_wp2_with fail
      with_reducible refine (HT.out _ HX6.out).mono ?_
      rintro e u7 ⟨A9, tl, c9, rfl, hown, htm, hb7⟩
      have hX7 := HX6.out.trans (hb7.mono HX6.out.size)
      have HX7 := Lib.hid hX7
      obtain ⟨A8, c8, he8, hrd8, _⟩ := hown.rd
      injection he8 with e81 _ e83
      subst e81 e83
      have HFT1 := Lib.hid (HFT.out _ _ _ u7 htm hrd8 hX7)
      clear hown htm hrd8
      generalize tl.length = tn at *
      clear hb7 hX7 
      go_wp2_with fail
      with_reducible refine (HFT1.out).mono ?_
      rintro e u8 ⟨rfl, hb8⟩
      have hX8 := HX7.out.trans (hb8.mono HX7.out.size)
      have HX8 := Lib.hid hX8
      clear hb8 hX8 
      go_wp2_with fail
      with_reducible refine (HC.out _ HX8.out).mono ?_
      rintro e u9 ⟨rfl, hb9⟩
      have hX9 := HX8.out.trans (hb9.mono HX8.out.size)
      have HX9 := Lib.hid hX9
      clear hb9 hX9 
      go_wp2_with fail
      with_reducible refine (HAw.out _ HX9.out).mono ?_
      rintro e u10 ⟨rfl, hb10⟩
      have hX10 := HX9.out.trans (hb10.mono HX9.out.size)
      have HX10 := Lib.hid hX10
      clear hb10 hX10 
      go_wp2
      go_ret
      exact ⟨rfl, HX10.out⟩

end Go.Proofs.YtipljgkhooeeiaaGreatDoor.viewMaps
