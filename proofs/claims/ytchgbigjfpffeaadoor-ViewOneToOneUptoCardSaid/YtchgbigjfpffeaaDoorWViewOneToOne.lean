/- ViewOneToOne returns true at every list of lines and every string (the card: the variables that it lists hold what the program text lays). Conditions: what it reads is of bulk at most 1048576 values and letters. -/
import Derived.Test.YtchgbigjfpffeaaDoorCards
import Derived.Test.YtchgbigjfpffeaaDoorTie
import Derived.WalkKit
import Derived.ProofKit
import Derived.OpenShut
import Derived.ShutString
import Derived.Test.YtchgbigjfpffeaaDoorPatOpen
import Derived.Test.YtchgbigjfpffeaaDoorVwOpen
import Derived.Test.YtchgbigjfpffeaaDoorVwLaw
import Derived.Test.YtchgbigjfpffeaaDoorVwBack
import Derived.Deep.DeepHandedRow
import Derived.Lib.LaidTab
import Derived.Deep.DeepWitnessRowRef
import Derived.Deep.CondSized
namespace Go.Proofs.YtchgbigjfpffeaaDoor.viewOneToOne
open Go.ChangeShapes Go.WideShapes Go.ChangeAt Go.RowKit
open Go.ChangeMaps (open_string shut_string)
set_option linter.unusedVariables false

set_option maxHeartbeats 8000000 in
theorem walk (w : World) (A0 : Option Addr) (rl0 : List RulV) (c0 : Nat) (hr0 : RdV w A0 rl0 c0) (hN0 : rl0.length ≤ 1048576) (hl0 : ∀ x ∈ rl0, x.xs.length ≤ 1048576 ∧ x.ys.length ≤ 1048576) (hz0 : SzV 1048576 rl0) (s1 : ByteArray) (w1 : s1.size ≤ maxLen) (hm : MaxL w) :
    Calls Tryd.prog 4 #[.slice A0 rl0.length c0, .string s1] w fun e w' => e = .returned (.bool true) ∧ Below w.heap.size w w' := by
  have HX0 := Lib.hid (Below.refl w.heap.size w)
  have HAw := Lib.hid (fun (w' : World) (hb : Below w.heap.size w w') => awake6_any w' (hm.keep hb hm.size))
  have HSm := Lib.hid (fun (w' : World) (hb : Below w.heap.size w w') => small6_any A0 rl0 c0 w' (hr0.keep hb) (by omega) (fun x hx => ⟨by have := (hl0 x hx).1; omega, by have := (hl0 x hx).2; omega⟩))
  cases hsm : smallV rl0 with
  | false =>
    rw [hsm] at HSm
    clear hsm hr0 hl0 hz0 hN0
    generalize rl0.length = n at *
    go_enter Tryd.func4, Tryd.ntmps4
    go_wp2_with fail
    with_reducible refine (HSm.out _ HX0.out).mono ?_
    rintro e u1 ⟨rfl, hb1⟩
    have hX1 := HX0.out.trans (hb1.mono HX0.out.size)
    have HX1 := Lib.hid hX1
    clear hb1 hX1 
    go_wp2_with fail
    with_reducible refine (HAw.out _ HX1.out).mono ?_
    rintro e u2 ⟨rfl, hb2⟩
    have hX2 := HX1.out.trans (hb2.mono HX1.out.size)
    have HX2 := Lib.hid hX2
    clear hb2 hX2 
    go_wp2
    go_ret
    exact ⟨rfl, HX2.out⟩
  | true =>
    rw [hsm] at HSm
    obtain ⟨hn20, hz60, hl200⟩ := smallV_facts hsm
    have hz5 : SzV 100000 rl0 := (fun x hx => ⟨fun y hy => Nat.le_trans ((smallV_facts hsm).2.1 x hx |>.1 y hy) (by decide), fun y hy => Nat.le_trans ((smallV_facts hsm).2.1 x hx |>.2 y hy) (by decide)⟩)
    by_cases hl : s1.size ≤ 300
    rotate_left
    · have i1 : (300 : Int) < (s1.size : Int) := by omega
      clear hsm hr0 hl0 hz0 hN0 hn20 hz60 hl200 hz5 hl
      generalize rl0.length = n at *
      go_enter Tryd.func4, Tryd.ntmps4
      go_wp2_with fail
      with_reducible refine (HSm.out _ HX0.out).mono ?_
      rintro e u1 ⟨rfl, hb1⟩
      have hX1 := HX0.out.trans (hb1.mono HX0.out.size)
      have HX1 := Lib.hid hX1
      clear hb1 hX1 
      go_wp2_with fail
      with_reducible refine (HAw.out _ HX1.out).mono ?_
      rintro e u2 ⟨rfl, hb2⟩
      have hX2 := HX1.out.trans (hb2.mono HX1.out.size)
      have HX2 := Lib.hid hX2
      clear hb2 hX2 
      go_wp2
      go_ret
      exact ⟨rfl, HX2.out⟩
    have i1 : ¬ (300 : Int) < (s1.size : Int) := by omega
    obtain ⟨v, hv⟩ : ∃ v, v = rl0.map RulV.rul := ⟨_, rfl⟩
    have hF := fun (w' : World) (hb : Below w.heap.size w w') (t : ByteArray) (ht : t.size ≤ 100000) => show Calls Tryd.prog 17 #[.slice A0 rl0.length c0, .string t] w' (GivesFw w' (Pt.Vw.vfwd v t.data.toList)) from by rw [hv]; exact vfwd_any A0 rl0 c0 t w' (hr0.keep hb) hz5 ht (hm.keep hb hm.size)
    have hB := fun (w' : World) (hb : Below w.heap.size w w') (t : ByteArray) (ht : t.size ≤ 100000) => show Calls Tryd.prog 18 #[.slice A0 rl0.length c0, .string t] w' (GivesFw w' (Pt.Vw.vfwd (Pt.Vw.turnV v) t.data.toList)) from by rw [hv]; exact vback_any A0 rl0 c0 t w' (hr0.keep hb) (fun x hx => ⟨by have := (hl200 x hx).1; omega, by have := (hl200 x hx).2; omega⟩) (by omega) hz5 ht (hm.keep hb hm.size)
    have hsz : ∀ r ∈ v, Pt.szs 60 r.left ∧ Pt.szs 60 r.right := by rw [hv]; exact hz60.szs
    have hsp : s1.data.toList.length ≤ 300 := by rw [← Lib.size_eq]; exact hl
    have hss : (⟨s1.data.toList.toArray⟩ : ByteArray) = s1 := ba_ext (by simp)
    have h11 := fun t (h : Pt.Vw.vfwd v s1.data.toList = some t) => And.intro (Pt.Vw.vfwd_turn.1 h) (vfwd_len h (fun r hr => (hsz r hr).2) hsp)
    have h22 := fun t (h : Pt.Vw.vfwd (Pt.Vw.turnV v) s1.data.toList = some t) => And.intro (show Pt.Vw.vfwd v t = some s1.data.toList from by have := Pt.Vw.vfwd_turn.1 h; rwa [Pt.Vw.turnV_turn] at this) (vfwd_len h (fun r hr => by obtain ⟨x, hx, rfl⟩ := List.mem_map.1 hr; exact (hsz x hx).1) hsp)
    have HF1 := Lib.hid (fun w' hb => hF w' hb s1 (by omega))
    have HB1 := Lib.hid (fun w' hb => hB w' hb s1 (by omega))
    cases ho1 : Pt.Vw.vfwd v s1.data.toList with
    | none =>
      rw [ho1] at HF1
      unfold GivesFw at HF1
      simp only [Option.getD_none, Option.isSome_none] at HF1
      cases ho2 : Pt.Vw.vfwd (Pt.Vw.turnV v) s1.data.toList with
      | none =>
        rw [ho2] at HB1
        unfold GivesFw at HB1
        simp only [Option.getD_none, Option.isSome_none] at HB1
        clear hv hsm hr0 hl0 hz0 hN0 hn20 hz60 hl200 hz5 hl hF hB h11 h22 ho1 ho2 hsp hss hsz
        generalize rl0.length = n at *
        go_enter Tryd.func4, Tryd.ntmps4
        go_wp2_with fail
        with_reducible refine (HSm.out _ HX0.out).mono ?_
        rintro e u1 ⟨rfl, hb1⟩
        have hX1 := HX0.out.trans (hb1.mono HX0.out.size)
        have HX1 := Lib.hid hX1
        clear hb1 hX1 
        go_wp2_with fail
        with_reducible refine (HF1.out _ HX1.out).mono ?_
        rintro e u2 ⟨rfl, hb2⟩
        have hX2 := HX1.out.trans (hb2.mono HX1.out.size)
        have HX2 := Lib.hid hX2
        clear hb2 hX2 
        go_wp2_with fail
        with_reducible refine (HB1.out _ HX2.out).mono ?_
        rintro e u3 ⟨rfl, hb3⟩
        have hX3 := HX2.out.trans (hb3.mono HX2.out.size)
        have HX3 := Lib.hid hX3
        clear hb3 hX3 
        go_wp2_with fail
        with_reducible refine (HAw.out _ HX3.out).mono ?_
        rintro e u4 ⟨rfl, hb4⟩
        have hX4 := HX3.out.trans (hb4.mono HX3.out.size)
        have HX4 := Lib.hid hX4
        clear hb4 hX4 
        go_wp2
        go_ret
        exact ⟨rfl, HX4.out⟩
      | some t2 =>
        rw [ho2] at HB1
        obtain ⟨g1, g2⟩ := h22 t2 ho2
        have hz2 : (⟨t2.toArray⟩ : ByteArray).size ≤ 100000 := by rw [size_mk]; omega
        have hF2 := fun w' hb => hF w' hb ⟨t2.toArray⟩ hz2
        have ht2 : (⟨t2.toArray⟩ : ByteArray).data.toList = t2 := by simp
        rw [ht2, g1] at hF2
        unfold GivesFw at hF2 HB1
        simp only [Option.getD_some, Option.isSome_some, hss] at hF2 HB1
        have HF2s := Lib.hid hF2
        clear hF2 g1 g2 ht2 hz2
        generalize (⟨t2.toArray⟩ : ByteArray) = T2 at *
        clear hv hsm hr0 hl0 hz0 hN0 hn20 hz60 hl200 hz5 hl hF hB h11 h22 ho1 ho2 hsp hss hsz
        generalize rl0.length = n at *
        go_enter Tryd.func4, Tryd.ntmps4
        go_wp2_with fail
        with_reducible refine (HSm.out _ HX0.out).mono ?_
        rintro e u1 ⟨rfl, hb1⟩
        have hX1 := HX0.out.trans (hb1.mono HX0.out.size)
        have HX1 := Lib.hid hX1
        clear hb1 hX1 
        go_wp2_with fail
        with_reducible refine (HF1.out _ HX1.out).mono ?_
        rintro e u2 ⟨rfl, hb2⟩
        have hX2 := HX1.out.trans (hb2.mono HX1.out.size)
        have HX2 := Lib.hid hX2
        clear hb2 hX2 
        go_wp2_with fail
        with_reducible refine (HB1.out _ HX2.out).mono ?_
        rintro e u3 ⟨rfl, hb3⟩
        have hX3 := HX2.out.trans (hb3.mono HX2.out.size)
        have HX3 := Lib.hid hX3
        clear hb3 hX3 
        go_wp2_with fail
        with_reducible refine (HF2s.out _ HX3.out).mono ?_
        rintro e u4 ⟨rfl, hb4⟩
        have hX4 := HX3.out.trans (hb4.mono HX3.out.size)
        have HX4 := Lib.hid hX4
        clear hb4 hX4 
        go_wp2_with fail
        with_reducible refine (HAw.out _ HX4.out).mono ?_
        rintro e u5 ⟨rfl, hb5⟩
        have hX5 := HX4.out.trans (hb5.mono HX4.out.size)
        have HX5 := Lib.hid hX5
        clear hb5 hX5 
        go_wp2
        go_ret
        exact ⟨rfl, HX5.out⟩
    | some t1 =>
      obtain ⟨g1, g2⟩ := h11 t1 ho1
      rw [ho1] at HF1
      have hz1 : (⟨t1.toArray⟩ : ByteArray).size ≤ 100000 := by rw [size_mk]; omega
      have hB1 := fun w' hb => hB w' hb ⟨t1.toArray⟩ hz1
      have ht1 : (⟨t1.toArray⟩ : ByteArray).data.toList = t1 := by simp
      rw [ht1, g1] at hB1
      unfold GivesFw at hB1 HF1
      simp only [Option.getD_some, Option.isSome_some, hss] at hB1 HF1
      have HB1s := Lib.hid hB1
      clear hB1 g1 g2 ht1 hz1
      generalize (⟨t1.toArray⟩ : ByteArray) = T1 at *
      cases ho2 : Pt.Vw.vfwd (Pt.Vw.turnV v) s1.data.toList with
      | none =>
        rw [ho2] at HB1
        unfold GivesFw at HB1
        simp only [Option.getD_none, Option.isSome_none] at HB1
        clear hv hsm hr0 hl0 hz0 hN0 hn20 hz60 hl200 hz5 hl hF hB h11 h22 ho1 ho2 hsp hss hsz
        generalize rl0.length = n at *
        go_enter Tryd.func4, Tryd.ntmps4
        go_wp2_with fail
        with_reducible refine (HSm.out _ HX0.out).mono ?_
        rintro e u1 ⟨rfl, hb1⟩
        have hX1 := HX0.out.trans (hb1.mono HX0.out.size)
        have HX1 := Lib.hid hX1
        clear hb1 hX1 
        go_wp2_with fail
        with_reducible refine (HF1.out _ HX1.out).mono ?_
        rintro e u2 ⟨rfl, hb2⟩
        have hX2 := HX1.out.trans (hb2.mono HX1.out.size)
        have HX2 := Lib.hid hX2
        clear hb2 hX2 
        go_wp2_with fail
        with_reducible refine (HB1s.out _ HX2.out).mono ?_
        rintro e u3 ⟨rfl, hb3⟩
        have hX3 := HX2.out.trans (hb3.mono HX2.out.size)
        have HX3 := Lib.hid hX3
        clear hb3 hX3 
        go_wp2_with fail
        with_reducible refine (HB1.out _ HX3.out).mono ?_
        rintro e u4 ⟨rfl, hb4⟩
        have hX4 := HX3.out.trans (hb4.mono HX3.out.size)
        have HX4 := Lib.hid hX4
        clear hb4 hX4 
        go_wp2_with fail
        with_reducible refine (HAw.out _ HX4.out).mono ?_
        rintro e u5 ⟨rfl, hb5⟩
        have hX5 := HX4.out.trans (hb5.mono HX4.out.size)
        have HX5 := Lib.hid hX5
        clear hb5 hX5 
        go_wp2
        go_ret
        exact ⟨rfl, HX5.out⟩
      | some t2 =>
        rw [ho2] at HB1
        obtain ⟨g1, g2⟩ := h22 t2 ho2
        have hz2 : (⟨t2.toArray⟩ : ByteArray).size ≤ 100000 := by rw [size_mk]; omega
        have hF2 := fun w' hb => hF w' hb ⟨t2.toArray⟩ hz2
        have ht2 : (⟨t2.toArray⟩ : ByteArray).data.toList = t2 := by simp
        rw [ht2, g1] at hF2
        unfold GivesFw at hF2 HB1
        simp only [Option.getD_some, Option.isSome_some, hss] at hF2 HB1
        have HF2s := Lib.hid hF2
        clear hF2 g1 g2 ht2 hz2
        generalize (⟨t2.toArray⟩ : ByteArray) = T2 at *
        clear hv hsm hr0 hl0 hz0 hN0 hn20 hz60 hl200 hz5 hl hF hB h11 h22 ho1 ho2 hsp hss hsz
        generalize rl0.length = n at *
        go_enter Tryd.func4, Tryd.ntmps4
        go_wp2_with fail
        with_reducible refine (HSm.out _ HX0.out).mono ?_
        rintro e u1 ⟨rfl, hb1⟩
        have hX1 := HX0.out.trans (hb1.mono HX0.out.size)
        have HX1 := Lib.hid hX1
        clear hb1 hX1 
        go_wp2_with fail
        with_reducible refine (HF1.out _ HX1.out).mono ?_
        rintro e u2 ⟨rfl, hb2⟩
        have hX2 := HX1.out.trans (hb2.mono HX1.out.size)
        have HX2 := Lib.hid hX2
        clear hb2 hX2 
        go_wp2_with fail
        with_reducible refine (HB1s.out _ HX2.out).mono ?_
        rintro e u3 ⟨rfl, hb3⟩
        have hX3 := HX2.out.trans (hb3.mono HX2.out.size)
        have HX3 := Lib.hid hX3
        clear hb3 hX3 
        go_wp2_with fail
        with_reducible refine (HB1.out _ HX3.out).mono ?_
        rintro e u4 ⟨rfl, hb4⟩
        have hX4 := HX3.out.trans (hb4.mono HX3.out.size)
        have HX4 := Lib.hid hX4
        clear hb4 hX4 
        go_wp2_with fail
        with_reducible refine (HF2s.out _ HX4.out).mono ?_
        rintro e u5 ⟨rfl, hb5⟩
        have hX5 := HX4.out.trans (hb5.mono HX4.out.size)
        have HX5 := Lib.hid hX5
        clear hb5 hX5 
        go_wp2_with fail
        with_reducible refine (HAw.out _ HX5.out).mono ?_
        rintro e u6 ⟨rfl, hb6⟩
        have hX6 := HX5.out.trans (hb6.mono HX5.out.size)
        have HX6 := Lib.hid hX6
        clear hb6 hX6 
        go_wp2
        go_ret
        exact ⟨rfl, HX6.out⟩

end Go.Proofs.YtchgbigjfpffeaaDoor.viewOneToOne
