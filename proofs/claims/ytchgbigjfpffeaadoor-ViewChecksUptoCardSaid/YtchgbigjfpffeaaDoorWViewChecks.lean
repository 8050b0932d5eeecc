/- ViewChecks returns true at every list of lines (the card: the variables that it lists hold what the program text lays). Conditions: what it reads is of bulk at most 1048576 values and letters. -/
import Derived.Test.YtchgbigjfpffeaaDoorCards
import Derived.Test.YtchgbigjfpffeaaDoorTie
import Derived.WalkKit
import Derived.ProofKit
import Derived.OpenShut
import Derived.ShutString
import Derived.Test.YtchgbigjfpffeaaDoorPatOpen
import Derived.Test.YtchgbigjfpffeaaDoorVwOpen
import Derived.Test.YtchgbigjfpffeaaDoorVwLaw
import Derived.Test.YtchgbigjfpffeaaDoorVwBack
import Derived.Test.YtchgbigjfpffeaaDoorVwSame
import Derived.Deep.DeepHandedRow
import Derived.Lib.LaidTab
import Derived.Deep.DeepWitnessRowRef
import Derived.Deep.CondSized
namespace Go.Proofs.YtchgbigjfpffeaaDoor.viewChecks
open Go.ChangeShapes Go.WideShapes Go.ChangeAt Go.RowKit
open Go.ChangeMaps (open_string shut_string)
set_option linter.unusedVariables false

set_option maxHeartbeats 8000000 in
theorem walk (w : World) (A0 : Option Addr) (rl0 : List RulV) (c0 : Nat) (hr0 : RdV w A0 rl0 c0) (hN0 : rl0.length ≤ 1048576) (hl0 : ∀ x ∈ rl0, x.xs.length ≤ 1048576 ∧ x.ys.length ≤ 1048576) (hz0 : SzV 1048576 rl0) (hm : MaxL w) :
    Calls Tryd.prog 3 #[.slice A0 rl0.length c0] w fun e w' => e = .returned (.bool true) ∧ Below w.heap.size w w' := by
  have HX0 := Lib.hid (Below.refl w.heap.size w)
  have HAw := Lib.hid (fun (w' : World) (hb : Below w.heap.size w w') => awake6_any w' (hm.keep hb hm.size))
  have HSm := Lib.hid (fun (w' : World) (hb : Below w.heap.size w w') => small6_any A0 rl0 c0 w' (hr0.keep hb) (by omega) (fun x hx => ⟨by have := (hl0 x hx).1; omega, by have := (hl0 x hx).2; omega⟩))
  cases hsm : smallV rl0 with
  | false =>
    rw [hsm] at HSm
    clear hsm hr0 hl0 hz0 hN0
    generalize rl0.length = n at *
    go_enter Tryd.func3, Tryd.ntmps3
    go_wp2_with fail
    with_reducible refine (HSm.out _ HX0.out).mono ?_
    rintro e u1 ⟨rfl, hb1⟩
    have hX1 := HX0.out.trans (hb1.mono HX0.out.size)
    have HX1 := Lib.hid hX1
    clear hb1 hX1 
    go_wp2_with fail
    with_reducible refine (HAw.out _ HX1.out).mono ?_
    rintro e u2 ⟨rfl, hb2⟩
    have hX2 := HX1.out.trans (hb2.mono HX1.out.size)
    have HX2 := Lib.hid hX2
    clear hb2 hX2 
    go_wp2
    go_ret
    exact ⟨rfl, HX2.out⟩
  | true =>
    rw [hsm] at HSm
    obtain ⟨hn20, hz60, hl200⟩ := smallV_facts hsm
    have hz5 : SzV 100000 rl0 := (fun x hx => ⟨fun y hy => Nat.le_trans ((smallV_facts hsm).2.1 x hx |>.1 y hy) (by decide), fun y hy => Nat.le_trans ((smallV_facts hsm).2.1 x hx |>.2 y hy) (by decide)⟩)
    obtain ⟨v, hv⟩ : ∃ v, v = rl0.map RulV.rul := ⟨_, rfl⟩
    have HC := Lib.hid (fun (w' : World) (hb : Below w.heap.size w w') => show Calls Tryd.prog 12 #[.slice A0 rl0.length c0] w' (fun en w2 => en = .returned (.tuple #[.int .i64 ((Pt.Vw.vcheck v).1 : Int), .int .i64 ((Pt.Vw.vcheck v).2 : Int)]) ∧ Below w'.heap.size w' w2) from by rw [hv]; exact vcheck_any A0 rl0 c0 w' (hr0.keep hb))
    have HQ := Lib.hid (fun (w' : World) (hb : Below w.heap.size w w') => show Calls Tryd.prog 13 #[.slice A0 rl0.length c0] w' (fun en w2 => en = .returned (.tuple #[.int .i64 ((Pt.Vw.vcheck v).1 : Int), .int .i64 ((Pt.Vw.vcheck v).2 : Int)]) ∧ Below w'.heap.size w' w2) from by rw [hv]; exact qvcheck_any A0 rl0 c0 w' (hr0.keep hb))
    have HT := Lib.hid (fun (w' : World) (hb : Below w.heap.size w w') => show Calls Tryd.prog 14 #[.slice A0 rl0.length c0] w' (GivesTurnV w' v) from by rw [hv]; exact vturn_any A0 rl0 c0 w' (hr0.keep hb) (fun x hx => ⟨by have := (hl200 x hx).1; omega, by have := (hl200 x hx).2; omega⟩) (by omega))
    have HU := Lib.hid (fun (w' : World) (hb : Below w.heap.size w w') => show Calls Tryd.prog 15 #[.slice A0 rl0.length c0] w' (GivesTurnV w' v) from by rw [hv]; exact qvturn_any A0 rl0 c0 w' (hr0.keep hb) (fun x hx => ⟨by have := (hl200 x hx).1; omega, by have := (hl200 x hx).2; omega⟩) (by omega))
    have hvl : v.length = rl0.length := by rw [hv, List.length_map]
    have hv20 : v.length ≤ 20 := by omega
    unfold GivesTurnV at HT HU
    generalize (Pt.Vw.vcheck v).1 = k1 at *
    generalize (Pt.Vw.vcheck v).2 = k2 at *
    clear hv hvl hsm hr0 hl0 hz0 hN0 hn20 hz60 hl200 hz5
    generalize rl0.length = n at *
    go_enter Tryd.func3, Tryd.ntmps3
    go_wp2_with fail
    with_reducible refine (HSm.out _ HX0.out).mono ?_
    rintro e u1 ⟨rfl, hb1⟩
    have hX1 := HX0.out.trans (hb1.mono HX0.out.size)
    have HX1 := Lib.hid hX1
    clear hb1 hX1 
    go_wp2_with fail
    with_reducible refine (HC.out _ HX1.out).mono ?_
    rintro e u2 ⟨rfl, hb2⟩
    have hX2 := HX1.out.trans (hb2.mono HX1.out.size)
    have HX2 := Lib.hid hX2
    clear hb2 hX2 
    go_wp2_with fail
    with_reducible refine (HQ.out _ HX2.out).mono ?_
    rintro e u3 ⟨rfl, hb3⟩
    have hX3 := HX2.out.trans (hb3.mono HX2.out.size)
    have HX3 := Lib.hid hX3
    clear hb3 hX3 
    go_wp2_with fail
    with_reducible refine (HT.out _ HX3.out).mono ?_
    rintro e u4 ⟨A9, tl, c9, rfl, hown, htm, hb4⟩
    have hX4 := HX3.out.trans (hb4.mono HX3.out.size)
    have HX4 := Lib.hid hX4
    obtain ⟨A8, c8, he8, hrd8, _⟩ := hown.rd
    injection he8 with e81 _ e83
    subst e81 e83
    have HRT := Lib.hid hrd8
    have HTM := Lib.hid htm
    have htl : tl.length = v.length := by have := congrArg List.length htm; simpa [Pt.Vw.turnV] using this
    have HTL := Lib.hid htl
    clear hown htm hrd8 htl
    clear hb4 hX4 
    go_wp2_with fail
    with_reducible refine (HU.out _ HX4.out).mono ?_
    rintro e u5 ⟨A7, ul, c7, rfl, hown, hum, hb5⟩
    have hX5 := HX4.out.trans (hb5.mono HX4.out.size)
    have HX5 := Lib.hid hX5
    obtain ⟨A6, c6, he6, hrd6, _⟩ := hown.rd
    injection he6 with e61 _ e63
    subst e61 e63
    have HRU := Lib.hid hrd6
    have HRT5 := Lib.hid (HRT.out.keep hb5)
    have HUM := Lib.hid hum
    have hul : ul.length = v.length := by have := congrArg List.length hum; simpa [Pt.Vw.turnV] using this
    clear hown hum hrd6
    clear hb5 hX5 
    have htl := HTL.out
    have htu : ul.length = tl.length := by omega
    have htn : (tl.length : Int) ≤ 20 := by omega
    rw [htu]
    have HEQ := Lib.hid (fun (k : Nat) (h1 : k < tl.length) (h2 : k < ul.length) => show ul[k].rul = tl[k].rul from by
      have h := HTM.out.trans HUM.out.symm
      have e1 : (tl.map RulV.rul)[k]? = (ul.map RulV.rul)[k]? := by rw [h]
      simp [h1, h2] at e1
      exact e1.symm)
    have HSAME := Lib.hid (fun (k : Nat) (h1 : k < tl.length) (h2 : k < ul.length) (w' : World) (hb : Below u5.heap.size u5 w') => same_lines6 tl[k].ex tl[k].A tl[k].xs tl[k].c tl[k].b tl[k].B tl[k].ys tl[k].d tl[k].f ul[k].ex ul[k].A ul[k].xs ul[k].c ul[k].b ul[k].B ul[k].ys ul[k].d ul[k].f tl[k].rul w' ((HRT5.out.keep hb).parts _ (List.getElem_mem h1)) (by rw [← HEQ.out k h1 h2]; exact (HRU.out.keep hb).parts _ (List.getElem_mem h2)))
    have HTU := Lib.hid htu
    clear hul htl htu
    go_wp2
    go_loopg [45] tl.length (fun gg s45 wx => ∃ (k : Nat), k + gg = tl.length ∧ s45 = .int .i64 (k : Int) ∧ Below u5.heap.size u5 wx)
    case atStart => exact ⟨0, by omega, rfl, Below.refl _ _⟩
    case round =>
      obtain ⟨k, hk, rfl, hbw⟩ := hrel
      have HBW := Lib.hid hbw
      by_cases hkn : k < tl.length
      · have i1 : (k : Int) < (tl.length : Int) := by omega
        have hku : k < ul.length := by rw [HTU.out]; exact hkn
        have i2 : (k : Int) < (ul.length : Int) := by omega
        obtain ⟨q, o, hA, hq, hcell⟩ := (HRT5.out.keep hbw).at (by omega)
        subst hA
        obtain ⟨e0, e1, e2, e3, e4⟩ := hcell k hkn
        obtain ⟨q', o', hA', hq', hcell'⟩ := (HRU.out.keep hbw).at (by omega)
        subst hA'
        obtain ⟨f0, f1, f2, f3, f4⟩ := hcell' k hku
        have HC2 := Lib.hid (HSAME.out k hkn hku wr.drew (below_drew hbw))
        have HC3 := Lib.hid (HSAME.out k hkn hku wr hbw)
        have hTUi : (ul.length : Int) = (tl.length : Int) := by rw [HTU.out]
        clear hcell hcell' hbw
        generalize hyt : tl[k] = yt at *
        generalize hyu : ul[k] = yu at *
        generalize yt.xs.length = n1 at *
        generalize yt.ys.length = n2 at *
        generalize yu.xs.length = n3 at *
        generalize yu.ys.length = n4 at *
        go_upto_region 11 with fail
        go_region_held3 (fun w' => (w'.cell? ⟨q, o + k * 5, none⟩ = some (.bool yt.ex) ∧ w'.cell? ⟨q, o + k * 5 + 1, none⟩ = some (.slice yt.A n1 yt.c) ∧ w'.cell? ⟨q, o + k * 5 + 2, none⟩ = some (.bool yt.b) ∧ w'.cell? ⟨q, o + k * 5 + 3, none⟩ = some (.slice yt.B n2 yt.d) ∧ w'.cell? ⟨q, o + k * 5 + 4, none⟩ = some (.bool yt.f)) ∧
            w'.cell? ⟨q', o' + k * 5, none⟩ = some (.bool yu.ex) ∧ w'.cell? ⟨q', o' + k * 5 + 1, none⟩ = some (.slice yu.A n3 yu.c) ∧ w'.cell? ⟨q', o' + k * 5 + 2, none⟩ = some (.bool yu.b) ∧ w'.cell? ⟨q', o' + k * 5 + 3, none⟩ = some (.slice yu.B n4 yu.d) ∧ w'.cell? ⟨q', o' + k * 5 + 4, none⟩ = some (.bool yu.f))
          (first | exact ⟨⟨e0, e1, e2, e3, e4⟩, f0, f1, f2, f3, f4⟩ | exact ⟨⟨(hb.cell (p := ⟨q, o + k * 5, none⟩) (by exact hq)).trans e0, (hb.cell (p := ⟨q, o + k * 5 + 1, none⟩) (by exact hq)).trans e1, (hb.cell (p := ⟨q, o + k * 5 + 2, none⟩) (by exact hq)).trans e2, (hb.cell (p := ⟨q, o + k * 5 + 3, none⟩) (by exact hq)).trans e3, (hb.cell (p := ⟨q, o + k * 5 + 4, none⟩) (by exact hq)).trans e4⟩, (hb.cell (p := ⟨q', o' + k * 5, none⟩) (by exact hq')).trans f0, (hb.cell (p := ⟨q', o' + k * 5 + 1, none⟩) (by exact hq')).trans f1, (hb.cell (p := ⟨q', o' + k * 5 + 2, none⟩) (by exact hq')).trans f2, (hb.cell (p := ⟨q', o' + k * 5 + 3, none⟩) (by exact hq')).trans f3, (hb.cell (p := ⟨q', o' + k * 5 + 4, none⟩) (by exact hq')).trans f4⟩ | go_keep)
          ((go_at_call 16; have hcc := HC2.out; with_reducible refine hcc.mono ?_; intro e w' hh; unfold GivesBB at hh; obtain ⟨rfl, hb⟩ := hh))
        have HB := Lib.hid (HBW.out.trans ((below_drew (Below.refl _ _)).trans (hb.mono (by exact Nat.le_refl _)) |>.mono HBW.out.size))
        clear hb
        go_wp2
        go_roundg (tl.length - (k + 1))
        case measure => go_light; omega
        case rel => exact ⟨k + 1, by omega, by go_num, HB.out⟩
      · have i1 : ¬ (k : Int) < (tl.length : Int) := by omega
        have HX6 := Lib.hid (HX5.out.trans (HBW.out.mono HX5.out.size))
        clear hbw
        go_wp2_with fail
        with_reducible refine (HAw.out _ HX6.out).mono ?_
        rintro e u7 ⟨rfl, hb7⟩
        have HX7 := Lib.hid (HX6.out.trans (hb7.mono HX6.out.size))
        clear hb7
        go_wp2
        go_ret
        exact ⟨rfl, HX7.out⟩

end Go.Proofs.YtchgbigjfpffeaaDoor.viewChecks
