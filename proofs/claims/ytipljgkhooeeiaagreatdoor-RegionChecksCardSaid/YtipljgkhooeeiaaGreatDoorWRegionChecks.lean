/- RegionChecks returns true at every region and every string (the card: the variables that it lists hold what the program text lays). Conditions: none of its own. -/
import Derived.Test.YtipljgkhooeeiaaGreatDoorCards
import Derived.Test.YtipljgkhooeeiaaGreatDoorTie
import Derived.WalkKit
import Derived.ProofKit
import Derived.OpenShut
import Derived.ShutString
import Derived.Test.YtipljgkhooeeiaaGreatDoorPatOpen
import Derived.Test.YtipljgkhooeeiaaGreatDoorRegOpen
import Derived.Test.YtipljgkhooeeiaaGreatDoorRegSmall
import Derived.Test.YtipljgkhooeeiaaGreatDoorRegAwake
namespace Go.Proofs.YtipljgkhooeeiaaGreatDoor.regionChecks
open Go.ChangeShapes Go.WideShapes Go.ChangeAt Go.RowKit
open Go.ChangeMaps (open_string shut_string)
set_option linter.unusedVariables false

set_option maxHeartbeats 8000000 in
theorem walk (w : World) (A0 : Option Addr) (xs0 : List ByteArray) (c0 : Nat) (b0 : Bool) (K0 : Option Addr) (bl0 : List BindV) (e0 : Nat) (hg0 : RegR w A0 xs0 c0 b0 K0 bl0 e0 ⟨⟨bs xs0, b0⟩, bl0.map BindV.pat⟩) (hz0 : ∀ x ∈ xs0, x.size ≤ 140737488355000) (hy0 : ∀ x ∈ bl0, ∀ y ∈ x.xs, y.size ≤ 140737488355000) (hx0 : xs0.length ≤ 140737488355328) (hl0 : ∀ x ∈ bl0, x.xs.length ≤ 140737488355328) (s1 : ByteArray) (w1 : s1.size ≤ maxLen) (hm : MaxL w) :
    Calls Tryz.prog 3 #[regV A0 xs0.length c0 b0 K0 bl0.length e0, .string s1] w fun e w' => e = .returned (.bool true) ∧ Below w.heap.size w w' := by
  obtain ⟨W0, hW0⟩ : ∃ W0, W0 = w.alloc (regObj A0 xs0.length c0 b0 K0 bl0.length e0) := ⟨_, rfl⟩
  have hal : Below w.heap.size w W0 := by rw [hW0]; exact (Below.refl _ _).alloc (Nat.le_refl _) _
  have HAL := Lib.hid hal
  have hgb : GBox W0 w.heap.size A0 xs0.length c0 b0 K0 bl0.length e0 := by rw [hW0]; exact GBox.new ..
  have HGB := Lib.hid hgb
  have hm0 := hm.keep hal hm.size
  have HS := Lib.hid (small5_any A0 xs0 c0 b0 K0 bl0 e0 _ W0 (hg0.keep hal) hx0 hl0)
  have HAw := Lib.hid (fun (w' : World) => awake5_any w')
  have HC1 := Lib.hid (fun (w' : World) (hb : Below W0.heap.size W0 w') => ggcheck_any A0 xs0 c0 b0 K0 bl0 e0 _ w' ((hg0.keep hal).keep hb))
  have HC2 := Lib.hid (fun (w' : World) (hb : Below W0.heap.size W0 w') => gcheck_any A0 xs0 c0 b0 K0 bl0 e0 _ w' ((hg0.keep hal).keep hb))
  have HH1 := Lib.hid (fun (w' : World) (hb : Below W0.heap.size W0 w') (hs : s1.size < 4294967281) => ghas_any A0 xs0 c0 b0 K0 bl0 e0 _ s1 w' ((hg0.keep hal).keep hb) hs (hm0.keep hb hm0.size))
  have HH2 := Lib.hid (fun (w' : World) (hb : Below W0.heap.size W0 w') (hs : s1.size < 4294967281) => gghas_any A0 xs0 c0 b0 K0 bl0 e0 _ s1 w' ((hg0.keep hal).keep hb) hs (hm0.keep hb hm0.size))
  generalize smallG xs0 bl0 = sm at HS
  generalize Pt.Rg.gcheck ⟨⟨bs xs0, b0⟩, bl0.map BindV.pat⟩ = k at *
  generalize Pt.Rg.Reg.has ⟨⟨bs xs0, b0⟩, bl0.map BindV.pat⟩ s1.data.toList = r at *
  generalize xs0.length = nx at *
  generalize bl0.length = nb at *
  obtain ⟨t0, t1, t2, tl⟩ := hgb
  clear hg0 hal hz0 hy0 hx0 hl0 hm0
  subst hW0
  cases sm with
  | false =>
    go_enter Tryz.func3, Tryz.ntmps3
    go_wp2_with fail
    with_reducible refine HS.out.mono ?_
    rintro en u1 ⟨rfl, hb1⟩
    have HX := Lib.hid (HAL.out.trans (hb1.mono HAL.out.size))
    clear hb1
    go_wp2_with fail
    with_reducible refine (HAw.out _).mono ?_
    rintro en u2 ⟨rfl, hb2⟩
    have HY := Lib.hid (HX.out.trans (hb2.mono HX.out.size))
    clear hb2
    go_wp2
    go_ret
    exact ⟨rfl, HY.out⟩
  | true =>
    by_cases h300 : s1.size ≤ 300
    · have i3 : ¬ (300 : Int) < (s1.size : Int) := by omega
      have h4 : s1.size < 4294967281 := by omega
      have H4 := Lib.hid h4
      clear h4 h300
      go_enter Tryz.func3, Tryz.ntmps3
      go_wp2_with fail
      with_reducible refine HS.out.mono ?_
      rintro en u1 ⟨rfl, hb1⟩
      have HX1 := Lib.hid hb1
      have HD1 := Lib.hid (HC1.out u1 hb1)
      obtain ⟨a0, a1, a2, al⟩ := HGB.out.keep hb1
      clear hb1 t0 t1 t2 tl
      go_wp2_with fail
      with_reducible refine HD1.out.mono ?_
      rintro en u2 ⟨rfl, hb2⟩
      have hx2 := HX1.out.trans (hb2.mono HX1.out.size)
      have HX2 := Lib.hid hx2
      have HD2 := Lib.hid (HC2.out u2 hx2)
      obtain ⟨d0, d1, d2, dl⟩ := HGB.out.keep hx2
      clear hb2 hx2 a0 a1 a2 al
      go_wp2_with fail
      with_reducible refine HD2.out.mono ?_
      rintro en u3 ⟨rfl, hb3⟩
      have hx3 := HX2.out.trans (hb3.mono HX2.out.size)
      have HX3 := Lib.hid hx3
      have HD3 := Lib.hid (HH1.out u3 hx3 H4.out)
      obtain ⟨f0, f1, f2, fl⟩ := HGB.out.keep hx3
      clear hb3 hx3 d0 d1 d2 dl
      go_wp2_with fail
      with_reducible refine HD3.out.mono ?_
      rintro en u4 ⟨rfl, hb4⟩
      have hx4 := HX3.out.trans (hb4.mono HX3.out.size)
      have HX4 := Lib.hid hx4
      have HD4 := Lib.hid (HH2.out u4 hx4 H4.out)
      obtain ⟨g0, g1, g2, gl⟩ := HGB.out.keep hx4
      clear hb4 hx4 f0 f1 f2 fl
      by_cases hk : k = 0
      · subst hk
        go_wp2_with fail
        with_reducible refine HD4.out.mono ?_
        rintro en u5 ⟨rfl, hb5⟩
        have HX5 := Lib.hid (HX4.out.trans (hb5.mono HX4.out.size))
        clear hb5 g0 g1 g2 gl
        cases r <;>
        · go_wp2_with fail
          with_reducible refine (HAw.out _).mono ?_
          rintro en u6 ⟨rfl, hb6⟩
          have HX6 := Lib.hid (HX5.out.trans (hb6.mono HX5.out.size))
          clear hb6
          go_wp2
          go_ret
          exact ⟨rfl, HAL.out.trans (HX6.out.mono HAL.out.size)⟩
      · have i1 : ((k : Int) == 0) = false := by rw [beq_eq_false_iff_ne]; omega
        have i2 : decide (k = 0) = false := decide_eq_false hk
        clear hk
        go_wp2_with fail
        with_reducible refine (HAw.out _).mono ?_
        rintro en u6 ⟨rfl, hb6⟩
        have HX6 := Lib.hid (HX4.out.trans (hb6.mono HX4.out.size))
        clear hb6
        go_wp2
        go_ret
        exact ⟨rfl, HAL.out.trans (HX6.out.mono HAL.out.size)⟩
    · have i3 : (300 : Int) < (s1.size : Int) := by omega
      clear h300
      go_enter Tryz.func3, Tryz.ntmps3
      go_wp2_with fail
      with_reducible refine HS.out.mono ?_
      rintro en u1 ⟨rfl, hb1⟩
      have HX := Lib.hid (HAL.out.trans (hb1.mono HAL.out.size))
      clear hb1
      go_wp2_with fail
      with_reducible refine (HAw.out _).mono ?_
      rintro en u2 ⟨rfl, hb2⟩
      have HY := Lib.hid (HX.out.trans (hb2.mono HX.out.size))
      clear hb2
      go_wp2
      go_ret
      exact ⟨rfl, HY.out⟩

end Go.Proofs.YtipljgkhooeeiaaGreatDoor.regionChecks
