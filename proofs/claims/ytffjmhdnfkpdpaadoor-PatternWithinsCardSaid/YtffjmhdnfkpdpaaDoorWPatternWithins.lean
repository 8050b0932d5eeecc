/- PatternWithins returns true at every two patterns (the card: the variables that it lists hold what the program text lays). Conditions: none of its own. -/
import Derived.Test.YtffjmhdnfkpdpaaDoorCards
import Derived.Test.YtffjmhdnfkpdpaaDoorTie
import Derived.WalkKit
import Derived.ProofKit
import Derived.OpenShut
import Derived.ShutString
import Derived.Test.YtffjmhdnfkpdpaaDoorPatAwake2
import Derived.Test.YtffjmhdnfkpdpaaDoorPatOpen
import Derived.Test.YtffjmhdnfkpdpaaDoorPatFn7
import Derived.Test.YtffjmhdnfkpdpaaDoorPatFn4
import Derived.Test.YtffjmhdnfkpdpaaDoorPatHeld2
namespace Go.Proofs.YtffjmhdnfkpdpaaDoor.patternWithins
open Go.ChangeShapes Go.WideShapes Go.ChangeAt Go.RowKit
open Go.ChangeMaps (open_string shut_string)
set_option linter.unusedVariables false

set_option maxHeartbeats 8000000 in
theorem walk (w : World) (A0 : Option Addr) (xs0 : List ByteArray) (c0 : Nat) (b0 : Bool) (hp0 : PatR w A0 xs0 c0 b0 ⟨bs xs0, b0⟩) (hz0 : ∀ x ∈ xs0, x.size ≤ 140737488355000) (A1 : Option Addr) (xs1 : List ByteArray) (c1 : Nat) (b1 : Bool) (hp1 : PatR w A1 xs1 c1 b1 ⟨bs xs1, b1⟩) (hz1 : ∀ x ∈ xs1, x.size ≤ 140737488355000) (hm : MaxL w) :
    Calls Tryd.prog 9 #[patV A0 xs0.length c0 b0, patV A1 xs1.length c1 b1] w fun e w' => e = .returned (.bool true) ∧ Below w.heap.size w w' := by
  obtain ⟨W0, hW0⟩ : ∃ W0, W0 = ((w.alloc (.cells #[.slice A0 xs0.length c0, .bool b0] 25)).alloc (.cells #[.slice A1 xs1.length c1, .bool b1] 25)) := ⟨_, rfl⟩
  have hal : Below w.heap.size w W0 := by rw [hW0]; exact ((Below.refl _ _).alloc (Nat.le_refl _) _).alloc (by simp) _
  have hmW := hm.keep hal hm.size
  have HK0 := Lib.hid (fun (w' : World) (hb : Below W0.heap.size W0 w') => hp0.keep (hal.trans (hb.mono hal.size)))
  have HK1 := Lib.hid (fun (w' : World) (hb : Below W0.heap.size W0 w') => hp1.keep (hal.trans (hb.mono hal.size)))
  have HAL := Lib.hid hal
  have HX := Lib.hid (Below.refl W0.heap.size W0)
  have HAw := Lib.hid (fun (w : World) (hm : MaxL w) => awake3_any w hm)
  have HSm0 := Lib.hid (fun (w' : World) (hb : Below W0.heap.size W0 w') => small_any A0 xs0 c0 b0 _ w' (HK0.out w' hb) (fun x hx => Nat.le_trans (hz0 x hx) (by decide)))
  have HSm1 := Lib.hid (fun (w' : World) (hb : Below W0.heap.size W0 w') => small_any A1 xs1 c1 b1 _ w' (HK1.out w' hb) (fun x hx => Nat.le_trans (hz1 x hx) (by decide)))
  generalize smallB (bs xs0) = sm0 at HSm0
  generalize smallB (bs xs1) = sm1 at HSm1
  cases sm0 with
  | false =>
    subst hW0
    clear hal
    go_enter Tryd.func9, Tryd.ntmps9
    go_wp2_with fail
    with_reducible refine (HSm0.out _ HX.out).mono ?_
    rintro e w1 ⟨rfl, hb1⟩
    have hX_w1 := HX.out.trans (hb1.mono HX.out.size)
    have HX_w1 := Lib.hid hX_w1
    obtain ⟨kX0_w1, kX1_w1, kX2_w1, kX3_w1⟩ := box2_cells hX_w1
    clear hX_w1
    have z_w1 := HX_w1.out.size
    simp only [World.alloc, Array.size_push] at z_w1
    have hm_w1 := hmW.keep hb1 hmW.size
    clear hb1
    go_wp2_with fail
    with_reducible refine (HAw.out _ hm_w1).mono ?_
    rintro e w2 ⟨rfl, hb2⟩
    have hX_w2 := HX_w1.out.trans (hb2.mono HX_w1.out.size)
    have HX_w2 := Lib.hid hX_w2
    obtain ⟨kX0_w2, kX1_w2, kX2_w2, kX3_w2⟩ := box2_cells hX_w2
    clear hX_w2
    have z_w2 := HX_w2.out.size
    simp only [World.alloc, Array.size_push] at z_w2
    have hm_w2 := hm_w1.keep hb2 hm_w1.size
    clear hb2 kX0_w1 kX1_w1 kX2_w1 kX3_w1
    go_wp2
    go_ret
    exact ⟨rfl, HAL.out.trans (HX_w2.out.mono HAL.out.size)⟩
  | true =>
    cases sm1 with
    | false =>
      subst hW0
      clear hal
      go_enter Tryd.func9, Tryd.ntmps9
      go_wp2_with fail
      with_reducible refine (HSm0.out _ HX.out).mono ?_
      rintro e w1 ⟨rfl, hb1⟩
      have hX_w1 := HX.out.trans (hb1.mono HX.out.size)
      have HX_w1 := Lib.hid hX_w1
      obtain ⟨kX0_w1, kX1_w1, kX2_w1, kX3_w1⟩ := box2_cells hX_w1
      clear hX_w1
      have z_w1 := HX_w1.out.size
      simp only [World.alloc, Array.size_push] at z_w1
      have hm_w1 := hmW.keep hb1 hmW.size
      clear hb1
      go_wp2_with fail
      with_reducible refine (HSm1.out _ HX_w1.out).mono ?_
      rintro e w2 ⟨rfl, hb2⟩
      have hX_w2 := HX_w1.out.trans (hb2.mono HX_w1.out.size)
      have HX_w2 := Lib.hid hX_w2
      obtain ⟨kX0_w2, kX1_w2, kX2_w2, kX3_w2⟩ := box2_cells hX_w2
      clear hX_w2
      have z_w2 := HX_w2.out.size
      simp only [World.alloc, Array.size_push] at z_w2
      have hm_w2 := hm_w1.keep hb2 hm_w1.size
      clear hb2 kX0_w1 kX1_w1 kX2_w1 kX3_w1
      go_wp2_with fail
      with_reducible refine (HAw.out _ hm_w2).mono ?_
      rintro e w3 ⟨rfl, hb3⟩
      have hX_w3 := HX_w2.out.trans (hb3.mono HX_w2.out.size)
      have HX_w3 := Lib.hid hX_w3
      obtain ⟨kX0_w3, kX1_w3, kX2_w3, kX3_w3⟩ := box2_cells hX_w3
      clear hX_w3
      have z_w3 := HX_w3.out.size
      simp only [World.alloc, Array.size_push] at z_w3
      have hm_w3 := hm_w2.keep hb3 hm_w2.size
      clear hb3 kX0_w2 kX1_w2 kX2_w2 kX3_w2
      go_wp2
      go_ret
      exact ⟨rfl, HAL.out.trans (HX_w3.out.mono HAL.out.size)⟩
    | true =>
      have HA := Lib.hid (fun (w' : World) (hb : Below W0.heap.size W0 w') => within_any A0 A1 xs0 xs1 c0 c1 b0 b1 _ _ w' (HK0.out w' hb) (HK1.out w' hb))
      have HB := Lib.hid (fun (w' : World) (hb : Below W0.heap.size W0 w') => rwithin_any A0 A1 xs0 xs1 c0 c1 b0 b1 _ _ w' (HK0.out w' hb) (HK1.out w' hb))
      have HC := Lib.hid (fun (w' : World) (hb : Below W0.heap.size W0 w') => within_any A1 A0 xs1 xs0 c1 c0 b1 b0 _ _ w' (HK1.out w' hb) (HK0.out w' hb))
      have HD := Lib.hid (fun (w' : World) (hb : Below W0.heap.size W0 w') => rwithin_any A1 A0 xs1 xs0 c1 c0 b1 b0 _ _ w' (HK1.out w' hb) (HK0.out w' hb))
      generalize Pt.within ⟨bs xs0, b0⟩ ⟨bs xs1, b1⟩ = v at HA HB
      generalize Pt.within ⟨bs xs1, b1⟩ ⟨bs xs0, b0⟩ = u at HC HD
      have hmX := Lib.hid (fun (w' : World) (hb : Below W0.heap.size W0 w') => hmW.keep hb hmW.size)
      subst hW0
      clear hal
      go_enter Tryd.func9, Tryd.ntmps9
      go_wp2_with fail
      with_reducible refine (HSm0.out _ HX.out).mono ?_
      rintro e w1 ⟨rfl, hb1⟩
      have hX_w1 := HX.out.trans (hb1.mono HX.out.size)
      have HX_w1 := Lib.hid hX_w1
      obtain ⟨kX0_w1, kX1_w1, kX2_w1, kX3_w1⟩ := box2_cells hX_w1
      clear hX_w1
      have z_w1 := HX_w1.out.size
      simp only [World.alloc, Array.size_push] at z_w1
      have hm_w1 := hmW.keep hb1 hmW.size
      clear hb1
      go_wp2_with fail
      with_reducible refine (HSm1.out _ HX_w1.out).mono ?_
      rintro e w2 ⟨rfl, hb2⟩
      have hX_w2 := HX_w1.out.trans (hb2.mono HX_w1.out.size)
      have HX_w2 := Lib.hid hX_w2
      obtain ⟨kX0_w2, kX1_w2, kX2_w2, kX3_w2⟩ := box2_cells hX_w2
      clear hX_w2
      have z_w2 := HX_w2.out.size
      simp only [World.alloc, Array.size_push] at z_w2
      have hm_w2 := hm_w1.keep hb2 hm_w1.size
      clear hb2 kX0_w1 kX1_w1 kX2_w1 kX3_w1
      have HAI := Lib.hid (fun (w' : World) (h : S2 w (.slice A0 xs0.length c0) (.bool b0) (.slice A1 xs1.length c1) (.bool b1) 25 w') => HA.out w' h.2.2.2.2.below)
      have HBI := Lib.hid (fun (w' : World) (h : S2 w (.slice A0 xs0.length c0) (.bool b0) (.slice A1 xs1.length c1) (.bool b1) 25 w') => HB.out w' h.2.2.2.2.below)
      have HCI := Lib.hid (fun (w' : World) (h : S2 w (.slice A0 xs0.length c0) (.bool b0) (.slice A1 xs1.length c1) (.bool b1) 25 w') => HC.out w' h.2.2.2.2.below)
      have HDI := Lib.hid (fun (w' : World) (h : S2 w (.slice A0 xs0.length c0) (.bool b0) (.slice A1 xs1.length c1) (.bool b1) 25 w') => HD.out w' h.2.2.2.2.below)
      have HAwI := Lib.hid (fun (w' : World) (h : S2 w (.slice A0 xs0.length c0) (.bool b0) (.slice A1 xs1.length c1) (.bool b1) 25 w') => HAw.out w' (hmX.out w' h.2.2.2.2.below))
      have hin : S2 w (.slice A0 xs0.length c0) (.bool b0) (.slice A1 xs1.length c1) (.bool b1) 25 w2 := In2.held ⟨HX_w2.out⟩
      have HIN := Lib.hid hin
      clear HA HB HC HD HAw hmX hm_w1 hm_w2 kX0_w2 kX1_w2 kX2_w2 kX3_w2 z_w1 z_w2 HX HX_w1 HX_w2 hmW HK0 HK1 HSm0 HSm1 hz0 hz1 hp0 hp1 hm
      have tv : (v == v) = true := by simp
      have tu : (u == u) = true := by simp
      go_wp2_with fail
      set_option maxRecDepth 100000 in
      go_region_held3 (fun w' => w'.cell? ⟨w.heap.size, 0, none⟩ = some (.slice A0 xs0.length c0) ∧ w'.cell? ⟨w.heap.size, 1, none⟩ = some (.bool b0) ∧ w'.cell? ⟨w.heap.size + 1, 0, none⟩ = some (.slice A1 xs1.length c1) ∧ w'.cell? ⟨w.heap.size + 1, 1, none⟩ = some (.bool b1) ∧ In2 w (.slice A0 xs0.length c0) (.bool b0) (.slice A1 xs1.length c1) (.bool b1) 25 w')
        (first | exact S2.nxt hb (by assumption) | exact S2.drew (by assumption) | exact HIN.out | go_keep)
        (first
          | (go_at_call 38; have hzz := hbA; refine (HCI.out _ (by assumption)).mono ?_; rintro e w' ⟨rfl, hb⟩)
          | (go_at_call 38; refine (HAI.out _ (by assumption)).mono ?_; rintro e w' ⟨rfl, hb⟩; have hbA := hb)
          | (go_at_call 39; have hzz := hbB; refine (HDI.out _ (by assumption)).mono ?_; rintro e w' ⟨rfl, hb⟩)
          | (go_at_call 39; refine (HBI.out _ (by assumption)).mono ?_; rintro e w' ⟨rfl, hb⟩; have hbB := hb)
          | (go_at_call 18; refine (HAwI.out _ (by assumption)).mono ?_; rintro e w' ⟨rfl, hb⟩; have hfin : S2 w (.slice A0 xs0.length c0) (.bool b0) (.slice A1 xs1.length c1) (.bool b1) 25 w' := S2.nxt hb (by assumption)))
      go_wp2
      go_ret
      exact ⟨rfl, HAL.out.trans (hfin.2.2.2.2.below.mono HAL.out.size)⟩

end Go.Proofs.YtffjmhdnfkpdpaaDoor.patternWithins
