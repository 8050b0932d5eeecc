/- RegionLeasts returns true at every region (the card: the variables that it lists hold what the program text lays). Conditions: none of its own. -/
import Derived.Test.YtembmegllpkmfaaGreatDoorCards
import Derived.Test.YtembmegllpkmfaaGreatDoorTie
import Derived.WalkKit
import Derived.ProofKit
import Derived.OpenShut
import Derived.ShutString
import Derived.Test.YtembmegllpkmfaaGreatDoorPatOpen
import Derived.Test.YtembmegllpkmfaaGreatDoorRegOpen
import Derived.Test.YtembmegllpkmfaaGreatDoorRegAwake
import Derived.Test.YtembmegllpkmfaaGreatDoorRegShort
import Derived.Test.YtembmegllpkmfaaGreatDoorRegRL
import Derived.Test.YtembmegllpkmfaaGreatDoorRegPoint
import Derived.Test.YtembmegllpkmfaaGreatDoorWRegionLeasts
namespace Go.Proofs.YtembmegllpkmfaaGreatDoor.regionLeasts
open Go.ChangeShapes Go.WideShapes Go.ChangeAt Go.RowKit
open Go.ChangeMaps (open_string shut_string)
set_option linter.unusedVariables false

theorem own : ownKnob Tryz.prog.godebug = none := by kernel_rfl

set_option maxRecDepth 1000000 in
theorem lifted (os : Os) (started : os.Started) (H : Type) (enc : TypeId × Value → H) :
    ReturnsInHanded {} Tryz.checked os 3 .any (fun w args => (Rows.regionLeastsSpec.pre enc Tryz.prog Tryz.f3 Rows.regionLeastsRow.domain false w args ∧ laidMetH Tryz.prog Rows.regionLeastsRow.laid w) ∧ sizedMet enc Tryz.prog Tryz.f3 (OpenSpec.ofChange Rows.regionLeastsSpec) false w args)
      (Rows.regionLeastsSpec.post enc Tryz.prog Tryz.f3 false true false false) := by
  refine sizedWrap own started (by kernel_rfl) Tryz.func3
    (ChangeSpec.witness_shaped (enc := enc) (C := Tryz.checked) (os := os) (X := fun w _ => laidMetH Tryz.prog Rows.regionLeastsRow.laid w) false (World.laidAll Tryz.prog os Rows.regionLeastsRow.laid) #[.agg #[.slice none 0 0, .bool false, .slice none 0 0]] 8 (World.laidAll_os _ _ _)
      (World.shaped_of_ZipB (by kernel_rfl) (by kernel_rfl)) (by kernel_rfl) (by kernel_rfl) (by kernel_rfl)
      (by rw [MakeChecks.laidMetH_plain _ _ _ (by kernel_rfl)]; exact laidMet_laidAll _ (by kernel_rfl) (by kernel_rfl))) ?_
  intro W base args ds gs before hval0 hW hsh hsz
  have hval : ∀ (j : Nat) t v, Tryz.f3.params[j]? = some t → args[j]? = some v → Value.okWide Tryz.prog W .any base t v := hval0
  have hW' := hW
  obtain ⟨p, q, hA0, hV, rfl, hfz, hnd⟩ := hW
  have hA : DataW.TrodAll enc Tryz.prog W 0 (fun _ => true) true Tryz.f3.params.toList args.toList ds p := hA0
  rw [Tryz.params3] at hA hval
  obtain ⟨v0, vs0, d0, ds0, p0, q0, hargs, rfl, rfl, h0, r0⟩ := trodAll_cons hA
  obtain ⟨rfl, rfl, rfl⟩ := trodAll_nil r0
  obtain rfl : args = #[v0] := by cases args; simp_all
  obtain ⟨rfl, rfl⟩ := trodVars_none hV
  have k0 := h0
  have lt0 : ∀ x ∈ p0, x.block < W.heap.size := by obtain ⟨m, hm⟩ := k0; exact DataW.trod_lt m _ _ _ hm
  obtain ⟨A0, xs0, c0, b0, K0, bl0, e0, rfl, hg0, hz0, hy0, hx0, hl0⟩ := open_reg (hval 0 27 v0 rfl rfl) h0 (weighed hsz (j := 0) rfl rfl)
  clear hA0 hval0
  refine (walk W A0 xs0 c0 b0 K0 bl0 e0 hg0 hz0 hy0 hx0 hl0 (maxl_of W hsh)).mono fun e W' ⟨he, bel⟩ => ?_
  subst he
  exact ⟨_, rfl, _, _, _, [], _, [], hW', trodAll_mk1 (shut_bool Tryz.underlying4 _), (trodAll_cons_mk (Below.trod laidOutW (by kernel_rfl) (of_decide_eq_true (by kernel_rfl)) k0 bel lt0) trodAll_mk0), rfl, bel.frame _, fun h => by cases h⟩

end Go.Proofs.YtembmegllpkmfaaGreatDoor.regionLeasts
