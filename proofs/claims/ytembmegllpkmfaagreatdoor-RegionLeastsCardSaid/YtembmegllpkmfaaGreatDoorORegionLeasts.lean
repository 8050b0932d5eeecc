/- RegionLeasts returns true at every region (the card: the variables that it lists hold what the program text lays). Conditions: none of its own. -/
import Derived.Test.YtembmegllpkmfaaGreatDoorCards
import Derived.Test.YtembmegllpkmfaaGreatDoorTie
import Derived.WalkKit
import Derived.ProofKit
import Derived.OpenShut
import Derived.ShutString
import Derived.Test.YtembmegllpkmfaaGreatDoorPatOpen
import Derived.Test.YtembmegllpkmfaaGreatDoorRegOpen
import Derived.Test.YtembmegllpkmfaaGreatDoorRegAwake
import Derived.Test.YtembmegllpkmfaaGreatDoorRegShort
import Derived.Test.YtembmegllpkmfaaGreatDoorRegRL
import Derived.Test.YtembmegllpkmfaaGreatDoorRegPoint
import Derived.Test.YtembmegllpkmfaaGreatDoorLRegionLeasts
import Derived.Test.YtembmegllpkmfaaGreatDoorSeatFacts
import Derived.JoinedOf
namespace Go.Proofs.YtembmegllpkmfaaGreatDoor.regionLeasts
open Go.ChangeShapes Go.WideShapes Go.ChangeAt Go.RowKit
open Go.ChangeMaps (open_string shut_string)
set_option linter.unusedVariables false

theorem cPlace : (Rows.regionLeastsRow.inPlace == Tryz.prog.inPlace 3) = true := by kernel_rfl
theorem cUnf : (Rows.regionLeastsRow.unfollowed == Tryz.prog.unfollowed 3) = true := by kernel_rfl
theorem cRec : (Rows.regionLeastsRow.recurses == Tryz.prog.recurses 3) = true := by kernel_rfl
theorem cNamed : (Rows.regionLeastsRow.named == Tryz.prog.varsNamed 3) = true := by kernel_rfl
theorem cLift : (Rows.regionLeastsRow.lifted == Tryz.prog.liftsFinal) = true := by kernel_rfl
theorem closed : joinedFacts Tryz.prog 3 Tryz.f3 Rows.regionLeastsSpec Rows.regionLeastsRow = true := by
  unfold joinedFacts
  rw [cPlace, cUnf, cRec, cNamed, cLift, seatLaid, seatMaps, seatHeard, seatEnter]
  kernel_rfl
theorem over : Rows.regionLeastsRow.holds Tryz.pinned (OpenSpec.ofChange Rows.regionLeastsSpec) :=
  OpenClaim.holds_of_wide 3 Tryz.f3 rfl rfl rfl rfl rfl rfl rfl ⟨rfl, rfl, rfl, rfl, rfl⟩ rfl rfl rfl rfl rfl (by kernel_rfl) Tryz.func3 closed
    (of_decide_eq_true (by kernel_rfl)) (by unfold Func.isWrapper; first | (rw [if_pos (by decide +kernel)]; kernel_rfl) | (rw [if_neg (by decide +kernel)]; exact ⟨rfl, rfl⟩))
    (fun os started H enc _ => lifted os started H enc)

theorem pW : (Rows.regionLeastsRow.wfByText (OpenSpec.ofChange Rows.regionLeastsSpec)) = true := by kernel_rfl
theorem pM : Tryz.pinned.checked.prog.mainIs = some (((true, "13a1592ea518a331a55498c53063d8a09fd075e45ceed0415c0e22f015d07094")).1, ((true, "13a1592ea518a331a55498c53063d8a09fd075e45ceed0415c0e22f015d07094")).2.toList) := by kernel_rfl
theorem pL : false = Tryz.pinned.checked.prog.looks [] := by kernel_rfl
theorem pF : Tryz.prog.funcNamed Rows.regionLeastsRow.func = some 3 := by kernel_rfl
theorem pU : ([27].all fun u => !Tryz.prog.wantsStandIn u) = true := by kernel_rfl
theorem pG : false = Rows.regionLeastsRow.goesBy Tryz.pinned.checked.prog := by kernel_rfl
theorem pN : ∀ f fn, Tryz.pinned.checked.prog.funcNamed Rows.regionLeastsRow.func = some f → Tryz.pinned.checked.prog.funcs[f]? = some fn → false = Tryz.pinned.checked.prog.looks [] ∧ ∀ (j : Nat) t, fn.params[j]? = some t → Tryz.pinned.checked.prog.wantsStandIn t = false :=
    fun f fn hf hfn => by
      obtain rfl : f = 3 := Option.some.inj (pF.symm.trans hf) |>.symm
      obtain rfl : fn = Tryz.f3 := (Option.some.inj (Tryz.func3.symm.trans hfn)).symm
      exact ⟨pL, fun j t ht => by
        rw [Tryz.params3] at ht
        have hm : t ∈ [27] := by simpa using Array.mem_of_getElem? ht
        exact (show Tryz.prog.wantsStandIn t = false by simpa using List.all_eq_true.1 pU t hm)⟩

end Go.Proofs.YtembmegllpkmfaaGreatDoor.regionLeasts
