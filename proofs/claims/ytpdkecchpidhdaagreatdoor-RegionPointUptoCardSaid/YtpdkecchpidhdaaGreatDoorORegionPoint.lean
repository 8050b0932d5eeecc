/- RegionPoint returns true at every list of patterns and every string (the card: the variables that it lists hold what the program text lays). Conditions: what it reads is of bulk at most 1048576 values and letters. -/
import Derived.Test.YtpdkecchpidhdaaGreatDoorCards
import Derived.Test.YtpdkecchpidhdaaGreatDoorTie
import Derived.WalkKit
import Derived.ProofKit
import Derived.OpenShut
import Derived.ShutString
import Derived.Test.YtpdkecchpidhdaaGreatDoorPatOpen
import Derived.Test.YtpdkecchpidhdaaGreatDoorRegOpen
import Derived.Test.YtpdkecchpidhdaaGreatDoorRegAwake
import Derived.Test.YtpdkecchpidhdaaGreatDoorRegPoint
import Derived.Test.YtpdkecchpidhdaaGreatDoorRegOrd
import Derived.Test.YtpdkecchpidhdaaGreatDoorBulk
import Derived.Deep.DeepHandedRow
import Derived.Lib.LaidTab
import Derived.Deep.DeepWitnessRowRef
import Derived.Deep.CondSized
import Derived.Test.YtpdkecchpidhdaaGreatDoorLRegionPoint
import Derived.Test.YtpdkecchpidhdaaGreatDoorSeatFacts
import Derived.JoinedOf
namespace Go.Proofs.YtpdkecchpidhdaaGreatDoor.regionPoint
open Go.ChangeShapes Go.WideShapes Go.ChangeAt Go.RowKit
open Go.ChangeMaps (open_string shut_string)
set_option linter.unusedVariables false

theorem cPlace : (Rows.regionPointUptoRow.inPlace == Tryz.prog.inPlace 12) = true := by kernel_rfl
theorem cUnf : (Rows.regionPointUptoRow.unfollowed == Tryz.prog.unfollowed 12) = true := by kernel_rfl
theorem cRec : (Rows.regionPointUptoRow.recurses == Tryz.prog.recurses 12) = true := by kernel_rfl
theorem cNamed : (Rows.regionPointUptoRow.named == Tryz.prog.varsNamed 12) = true := by kernel_rfl
theorem cLift : (Rows.regionPointUptoRow.lifted == Tryz.prog.liftsFinal) = true := by kernel_rfl
theorem closed : joinedFacts Tryz.prog 12 Tryz.f12 Rows.regionPointSpec Rows.regionPointUptoRow = true := by
  unfold joinedFacts
  rw [cPlace, cUnf, cRec, cNamed, cLift, seatLaid, seatMaps, seatHeard, seatEnter]
  kernel_rfl
set_option maxRecDepth 1000000 in
theorem over : Rows.regionPointUptoRow.holds Tryz.pinned (Rows.OpenSpec.upto Rows.regionPointSpec) :=
  OpenClaim.holds_of_cond 12 Tryz.f12 rfl rfl rfl rfl rfl rfl rfl ⟨rfl, rfl, rfl, rfl, rfl⟩ rfl rfl rfl rfl rfl (by kernel_rfl) Tryz.func12 closed
    (of_decide_eq_true (by kernel_rfl)) (by unfold Func.isWrapper; first | (rw [if_pos (by decide +kernel)]; kernel_rfl) | (rw [if_neg (by decide +kernel)]; exact ⟨rfl, rfl⟩))
    (fun os started H enc _ F => by rw [OpenClaim.pre_eq_preRow]; exact lifted os started H enc F)

theorem pW : (Rows.regionPointUptoRow.wfByText (Rows.OpenSpec.upto Rows.regionPointSpec)) = true := by kernel_rfl
theorem pM : Tryz.pinned.checked.prog.mainIs = some (((true, "220643eee5f425b1564fd2373b1079dafdbb6cf2ccffd63e2417b694ad73a0e7")).1, ((true, "220643eee5f425b1564fd2373b1079dafdbb6cf2ccffd63e2417b694ad73a0e7")).2.toList) := by kernel_rfl
theorem pL : false = Tryz.pinned.checked.prog.looks [] := by kernel_rfl
theorem pF : Tryz.prog.funcNamed Rows.regionPointUptoRow.func = some 12 := by kernel_rfl
theorem pU : ([9, 25].all fun u => !Tryz.prog.wantsStandIn u) = true := by kernel_rfl
theorem pG : false = Rows.regionPointUptoRow.goesBy Tryz.pinned.checked.prog := by kernel_rfl
theorem pN : ∀ f fn, Tryz.pinned.checked.prog.funcNamed Rows.regionPointUptoRow.func = some f → Tryz.pinned.checked.prog.funcs[f]? = some fn → false = Tryz.pinned.checked.prog.looks [] ∧ ∀ (j : Nat) t, fn.params[j]? = some t → Tryz.pinned.checked.prog.wantsStandIn t = false :=
    fun f fn hf hfn => by
      obtain rfl : f = 12 := Option.some.inj (pF.symm.trans hf) |>.symm
      obtain rfl : fn = Tryz.f12 := (Option.some.inj (Tryz.func12.symm.trans hfn)).symm
      exact ⟨pL, fun j t ht => by
        rw [Tryz.params12] at ht
        have hm : t ∈ [9, 25] := by simpa using Array.mem_of_getElem? ht
        exact (show Tryz.prog.wantsStandIn t = false by simpa using List.all_eq_true.1 pU t hm)⟩

end Go.Proofs.YtpdkecchpidhdaaGreatDoor.regionPoint
