/- ViewMaps returns true at every list of lines and every string (the card: the variables that it lists hold what the program text lays). Conditions: what it reads is of bulk at most 1048576 values and letters. -/
import Derived.Test.YtipljgkhooeeiaaGreatDoorCards
import Derived.Test.YtipljgkhooeeiaaGreatDoorTie
import Derived.WalkKit
import Derived.ProofKit
import Derived.OpenShut
import Derived.ShutString
import Derived.Test.YtipljgkhooeeiaaGreatDoorPatOpen
import Derived.Test.YtipljgkhooeeiaaGreatDoorVwOpen
import Derived.Test.YtipljgkhooeeiaaGreatDoorVwLaw
import Derived.Test.YtipljgkhooeeiaaGreatDoorVwBack
import Derived.Test.YtipljgkhooeeiaaGreatDoorVwRef
import Derived.Deep.DeepHandedRow
import Derived.Lib.LaidTab
import Derived.Deep.DeepWitnessRowRef
import Derived.Deep.CondSized
import Derived.Test.YtipljgkhooeeiaaGreatDoorLViewMaps
import Derived.Test.YtipljgkhooeeiaaGreatDoorSeatFacts
import Derived.JoinedOf
namespace Go.Proofs.YtipljgkhooeeiaaGreatDoor.viewMaps
open Go.ChangeShapes Go.WideShapes Go.ChangeAt Go.RowKit
open Go.ChangeMaps (open_string shut_string)
set_option linter.unusedVariables false

theorem cPlace : (Rows.viewMapsUptoRow.inPlace == Tryz.prog.inPlace 16) = true := by kernel_rfl
theorem cUnf : (Rows.viewMapsUptoRow.unfollowed == Tryz.prog.unfollowed 16) = true := by kernel_rfl
theorem cRec : (Rows.viewMapsUptoRow.recurses == Tryz.prog.recurses 16) = true := by kernel_rfl
theorem cNamed : (Rows.viewMapsUptoRow.named == Tryz.prog.varsNamed 16) = true := by kernel_rfl
theorem cLift : (Rows.viewMapsUptoRow.lifted == Tryz.prog.liftsFinal) = true := by kernel_rfl
theorem closed : joinedFacts Tryz.prog 16 Tryz.f16 Rows.viewMapsSpec Rows.viewMapsUptoRow = true := by
  unfold joinedFacts
  rw [cPlace, cUnf, cRec, cNamed, cLift, seatLaid, seatMaps, seatHeard, seatEnter]
  kernel_rfl
set_option maxRecDepth 1000000 in
theorem over : Rows.viewMapsUptoRow.holds Tryz.pinned (Rows.OpenSpec.upto Rows.viewMapsSpec) :=
  OpenClaim.holds_of_cond 16 Tryz.f16 rfl rfl rfl rfl rfl rfl rfl ⟨rfl, rfl, rfl, rfl, rfl⟩ rfl rfl rfl rfl rfl (by kernel_rfl) Tryz.func16 closed
    (of_decide_eq_true (by kernel_rfl)) (by unfold Func.isWrapper; first | (rw [if_pos (by decide +kernel)]; kernel_rfl) | (rw [if_neg (by decide +kernel)]; exact ⟨rfl, rfl⟩))
    (fun os started H enc _ F => by rw [OpenClaim.pre_eq_preRow]; exact lifted os started H enc F)

theorem pW : (Rows.viewMapsUptoRow.wfByText (Rows.OpenSpec.upto Rows.viewMapsSpec)) = true := by kernel_rfl
theorem pM : Tryz.pinned.checked.prog.mainIs = some (((true, "de5c284c433ac47b8874559eea19a8eb99af1d1e4a9b065ccefc20af4810d302")).1, ((true, "de5c284c433ac47b8874559eea19a8eb99af1d1e4a9b065ccefc20af4810d302")).2.toList) := by kernel_rfl
theorem pL : false = Tryz.pinned.checked.prog.looks [] := by kernel_rfl
theorem pF : Tryz.prog.funcNamed Rows.viewMapsUptoRow.func = some 16 := by kernel_rfl
theorem pU : ([54, 9].all fun u => !Tryz.prog.wantsStandIn u) = true := by kernel_rfl
theorem pG : false = Rows.viewMapsUptoRow.goesBy Tryz.pinned.checked.prog := by kernel_rfl
theorem pN : ∀ f fn, Tryz.pinned.checked.prog.funcNamed Rows.viewMapsUptoRow.func = some f → Tryz.pinned.checked.prog.funcs[f]? = some fn → false = Tryz.pinned.checked.prog.looks [] ∧ ∀ (j : Nat) t, fn.params[j]? = some t → Tryz.pinned.checked.prog.wantsStandIn t = false :=
    fun f fn hf hfn => by
      obtain rfl : f = 16 := Option.some.inj (pF.symm.trans hf) |>.symm
      obtain rfl : fn = Tryz.f16 := (Option.some.inj (Tryz.func16.symm.trans hfn)).symm
      exact ⟨pL, fun j t ht => by
        rw [Tryz.params16] at ht
        have hm : t ∈ [54, 9] := by simpa using Array.mem_of_getElem? ht
        exact (show Tryz.prog.wantsStandIn t = false by simpa using List.all_eq_true.1 pU t hm)⟩

end Go.Proofs.YtipljgkhooeeiaaGreatDoor.viewMaps
