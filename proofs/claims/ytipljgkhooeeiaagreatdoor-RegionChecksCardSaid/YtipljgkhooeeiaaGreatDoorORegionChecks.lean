/- RegionChecks returns true at every region and every string (the card: the variables that it lists hold what the program text lays). Conditions: none of its own. -/
import Derived.Test.YtipljgkhooeeiaaGreatDoorCards
import Derived.Test.YtipljgkhooeeiaaGreatDoorTie
import Derived.WalkKit
import Derived.ProofKit
import Derived.OpenShut
import Derived.ShutString
import Derived.Test.YtipljgkhooeeiaaGreatDoorPatOpen
import Derived.Test.YtipljgkhooeeiaaGreatDoorRegOpen
import Derived.Test.YtipljgkhooeeiaaGreatDoorRegSmall
import Derived.Test.YtipljgkhooeeiaaGreatDoorRegAwake
import Derived.Test.YtipljgkhooeeiaaGreatDoorLRegionChecks
import Derived.Test.YtipljgkhooeeiaaGreatDoorSeatFacts
import Derived.JoinedOf
namespace Go.Proofs.YtipljgkhooeeiaaGreatDoor.regionChecks
open Go.ChangeShapes Go.WideShapes Go.ChangeAt Go.RowKit
open Go.ChangeMaps (open_string shut_string)
set_option linter.unusedVariables false

theorem cPlace : (Rows.regionChecksRow.inPlace == Tryz.prog.inPlace 3) = true := by kernel_rfl
theorem cUnf : (Rows.regionChecksRow.unfollowed == Tryz.prog.unfollowed 3) = true := by kernel_rfl
theorem cRec : (Rows.regionChecksRow.recurses == Tryz.prog.recurses 3) = true := by kernel_rfl
theorem cNamed : (Rows.regionChecksRow.named == Tryz.prog.varsNamed 3) = true := by kernel_rfl
theorem cLift : (Rows.regionChecksRow.lifted == Tryz.prog.liftsFinal) = true := by kernel_rfl
theorem closed : joinedFacts Tryz.prog 3 Tryz.f3 Rows.regionChecksSpec Rows.regionChecksRow = true := by
  unfold joinedFacts
  rw [cPlace, cUnf, cRec, cNamed, cLift, seatLaid, seatMaps, seatHeard, seatEnter]
  kernel_rfl
theorem over : Rows.regionChecksRow.holds Tryz.pinned (OpenSpec.ofChange Rows.regionChecksSpec) :=
  OpenClaim.holds_of_wide 3 Tryz.f3 rfl rfl rfl rfl rfl rfl rfl ⟨rfl, rfl, rfl, rfl, rfl⟩ rfl rfl rfl rfl rfl (by kernel_rfl) Tryz.func3 closed
    (of_decide_eq_true (by kernel_rfl)) (by unfold Func.isWrapper; first | (rw [if_pos (by decide +kernel)]; kernel_rfl) | (rw [if_neg (by decide +kernel)]; exact ⟨rfl, rfl⟩))
    (fun os started H enc _ => lifted os started H enc)

theorem pW : (Rows.regionChecksRow.wfByText (OpenSpec.ofChange Rows.regionChecksSpec)) = true := by kernel_rfl
theorem pM : Tryz.pinned.checked.prog.mainIs = some (((true, "de5c284c433ac47b8874559eea19a8eb99af1d1e4a9b065ccefc20af4810d302")).1, ((true, "de5c284c433ac47b8874559eea19a8eb99af1d1e4a9b065ccefc20af4810d302")).2.toList) := by kernel_rfl
theorem pL : false = Tryz.pinned.checked.prog.looks [] := by kernel_rfl
theorem pF : Tryz.prog.funcNamed Rows.regionChecksRow.func = some 3 := by kernel_rfl
theorem pU : ([27, 9].all fun u => !Tryz.prog.wantsStandIn u) = true := by kernel_rfl
theorem pG : false = Rows.regionChecksRow.goesBy Tryz.pinned.checked.prog := by kernel_rfl
theorem pN : ∀ f fn, Tryz.pinned.checked.prog.funcNamed Rows.regionChecksRow.func = some f → Tryz.pinned.checked.prog.funcs[f]? = some fn → false = Tryz.pinned.checked.prog.looks [] ∧ ∀ (j : Nat) t, fn.params[j]? = some t → Tryz.pinned.checked.prog.wantsStandIn t = false :=
    fun f fn hf hfn => by
      obtain rfl : f = 3 := Option.some.inj (pF.symm.trans hf) |>.symm
      obtain rfl : fn = Tryz.f3 := (Option.some.inj (Tryz.func3.symm.trans hfn)).symm
      exact ⟨pL, fun j t ht => by
        rw [Tryz.params3] at ht
        have hm : t ∈ [27, 9] := by simpa using Array.mem_of_getElem? ht
        exact (show Tryz.prog.wantsStandIn t = false by simpa using List.all_eq_true.1 pU t hm)⟩

end Go.Proofs.YtipljgkhooeeiaaGreatDoor.regionChecks
