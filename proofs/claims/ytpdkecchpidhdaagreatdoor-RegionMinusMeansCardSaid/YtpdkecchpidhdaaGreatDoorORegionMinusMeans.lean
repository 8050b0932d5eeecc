/- RegionMinusMeans returns true at every two regions and every string (the card: the variables that it lists hold what the program text lays). Conditions: none of its own. -/
import Derived.Test.YtpdkecchpidhdaaGreatDoorCards
import Derived.Test.YtpdkecchpidhdaaGreatDoorTie
import Derived.WalkKit
import Derived.ProofKit
import Derived.OpenShut
import Derived.ShutString
import Derived.Test.YtpdkecchpidhdaaGreatDoorPatOpen
import Derived.Test.YtpdkecchpidhdaaGreatDoorRegOpen
import Derived.Test.YtpdkecchpidhdaaGreatDoorRegAwake
import Derived.Test.YtpdkecchpidhdaaGreatDoorRegMinusL
import Derived.Test.YtpdkecchpidhdaaGreatDoorLRegionMinusMeans
import Derived.Test.YtpdkecchpidhdaaGreatDoorSeatFacts
import Derived.JoinedOf
namespace Go.Proofs.YtpdkecchpidhdaaGreatDoor.regionMinusMeans
open Go.ChangeShapes Go.WideShapes Go.ChangeAt Go.RowKit
open Go.ChangeMaps (open_string shut_string)
set_option linter.unusedVariables false

theorem cPlace : (Rows.regionMinusMeansRow.inPlace == Tryz.prog.inPlace 10) = true := by kernel_rfl
theorem cUnf : (Rows.regionMinusMeansRow.unfollowed == Tryz.prog.unfollowed 10) = true := by kernel_rfl
theorem cRec : (Rows.regionMinusMeansRow.recurses == Tryz.prog.recurses 10) = true := by kernel_rfl
theorem cNamed : (Rows.regionMinusMeansRow.named == Tryz.prog.varsNamed 10) = true := by kernel_rfl
theorem cLift : (Rows.regionMinusMeansRow.lifted == Tryz.prog.liftsFinal) = true := by kernel_rfl
theorem closed : joinedFacts Tryz.prog 10 Tryz.f10 Rows.regionMinusMeansSpec Rows.regionMinusMeansRow = true := by
  unfold joinedFacts
  rw [cPlace, cUnf, cRec, cNamed, cLift, seatLaid, seatMaps, seatHeard, seatEnter]
  kernel_rfl
theorem over : Rows.regionMinusMeansRow.holds Tryz.pinned (OpenSpec.ofChange Rows.regionMinusMeansSpec) :=
  OpenClaim.holds_of_wide 10 Tryz.f10 rfl rfl rfl rfl rfl rfl rfl ⟨rfl, rfl, rfl, rfl, rfl⟩ rfl rfl rfl rfl rfl (by kernel_rfl) Tryz.func10 closed
    (of_decide_eq_true (by kernel_rfl)) (by unfold Func.isWrapper; first | (rw [if_pos (by decide +kernel)]; kernel_rfl) | (rw [if_neg (by decide +kernel)]; exact ⟨rfl, rfl⟩))
    (fun os started H enc _ => lifted os started H enc)

theorem pW : (Rows.regionMinusMeansRow.wfByText (OpenSpec.ofChange Rows.regionMinusMeansSpec)) = true := by kernel_rfl
theorem pM : Tryz.pinned.checked.prog.mainIs = some (((true, "220643eee5f425b1564fd2373b1079dafdbb6cf2ccffd63e2417b694ad73a0e7")).1, ((true, "220643eee5f425b1564fd2373b1079dafdbb6cf2ccffd63e2417b694ad73a0e7")).2.toList) := by kernel_rfl
theorem pL : false = Tryz.pinned.checked.prog.looks [] := by kernel_rfl
theorem pF : Tryz.prog.funcNamed Rows.regionMinusMeansRow.func = some 10 := by kernel_rfl
theorem pU : ([27, 27, 9].all fun u => !Tryz.prog.wantsStandIn u) = true := by kernel_rfl
theorem pG : false = Rows.regionMinusMeansRow.goesBy Tryz.pinned.checked.prog := by kernel_rfl
theorem pN : ∀ f fn, Tryz.pinned.checked.prog.funcNamed Rows.regionMinusMeansRow.func = some f → Tryz.pinned.checked.prog.funcs[f]? = some fn → false = Tryz.pinned.checked.prog.looks [] ∧ ∀ (j : Nat) t, fn.params[j]? = some t → Tryz.pinned.checked.prog.wantsStandIn t = false :=
    fun f fn hf hfn => by
      obtain rfl : f = 10 := Option.some.inj (pF.symm.trans hf) |>.symm
      obtain rfl : fn = Tryz.f10 := (Option.some.inj (Tryz.func10.symm.trans hfn)).symm
      exact ⟨pL, fun j t ht => by
        rw [Tryz.params10] at ht
        have hm : t ∈ [27, 27, 9] := by simpa using Array.mem_of_getElem? ht
        exact (show Tryz.prog.wantsStandIn t = false by simpa using List.all_eq_true.1 pU t hm)⟩

end Go.Proofs.YtpdkecchpidhdaaGreatDoor.regionMinusMeans
