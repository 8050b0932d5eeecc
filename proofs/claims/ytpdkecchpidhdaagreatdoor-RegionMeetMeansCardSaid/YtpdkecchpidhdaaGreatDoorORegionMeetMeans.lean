/- RegionMeetMeans returns true at every two regions and every string (the card: the variables that it lists hold what the program text lays). Conditions: none of its own. -/
import Derived.Test.YtpdkecchpidhdaaGreatDoorCards
import Derived.Test.YtpdkecchpidhdaaGreatDoorTie
import Derived.WalkKit
import Derived.ProofKit
import Derived.OpenShut
import Derived.ShutString
import Derived.Test.YtpdkecchpidhdaaGreatDoorPatOpen
import Derived.Test.YtpdkecchpidhdaaGreatDoorRegOpen
import Derived.Test.YtpdkecchpidhdaaGreatDoorRegAwake
import Derived.Test.YtpdkecchpidhdaaGreatDoorRegMeetL
import Derived.Test.YtpdkecchpidhdaaGreatDoorLRegionMeetMeans
import Derived.Test.YtpdkecchpidhdaaGreatDoorSeatFacts
import Derived.JoinedOf
namespace Go.Proofs.YtpdkecchpidhdaaGreatDoor.regionMeetMeans
open Go.ChangeShapes Go.WideShapes Go.ChangeAt Go.RowKit
open Go.ChangeMaps (open_string shut_string)
set_option linter.unusedVariables false

theorem cPlace : (Rows.regionMeetMeansRow.inPlace == Tryz.prog.inPlace 9) = true := by kernel_rfl
theorem cUnf : (Rows.regionMeetMeansRow.unfollowed == Tryz.prog.unfollowed 9) = true := by kernel_rfl
theorem cRec : (Rows.regionMeetMeansRow.recurses == Tryz.prog.recurses 9) = true := by kernel_rfl
theorem cNamed : (Rows.regionMeetMeansRow.named == Tryz.prog.varsNamed 9) = true := by kernel_rfl
theorem cLift : (Rows.regionMeetMeansRow.lifted == Tryz.prog.liftsFinal) = true := by kernel_rfl
theorem closed : joinedFacts Tryz.prog 9 Tryz.f9 Rows.regionMeetMeansSpec Rows.regionMeetMeansRow = true := by
  unfold joinedFacts
  rw [cPlace, cUnf, cRec, cNamed, cLift, seatLaid, seatMaps, seatHeard, seatEnter]
  kernel_rfl
theorem over : Rows.regionMeetMeansRow.holds Tryz.pinned (OpenSpec.ofChange Rows.regionMeetMeansSpec) :=
  OpenClaim.holds_of_wide 9 Tryz.f9 rfl rfl rfl rfl rfl rfl rfl ⟨rfl, rfl, rfl, rfl, rfl⟩ rfl rfl rfl rfl rfl (by kernel_rfl) Tryz.func9 closed
    (of_decide_eq_true (by kernel_rfl)) (by unfold Func.isWrapper; first | (rw [if_pos (by decide +kernel)]; kernel_rfl) | (rw [if_neg (by decide +kernel)]; exact ⟨rfl, rfl⟩))
    (fun os started H enc _ => lifted os started H enc)

theorem pW : (Rows.regionMeetMeansRow.wfByText (OpenSpec.ofChange Rows.regionMeetMeansSpec)) = true := by kernel_rfl
theorem pM : Tryz.pinned.checked.prog.mainIs = some (((true, "220643eee5f425b1564fd2373b1079dafdbb6cf2ccffd63e2417b694ad73a0e7")).1, ((true, "220643eee5f425b1564fd2373b1079dafdbb6cf2ccffd63e2417b694ad73a0e7")).2.toList) := by kernel_rfl
theorem pL : false = Tryz.pinned.checked.prog.looks [] := by kernel_rfl
theorem pF : Tryz.prog.funcNamed Rows.regionMeetMeansRow.func = some 9 := by kernel_rfl
theorem pU : ([27, 27, 9].all fun u => !Tryz.prog.wantsStandIn u) = true := by kernel_rfl
theorem pG : false = Rows.regionMeetMeansRow.goesBy Tryz.pinned.checked.prog := by kernel_rfl
theorem pN : ∀ f fn, Tryz.pinned.checked.prog.funcNamed Rows.regionMeetMeansRow.func = some f → Tryz.pinned.checked.prog.funcs[f]? = some fn → false = Tryz.pinned.checked.prog.looks [] ∧ ∀ (j : Nat) t, fn.params[j]? = some t → Tryz.pinned.checked.prog.wantsStandIn t = false :=
    fun f fn hf hfn => by
      obtain rfl : f = 9 := Option.some.inj (pF.symm.trans hf) |>.symm
      obtain rfl : fn = Tryz.f9 := (Option.some.inj (Tryz.func9.symm.trans hfn)).symm
      exact ⟨pL, fun j t ht => by
        rw [Tryz.params9] at ht
        have hm : t ∈ [27, 27, 9] := by simpa using Array.mem_of_getElem? ht
        exact (show Tryz.prog.wantsStandIn t = false by simpa using List.all_eq_true.1 pU t hm)⟩

end Go.Proofs.YtpdkecchpidhdaaGreatDoor.regionMeetMeans
