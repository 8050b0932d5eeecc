/- RuleAgrees returns true at every two lines (the card: the variables that it lists hold what the program text lays). Conditions: none of its own. -/
import Derived.Test.YthgcnlhlhipllaaGreatDoorCards
import Derived.Test.YthgcnlhlhipllaaGreatDoorTie
import Derived.WalkKit
import Derived.ProofKit
import Derived.OpenShut
import Derived.ShutString
import Derived.Test.YthgcnlhlhipllaaGreatDoorPatOpen
import Derived.Test.YthgcnlhlhipllaaGreatDoorRulQAg
import Derived.Test.YthgcnlhlhipllaaGreatDoorLRuleAgrees
import Derived.Test.YthgcnlhlhipllaaGreatDoorSeatFacts
import Derived.JoinedOf
namespace Go.Proofs.YthgcnlhlhipllaaGreatDoor.ruleAgrees
open Go.ChangeShapes Go.WideShapes Go.ChangeAt Go.RowKit
open Go.ChangeMaps (open_string shut_string)
set_option linter.unusedVariables false

theorem cPlace : (Rows.ruleAgreesRow.inPlace == Tryz.prog.inPlace 4) = true := by kernel_rfl
theorem cUnf : (Rows.ruleAgreesRow.unfollowed == Tryz.prog.unfollowed 4) = true := by kernel_rfl
theorem cRec : (Rows.ruleAgreesRow.recurses == Tryz.prog.recurses 4) = true := by kernel_rfl
theorem cNamed : (Rows.ruleAgreesRow.named == Tryz.prog.varsNamed 4) = true := by kernel_rfl
theorem cLift : (Rows.ruleAgreesRow.lifted == Tryz.prog.liftsFinal) = true := by kernel_rfl
theorem closed : joinedFacts Tryz.prog 4 Tryz.f4 Rows.ruleAgreesSpec Rows.ruleAgreesRow = true := by
  unfold joinedFacts
  rw [cPlace, cUnf, cRec, cNamed, cLift, seatLaid, seatMaps, seatHeard, seatEnter]
  kernel_rfl
theorem over : Rows.ruleAgreesRow.holds Tryz.pinned (OpenSpec.ofChange Rows.ruleAgreesSpec) :=
  OpenClaim.holds_of_wide 4 Tryz.f4 rfl rfl rfl rfl rfl rfl rfl ⟨rfl, rfl, rfl, rfl, rfl⟩ rfl rfl rfl rfl rfl (by kernel_rfl) Tryz.func4 closed
    (of_decide_eq_true (by kernel_rfl)) (by unfold Func.isWrapper; first | (rw [if_pos (by decide +kernel)]; kernel_rfl) | (rw [if_neg (by decide +kernel)]; exact ⟨rfl, rfl⟩))
    (fun os started H enc _ => lifted os started H enc)

theorem proved : Rows.RuleAgreesCardSaid :=
  Claim7.holds_tied_plain_at .later [] [.data, .pinned] true (true, "7cf9a5dc1b6693fed8212a817d8de49de82effa3aefcfaebf1c2a99f0888de28") false over (fun _ h => by cases h) (by kernel_rfl) (fun _ h => by cases h) ruleAgrees_row_tie rfl ⟨rfl, rfl⟩ (by kernel_rfl) rfl
    (fun f fn hf hfn => by
      obtain rfl : f = 4 := Option.some.inj ((show Tryz.prog.funcNamed Rows.ruleAgreesRow.func = some 4 by kernel_rfl).symm.trans hf) |>.symm
      obtain rfl : fn = Tryz.f4 := (Option.some.inj (Tryz.func4.symm.trans hfn)).symm
      exact ⟨by kernel_rfl, fun j t ht => by
        rw [Tryz.params4] at ht
        have hm : t ∈ [26, 26] := by simpa using Array.mem_of_getElem? ht
        have hall : ([26, 26].all fun u => !Tryz.prog.wantsStandIn u) = true := by kernel_rfl
        exact (show Tryz.prog.wantsStandIn t = false by simpa using List.all_eq_true.1 hall t hm)⟩)
    (by kernel_rfl)
#print axioms proved
end Go.Proofs.YthgcnlhlhipllaaGreatDoor.ruleAgrees
