/- RuleChains returns true at every two lines (the card: the variables that it lists hold what the program text lays). Conditions: none of its own. -/
import Derived.Test.YthgcnlhlhipllaaGreatDoorCards
import Derived.Test.YthgcnlhlhipllaaGreatDoorTie
import Derived.WalkKit
import Derived.ProofKit
import Derived.OpenShut
import Derived.ShutString
import Derived.Test.YthgcnlhlhipllaaGreatDoorPatOpen
import Derived.Test.YthgcnlhlhipllaaGreatDoorRulQCh
import Derived.Test.YthgcnlhlhipllaaGreatDoorLRuleChains
namespace Go.Proofs.YthgcnlhlhipllaaGreatDoor.ruleChains
open Go.ChangeShapes Go.WideShapes Go.ChangeAt Go.RowKit
open Go.ChangeMaps (open_string shut_string)
set_option linter.unusedVariables false

theorem over : Rows.ruleChainsRow.holds Tryz.pinned (OpenSpec.ofChange Rows.ruleChainsSpec) :=
  OpenClaim.holds_of_wide 3 Tryz.f3 rfl rfl rfl rfl rfl rfl rfl ⟨rfl, rfl, rfl, rfl, rfl⟩ rfl rfl rfl rfl rfl (by kernel_rfl) Tryz.func3 (by kernel_rfl)
    (of_decide_eq_true (by kernel_rfl)) (by unfold Func.isWrapper; first | (rw [if_pos (by decide +kernel)]; kernel_rfl) | (rw [if_neg (by decide +kernel)]; exact ⟨rfl, rfl⟩))
    (fun os started H enc _ => lifted os started H enc)

theorem proved : Rows.RuleChainsCardSaid :=
  Claim7.holds_tied_plain_at .later [] [.data, .pinned] true (true, "7cf9a5dc1b6693fed8212a817d8de49de82effa3aefcfaebf1c2a99f0888de28") false over (fun _ h => by cases h) (by kernel_rfl) (fun _ h => by cases h) ruleChains_row_tie rfl ⟨rfl, rfl⟩ (by kernel_rfl) rfl
    (fun f fn hf hfn => by
      obtain rfl : f = 3 := Option.some.inj ((show Tryz.prog.funcNamed Rows.ruleChainsRow.func = some 3 by kernel_rfl).symm.trans hf) |>.symm
      obtain rfl : fn = Tryz.f3 := (Option.some.inj (Tryz.func3.symm.trans hfn)).symm
      exact ⟨by kernel_rfl, fun j t ht => by
        rw [Tryz.params3] at ht
        have hm : t ∈ [26, 26] := by simpa using Array.mem_of_getElem? ht
        have hall : ([26, 26].all fun u => !Tryz.prog.wantsStandIn u) = true := by kernel_rfl
        exact (show Tryz.prog.wantsStandIn t = false by simpa using List.all_eq_true.1 hall t hm)⟩)
    (by kernel_rfl)
#print axioms proved
end Go.Proofs.YthgcnlhlhipllaaGreatDoor.ruleChains
