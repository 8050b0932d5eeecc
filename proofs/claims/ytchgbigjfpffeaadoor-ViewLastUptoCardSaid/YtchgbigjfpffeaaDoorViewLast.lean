/- ViewLast returns true at every list of lines and every line and every string (the card: the variables that it lists hold what the program text lays). Conditions: what it reads is of bulk at most 1048576 values and letters. -/
import Derived.Test.YtchgbigjfpffeaaDoorCards
import Derived.Test.YtchgbigjfpffeaaDoorTie
import Derived.WalkKit
import Derived.ProofKit
import Derived.OpenShut
import Derived.ShutString
import Derived.Test.YtchgbigjfpffeaaDoorPatOpen
import Derived.Test.YtchgbigjfpffeaaDoorVwOpen
import Derived.Test.YtchgbigjfpffeaaDoorVwLaw
import Derived.Test.YtchgbigjfpffeaaDoorVwBack
import Derived.Test.YtchgbigjfpffeaaDoorOwnVr
import Derived.Deep.DeepHandedRow
import Derived.Lib.LaidTab
import Derived.Deep.DeepWitnessRowRef
import Derived.Deep.CondSized
import Derived.Test.YtchgbigjfpffeaaDoorLViewLast
import Derived.Test.YtchgbigjfpffeaaDoorSeatFacts
import Derived.JoinedOf
namespace Go.Proofs.YtchgbigjfpffeaaDoor.viewLast
open Go.ChangeShapes Go.WideShapes Go.ChangeAt Go.RowKit
open Go.ChangeMaps (open_string shut_string)
set_option linter.unusedVariables false

theorem cPlace : (Rows.viewLastUptoRow.inPlace == Tryd.prog.inPlace 6) = true := by kernel_rfl
theorem cUnf : (Rows.viewLastUptoRow.unfollowed == Tryd.prog.unfollowed 6) = true := by kernel_rfl
theorem cRec : (Rows.viewLastUptoRow.recurses == Tryd.prog.recurses 6) = true := by kernel_rfl
theorem cNamed : (Rows.viewLastUptoRow.named == Tryd.prog.varsNamed 6) = true := by kernel_rfl
theorem cLift : (Rows.viewLastUptoRow.lifted == Tryd.prog.liftsFinal) = true := by kernel_rfl
theorem closed : joinedFacts Tryd.prog 6 Tryd.f6 Rows.viewLastSpec Rows.viewLastUptoRow = true := by
  unfold joinedFacts
  rw [cPlace, cUnf, cRec, cNamed, cLift, seatLaid, seatMaps, seatHeard, seatEnter]
  kernel_rfl
set_option maxRecDepth 1000000 in
theorem over : Rows.viewLastUptoRow.holds Tryd.pinned (Rows.OpenSpec.upto Rows.viewLastSpec) :=
  OpenClaim.holds_of_cond 6 Tryd.f6 rfl rfl rfl rfl rfl rfl rfl ⟨rfl, rfl, rfl, rfl, rfl⟩ rfl rfl rfl rfl rfl (by kernel_rfl) Tryd.func6 closed
    (of_decide_eq_true (by kernel_rfl)) (by unfold Func.isWrapper; first | (rw [if_pos (by decide +kernel)]; kernel_rfl) | (rw [if_neg (by decide +kernel)]; exact ⟨rfl, rfl⟩))
    (fun os started H enc _ F => by rw [OpenClaim.pre_eq_preRow]; exact lifted os started H enc F)

theorem proved : Rows.ViewLastUptoCardSaid :=
  Claim7.holds_tied_plain_at .later [] [.data, .pinned] true (true, "3572cf0fc96554a648784aae10a19a552aa318aab7832c59124096e8ba30c455") false over (fun _ h => by cases h) (by kernel_rfl) (fun _ h => by cases h) viewLastUpto_row_tie rfl ⟨rfl, rfl⟩ (by kernel_rfl) rfl
    (fun f fn hf hfn => by
      obtain rfl : f = 6 := Option.some.inj ((show Tryd.prog.funcNamed Rows.viewLastUptoRow.func = some 6 by kernel_rfl).symm.trans hf) |>.symm
      obtain rfl : fn = Tryd.f6 := (Option.some.inj (Tryd.func6.symm.trans hfn)).symm
      exact ⟨by kernel_rfl, fun j t ht => by
        rw [Tryd.params6] at ht
        have hm : t ∈ [22, 34, 9] := by simpa using Array.mem_of_getElem? ht
        have hall : ([22, 34, 9].all fun u => !Tryd.prog.wantsStandIn u) = true := by kernel_rfl
        exact (show Tryd.prog.wantsStandIn t = false by simpa using List.all_eq_true.1 hall t hm)⟩)
    (by kernel_rfl)
#print axioms proved
end Go.Proofs.YtchgbigjfpffeaaDoor.viewLast
