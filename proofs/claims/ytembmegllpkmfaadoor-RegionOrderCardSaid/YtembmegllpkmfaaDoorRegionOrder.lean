/- RegionOrder returns true at every region and every integer (the card: the variables that it lists hold what the program text lays). Conditions: none of its own. -/
import Derived.Test.YtembmegllpkmfaaDoorCards
import Derived.Test.YtembmegllpkmfaaDoorTie
import Derived.WalkKit
import Derived.ProofKit
import Derived.OpenShut
import Derived.ShutString
import Derived.Test.YtembmegllpkmfaaDoorPatOpen
import Derived.Test.YtembmegllpkmfaaDoorRegOpen
import Derived.Test.YtembmegllpkmfaaDoorRegAwake
import Derived.Test.YtembmegllpkmfaaDoorRegShort
import Derived.Test.YtembmegllpkmfaaDoorRegOrdM
import Derived.Test.YtembmegllpkmfaaDoorRegOrdL
import Derived.Test.YtembmegllpkmfaaDoorLRegionOrder
import Derived.Test.YtembmegllpkmfaaDoorSeatFacts
import Derived.JoinedOf
namespace Go.Proofs.YtembmegllpkmfaaDoor.regionOrder
open Go.ChangeShapes Go.WideShapes Go.ChangeAt Go.RowKit
open Go.ChangeMaps (open_string shut_string)
set_option linter.unusedVariables false

theorem cPlace : (Rows.regionOrderRow.inPlace == Tryd.prog.inPlace 3) = true := by kernel_rfl
theorem cUnf : (Rows.regionOrderRow.unfollowed == Tryd.prog.unfollowed 3) = true := by kernel_rfl
theorem cRec : (Rows.regionOrderRow.recurses == Tryd.prog.recurses 3) = true := by kernel_rfl
theorem cNamed : (Rows.regionOrderRow.named == Tryd.prog.varsNamed 3) = true := by kernel_rfl
theorem cLift : (Rows.regionOrderRow.lifted == Tryd.prog.liftsFinal) = true := by kernel_rfl
theorem closed : joinedFacts Tryd.prog 3 Tryd.f3 Rows.regionOrderSpec Rows.regionOrderRow = true := by
  unfold joinedFacts
  rw [cPlace, cUnf, cRec, cNamed, cLift, seatLaid, seatMaps, seatHeard, seatEnter]
  kernel_rfl
theorem over : Rows.regionOrderRow.holds Tryd.pinned (OpenSpec.ofChange Rows.regionOrderSpec) :=
  OpenClaim.holds_of_wide 3 Tryd.f3 rfl rfl rfl rfl rfl rfl rfl ⟨rfl, rfl, rfl, rfl, rfl⟩ rfl rfl rfl rfl rfl (by kernel_rfl) Tryd.func3 closed
    (of_decide_eq_true (by kernel_rfl)) (by unfold Func.isWrapper; first | (rw [if_pos (by decide +kernel)]; kernel_rfl) | (rw [if_neg (by decide +kernel)]; exact ⟨rfl, rfl⟩))
    (fun os started H enc _ => lifted os started H enc)

theorem pW : (Rows.regionOrderRow.wfByText (OpenSpec.ofChange Rows.regionOrderSpec)) = true := by kernel_rfl
theorem pM : Tryd.pinned.checked.prog.mainIs = some (((true, "3a415054cacd42ada478fc7e7d90c41a015a7e35055444602f45c507c6aaaf32")).1, ((true, "3a415054cacd42ada478fc7e7d90c41a015a7e35055444602f45c507c6aaaf32")).2.toList) := by kernel_rfl
theorem pL : false = Tryd.pinned.checked.prog.looks [] := by kernel_rfl
theorem pF : Tryd.prog.funcNamed Rows.regionOrderRow.func = some 3 := by kernel_rfl
theorem pU : ([27, 3].all fun u => !Tryd.prog.wantsStandIn u) = true := by kernel_rfl
theorem pG : false = Rows.regionOrderRow.goesBy Tryd.pinned.checked.prog := by kernel_rfl
theorem pN : ∀ f fn, Tryd.pinned.checked.prog.funcNamed Rows.regionOrderRow.func = some f → Tryd.pinned.checked.prog.funcs[f]? = some fn → false = Tryd.pinned.checked.prog.looks [] ∧ ∀ (j : Nat) t, fn.params[j]? = some t → Tryd.pinned.checked.prog.wantsStandIn t = false :=
    fun f fn hf hfn => by
      obtain rfl : f = 3 := Option.some.inj (pF.symm.trans hf) |>.symm
      obtain rfl : fn = Tryd.f3 := (Option.some.inj (Tryd.func3.symm.trans hfn)).symm
      exact ⟨pL, fun j t ht => by
        rw [Tryd.params3] at ht
        have hm : t ∈ [27, 3] := by simpa using Array.mem_of_getElem? ht
        exact (show Tryd.prog.wantsStandIn t = false by simpa using List.all_eq_true.1 pU t hm)⟩

theorem proved : Rows.RegionOrderCardSaid :=
  Claim7.holds_tied_plain_at .later [] [.data, .pinned] true (true, "3a415054cacd42ada478fc7e7d90c41a015a7e35055444602f45c507c6aaaf32") false over (fun _ h => by cases h) pW (fun _ h => by cases h) regionOrder_row_tie rfl ⟨rfl, rfl⟩ pM rfl
    pN pG
#print axioms proved
end Go.Proofs.YtembmegllpkmfaaDoor.regionOrder
