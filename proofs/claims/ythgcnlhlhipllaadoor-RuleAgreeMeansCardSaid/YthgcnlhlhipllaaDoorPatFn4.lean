/- The contracts of small, of the reference's Kinds, wildcards, Same. -/
import Derived.Test.YthgcnlhlhipllaaDoorPatFn3
namespace Go.Proofs.YthgcnlhlhipllaaDoor
open Go.RowKit

/-- A bool, and new memory at most. -/
def GivesBB (w : World) (v : Bool) (e : Ending) (w' : World) : Prop := e = .returned (.bool v) ∧ Below w.heap.size w w'
def GivesNB (w : World) (n : Nat) (b : Bool) (e : Ending) (w' : World) : Prop := e = .returned (.tuple #[.int .i64 (n : Int), .bool b]) ∧ Below w.heap.size w w'
theorem stars_take {l : List (List UInt8)} {k : Nat} (h : k < l.length) : Pt.stars (l.take (k + 1)) = Pt.stars (l.take k) + if (Pt.star l[k]).isSome then 1 else 0 := by
  unfold Pt.stars
  rw [List.take_succ_eq_append_getElem h, List.filter_append, List.length_append]
  show _ = (List.filter Pt.isStar (List.take k l)).length + if Pt.isStar l[k] = true then 1 else 0
  by_cases hs : Pt.isStar l[k] = true
  · rw [List.filter_cons_of_pos hs, if_pos hs]; rfl
  · rw [List.filter_cons_of_neg hs, if_neg hs]; rfl
theorem stars_le (l : List (List UInt8)) : Pt.stars l ≤ l.length := List.length_filter_le _ _
end Go.Proofs.YthgcnlhlhipllaaDoor
