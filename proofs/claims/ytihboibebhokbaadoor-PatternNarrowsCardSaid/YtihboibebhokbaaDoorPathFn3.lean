/- The contracts of order, Compare, Under, long, awake. -/
import Derived.Test.YtihboibebhokbaaDoorPathFn2
import Derived.Lib.Small
namespace Go.Proofs.YtihboibebhokbaaDoor
open Go.RowKit

theorem quiet_add_left {P : Program} {f : FuncId} {args : Array Value} {w : World} {a n : Nat} {v : Value}
    (h : Calls P f args (w.drewN (a + n)) fun e w' => e = .returned v ∧ w.drewN (a + n) = w') :
    Calls P f args (w.drewN (a + n)) fun e w'' => e = .returned v ∧ ∃ m, w'' = w.drewN (a + m) :=
  h.mono fun _ _ ⟨he, hm⟩ => ⟨he, n, hm.symm⟩
/-- A number, and draws. -/
def GivesI (w : World) (n : Int) (e : Ending) (w' : World) : Prop := e = .returned (.int .i64 n) ∧ Drew w w'
theorem ord_get {a b : List UInt8} {k : Nat} (h1 : k < a.length) (h2 : k < b.length) (h : a.take k = b.take k) :
    Pm.ord a b = if a[k] = b[k] then Pm.ord (a.drop (k + 1)) (b.drop (k + 1)) else if a[k] = 47 then -1 else if b[k] = 47 then 1 else if a[k] < b[k] then -1 else 1 := by
  rw [Pm.ord_drop k a b h (by omega) (by omega), List.drop_eq_getElem_cons h1, List.drop_eq_getElem_cons h2, Pm.ord]
theorem ord_end {a b : List UInt8} (h : a.take (min a.length b.length) = b.take (min a.length b.length)) : Pm.ord a b = Lib.compareInt a.length b.length := by
  rw [Pm.ord_drop _ a b h (by omega) (by omega)]
  unfold Lib.compareInt
  by_cases h1 : a.length < b.length
  · rw [if_pos (by omega), List.drop_of_length_le (by omega)]
    rw [List.drop_eq_getElem_cons (show min a.length b.length < b.length by omega)]
    rfl
  · rw [if_neg (by omega)]
    by_cases h2 : b.length < a.length
    · rw [if_pos (by omega), List.drop_of_length_le (show b.length ≤ min a.length b.length by omega)]
      rw [List.drop_eq_getElem_cons (show min a.length b.length < a.length by omega)]
      rfl
    · rw [if_neg (by omega), List.drop_of_length_le (show b.length ≤ min a.length b.length by omega), List.drop_of_length_le (by omega)]
      rfl

end Go.Proofs.YtihboibebhokbaaDoor
