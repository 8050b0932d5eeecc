/- The contracts of Compare, Under, long, awake. -/
import Derived.Test.YtihboibebhokbaaDoorPathFn3
namespace Go.Proofs.YtihboibebhokbaaDoor
open Go.RowKit

def Gives2 (w : World) (x : Int) (n : Nat) (e : Ending) (w' : World) : Prop := e = .returned (.tuple #[.int .i64 x, .int .i64 (n : Int)]) ∧ Drew w w'
def GivesB2 (w : World) (x : Bool) (n : Nat) (e : Ending) (w' : World) : Prop := e = .returned (.tuple #[.bool x, .int .i64 (n : Int)]) ∧ Drew w w'
def cmpVal (a b : List UInt8) : Int := if Pm.valid a && Pm.valid b then Pm.ord a b else 0
def cmpErr (a b : List UInt8) : Nat := if Pm.valid a && Pm.valid b then 0 else 20

def underErr (d p : List UInt8) : Nat := if Pm.depth d ≠ 0 ∧ Pm.valid p = true then 0 else 20
def underVal (d p : List UInt8) : Bool := decide (Pm.depth d ≠ 0 ∧ Pm.valid p = true) && Pm.under d p

theorem cval : cmpVal [47, 47, 97, 47, 98] [47, 47, 97, 43, 47, 98] = -1 := by decide +kernel
theorem cerr : cmpErr [47, 47, 97, 47, 98] [47, 47, 97, 43, 47, 98] = 0 := by decide +kernel
theorem val1 : Pm.valid [47, 47, 97, 47, 98, 46, 112, 115, 100] = true := by decide +kernel
theorem val2 : Pm.valid [47, 47, 97] = false := by decide +kernel
end Go.Proofs.YtihboibebhokbaaDoor
