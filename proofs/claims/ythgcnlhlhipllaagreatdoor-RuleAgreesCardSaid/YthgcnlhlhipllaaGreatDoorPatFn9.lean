/- The contract of the reference's Fill. -/
import Derived.Test.YthgcnlhlhipllaaGreatDoorPatFn8
import Derived.Test.YthgcnlhlhipllaaGreatDoorPathOwnAll
namespace Go.Proofs.YthgcnlhlhipllaaGreatDoor
open Go.RowKit

theorem lib_join_len (b : Nat) : ∀ (l : List (List UInt8)), (∀ x ∈ l, x.length ≤ b) → (Lib.join l [47]).length ≤ l.length * (b + 1)
  | [], _ => by simp [Lib.join_nil]
  | [x], h => by
    have := h x (by simp)
    rw [Lib.join_one]
    simp
    omega
  | x :: y :: r, h => by
    have h1 := h x (by simp)
    have h2 := lib_join_len b (y :: r) fun z hz => h z (by simp [hz])
    rw [Pm.lib_join_cons]
    simp only [List.length_cons, List.length_append, Nat.succ_mul] at h2 ⊢
    omega
/-- What Fill hands back. -/
def fillBoth (p : Pt.Pat) (caps : List (List UInt8)) : List UInt8 × Nat :=
  if Pt.check p = 0 then (if caps.length = Pt.wilds p then (match Pt.fillComps p caps with | none => ([], 32) | some l => (Pm.join l, 0)) else ([], 32)) else ([], Pt.check p)
theorem fill_both (p : Pt.Pat) (caps : List (List UInt8)) : fillBoth p caps = (Pt.filled p caps, Pt.fillErr p caps) := by
  unfold fillBoth Pt.filled Pt.fillErr
  by_cases h0 : Pt.check p = 0
  · rw [if_pos h0, if_pos h0]
    by_cases h1 : caps.length = Pt.wilds p
    · rw [if_pos h1, if_pos h1]
      cases Pt.fillComps p caps with
      | none => simp
      | some l => simp
    · rw [if_neg h1, if_neg h1]; simp
  · rw [if_neg h0, if_neg h0, if_neg h0]
theorem fill_step {ps cs : List (List UInt8)} {k : Nat} (h : k < ps.length) : Pt.fillOf (ps.drop k) cs = match Pt.star ps[k] with
    | none => (Pt.fillOf (ps.drop (k + 1)) cs).map fun r => ps[k] :: r
    | some s => match cs with
      | [] => none
      | y :: cs => if Pm.comp y then (Pt.fillOf (ps.drop (k + 1)) cs).map fun r => (y ++ s) :: r else none := by
  rw [List.drop_eq_getElem_cons h, Pt.fillOf]
  cases Pt.star ps[k] <;> rfl
theorem stars_drop {ps : List (List UInt8)} {k : Nat} (h : k < ps.length) : Pt.stars (ps.drop k) = Pt.stars (ps.drop (k + 1)) + if (Pt.star ps[k]).isSome then 1 else 0 := by
  rw [List.drop_eq_getElem_cons h, Pt.stars_cons]
  rfl

theorem star_len {l u : List UInt8} (h : Pt.star l = some u) : u.length ≤ l.length := by
  rw [(Pt.star_some.1 h).1]
  simp

end Go.Proofs.YthgcnlhlhipllaaGreatDoor
