/- The contracts of layer 1's functions on numbers alone: fold, unfold, their references, the number of groups. -/
import Derived.Test.YtbkpmmnkelihgaaRows
import Derived.Test.YtbkpmmnkelihgaaMath
import Derived.Test.YtbkpmmnkelihgaaBits
import Derived.WalkKit
import Derived.WalkSpells
import Derived.WalkLawsBesides
import Derived.Lib.Hide
import Derived.Laws.MathBits
namespace Go.Proofs.Ytbkpmmnkelihgaa
open Go.RowKit

theorem ret_of {k : IntKind} {a b : Int} (h : a = b) : Ending.returned (.int k a) = .returned (.int k b) := by rw [h]

theorem fold_any (n : Int) (w : World) (h : -9223372036854775808 ≤ n) (h' : n ≤ 9223372036854775807) :
    Calls Try.prog 35 #[.int .i64 n] w fun e w' => e = .returned (.int .u64 (Cm.foldI n)) ∧ w = w' := by
  go_enter Try.func35, Try.ntmps35
  go_wp2
  go_ret
  exact ⟨ret_of (fold_bits n h h'), rfl⟩

theorem unfold_any (u : Nat) (w : World) (h : (u : Int) < 18446744073709551616) :
    Calls Try.prog 37 #[.int .u64 u] w fun e w' => e = .returned (.int .i64 (Cm.unfoldN u)) ∧ w = w' := by
  go_enter Try.func37, Try.ntmps37
  go_wp2
  go_ret
  exact ⟨ret_of (unfold_bits u h), rfl⟩

theorem rfold_any (n : Int) (w : World) (h : -9223372036854775808 ≤ n) (h' : n ≤ 9223372036854775807) :
    Calls Try.prog 19 #[.int .i64 n] w fun e w' => e = .returned (.int .u64 (Cm.foldI n)) ∧ w = w' := by
  by_cases hn : 0 ≤ n
  · go_enter Try.func19, Try.ntmps19
    go_wp2
    go_ret
    exact ⟨ret_of (by unfold Cm.foldI; rw [if_pos hn]; omega), rfl⟩
  · have hn' : n < 0 := by omega
    go_enter Try.func19, Try.ntmps19
    go_wp2
    go_ret
    exact ⟨ret_of (by unfold Cm.foldI; rw [if_neg (by omega)]; omega), rfl⟩

set_option maxRecDepth 100000 in
theorem runfold_any (u : Nat) (w : World) (h : (u : Int) < 18446744073709551616) :
    Calls Try.prog 38 #[.int .u64 u] w fun e w' => e = .returned (.int .i64 (Cm.unfoldN u)) ∧ w = w' := by
  have hf : Cm.unfoldN u = if u % 2 = 0 then ((u / 2 : Nat) : Int) else -((u / 2 : Nat) : Int) - 1 := rfl
  have H := Lib.hid hf
  clear hf
  have hb : (u : Int) / 2 ≤ 9223372036854775807 := by omega
  have hb0 : 0 ≤ (u : Int) / 2 := by omega
  by_cases h2 : u % 2 = 0
  · have h3 : ((u : Int) % 2 == 0) = true := by simp; omega
    have H2 := Lib.hid h2
    have hu0 : 0 ≤ (u : Int) := by omega
    have hu1 : (u : Int) ≤ 18446744073709551615 := by omega
    clear h2 h
    go_enter Try.func38, Try.ntmps38
    go_wp2
    go_ret
    exact ⟨ret_of (by rw [H.out, if_pos H2.out]; omega), rfl⟩
  · have h3 : ((u : Int) % 2 == 0) = false := by simp; omega
    have H2 := Lib.hid h2
    have hu0 : 0 ≤ (u : Int) := by omega
    have hu1 : (u : Int) ≤ 18446744073709551615 := by omega
    clear h2 h
    go_enter Try.func38, Try.ntmps38
    go_wp2
    go_ret
    exact ⟨ret_of (by rw [H.out, if_neg H2.out]; omega), rfl⟩
end Go.Proofs.Ytbkpmmnkelihgaa
