/- The number of groups that the program makes room for lies between 0 and 64: all that is needed of it. -/
import Derived.Test.YtbkpmmnkelihgaaScal
namespace Go.Proofs.Ytbkpmmnkelihgaa
open Go.RowKit

theorem wpList_index_tab {P : Program} {w : World} {ops : Array Oper} {rest : List Oper} {o : Oper} {a : Act} {Q : Exit → Act → World → Prop} (hgd : o.guard = none) (t : TypeId) (S : ByteArray) (ix : Operand)
    (ho : o.op = .index t (.const (.string S)) ix) (k : IntKind) (i : Int) (hi : a.eval ix = .int k i) (ht : P.underlying t = some .string) (h0 : 0 ≤ i) (h1 : i ≤ 255)
    (hs : S.size = 256) (hall : S.data.toList.all (fun b => decide (b.toNat ≤ 8)) = true)
    (h : ∀ r : Nat, r ≤ 8 → wpList P ops Q rest (a.put o.dst (.int .u8 r)) w) : wpList P ops Q (o :: rest) a w := by
  refine wpList_plain hgd fun K hK => ?_
  have hlt : i.toNat < S.size := by omega
  have hin : 0 ≤ i ∧ i < (S.size : Int) := by omega
  have hrun := run_index_string (P := P) w t S k i ht
  rw [dif_pos hin] at hrun
  have hr : (S[i.toNat]'hlt).toNat ≤ 8 := by
    have hm : S[i.toNat]'hlt ∈ S.data.toList := Array.mem_toList_iff.2 (Array.getElem_mem _)
    have := List.all_eq_true.1 hall _ hm
    simpa using this
  unfold Oper.wp execOp
  have hc : a.eval (.const (.string S)) = .string S := rfl
  simp only [ho, hc, hi, Sem.run_bind, hrun, Result.andThen_ok]
  exact hK _ _ (h _ hr)

def LenP (w : World) (e : Ending) (w' : World) : Prop := ∃ r : Nat, r ≤ 64 ∧ e = .returned (.int .i64 r) ∧ w = w'

set_option maxRecDepth 1000000 in
set_option maxHeartbeats 1000000 in
theorem len64_any (x : Int) (w : World) (h0 : 0 ≤ x) (h1 : x ≤ 18446744073709551615) :
    Calls Try.prog 39 #[.int .u64 x] w (LenP w) := by
  go_enter Try.func39, Try.ntmps39
  go_wp2_with (refine wpList_index_tab rfl _ _ _ rfl _ _ rfl Try.underlying9 (by omega) (by omega) (by decide +kernel) (by decide +kernel) ?_; intro r hr)
  all_goals go_ret
  all_goals first
    | exact ⟨r, by omega, ret_of (by omega), rfl⟩
    | exact ⟨8 + r, by omega, ret_of (by omega), rfl⟩
    | exact ⟨16 + r, by omega, ret_of (by omega), rfl⟩
    | exact ⟨24 + r, by omega, ret_of (by omega), rfl⟩
    | exact ⟨32 + r, by omega, ret_of (by omega), rfl⟩
    | exact ⟨40 + r, by omega, ret_of (by omega), rfl⟩
    | exact ⟨48 + r, by omega, ret_of (by omega), rfl⟩
    | exact ⟨56 + r, by omega, ret_of (by omega), rfl⟩

theorem or_one_bd (x : Int) (h0 : 0 ≤ x) (h1 : x ≤ 18446744073709551615) : 0 ≤ bits .or .u64 x 1 ∧ bits .or .u64 x 1 ≤ 18446744073709551615 := by
  obtain ⟨n, rfl⟩ := Int.eq_ofNat_of_zero_le h0
  have e := bits_or_u64_nat n 1 (by omega) (by omega)
  have e1 : ((1 : Nat) : Int) = 1 := rfl
  rw [e1] at e
  rw [e]
  have hx : n ||| 1 < 2 ^ 64 := Nat.or_lt_two_pow (by omega) (by omega)
  omega

def SizeP (w : World) (e : Ending) (w' : World) : Prop := ∃ r : Nat, r ≤ 10 ∧ e = .returned (.int .i64 r) ∧ w = w'

theorem size_any (x : Int) (w : World) (h0 : 0 ≤ x) (h1 : x ≤ 18446744073709551615) :
    Calls Try.prog 34 #[.int .u64 x] w (SizeP w) := by
  have hb := or_one_bd x h0 h1
  go_enter Try.func34, Try.ntmps34
  go_wp2_with fail
  with_reducible refine (len64_any _ _ hb.1 hb.2).mono ?_
  rintro e w' ⟨r, hr, rfl, rfl⟩
  go_wp2
  go_ret
  exact ⟨(r + 6) / 7, by omega, ret_of (by omega), rfl⟩
end Go.Proofs.Ytbkpmmnkelihgaa
