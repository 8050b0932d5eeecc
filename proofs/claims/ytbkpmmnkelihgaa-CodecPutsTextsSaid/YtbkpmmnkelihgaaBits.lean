/- What the bits of layer 1's functions come to as numbers: signs folded in and out, groups of seven bits. -/
import Derived.Test.YtbkpmmnkelihgaaMath
import Derived.Laws.Bits64b
import Derived.Laws.BitsLemmas
import Derived.Laws.Bits128
import Derived.Laws.DeepNot64
import Derived.WalkKit
namespace Go.Proofs.Ytbkpmmnkelihgaa
open Go.RowKit

theorem xor_ones {a : Nat} (h : a < 18446744073709551616) : a ^^^ 18446744073709551615 = 18446744073709551615 - a := by
  have h1 : (BitVec.ofNat 64 a ^^^ BitVec.allOnes 64).toNat = (~~~(BitVec.ofNat 64 a)).toNat := by rw [BitVec.xor_allOnes]
  rw [BitVec.toNat_xor, BitVec.toNat_not, BitVec.toNat_allOnes, BitVec.toNat_ofNat, Nat.mod_eq_of_lt (by omega)] at h1
  simpa using h1

theorem xor_u64_ones {a : Int} (h0 : 0 ≤ a) (h : a < 18446744073709551616) : bits .xor .u64 a 18446744073709551615 = 18446744073709551615 - a := by
  obtain ⟨n, rfl⟩ := Int.eq_ofNat_of_zero_le h0
  have e := bits_xor_u64_nat n 18446744073709551615 (by omega) (by omega)
  have e2 : ((18446744073709551615 : Nat) : Int) = 18446744073709551615 := rfl
  rw [e2] at e
  rw [e, xor_ones (by omega)]
  omega
theorem xor_u64_zero {a : Int} (h0 : 0 ≤ a) (h : a < 18446744073709551616) : bits .xor .u64 a 0 = a := by
  obtain ⟨n, rfl⟩ := Int.eq_ofNat_of_zero_le h0
  have e := bits_xor_u64_nat n 0 (by omega) (by omega)
  rw [Nat.xor_zero] at e
  exact e

theorem fold_bits (n : Int) (h : -9223372036854775808 ≤ n) (h' : n ≤ 9223372036854775807) :
    bits .xor .u64 (IntKind.u64.wrap (wrap64 (n * 2))) (IntKind.u64.wrap (n / 9223372036854775808)) = (Cm.foldI n : Int) := by
  rw [IntKind.wrap_u64, IntKind.wrap_u64]
  unfold wrap64
  by_cases hn : 0 ≤ n
  · have e1 : n / 9223372036854775808 % 18446744073709551616 = 0 := by omega
    have e2 : ((n * 2 + 9223372036854775808) % 18446744073709551616 - 9223372036854775808) % 18446744073709551616 = n * 2 := by omega
    rw [e1, e2, xor_u64_zero (by omega) (by omega)]
    unfold Cm.foldI
    rw [if_pos hn]
    omega
  · have e1 : n / 9223372036854775808 % 18446744073709551616 = 18446744073709551615 := by omega
    have e2 : ((n * 2 + 9223372036854775808) % 18446744073709551616 - 9223372036854775808) % 18446744073709551616 = n * 2 + 18446744073709551616 := by omega
    rw [e1, e2, xor_u64_ones (by omega) (by omega)]
    unfold Cm.foldI
    rw [if_neg hn]
    omega

theorem and_u64_one {u : Nat} (h : (u : Int) < 18446744073709551616) : bits .and .u64 (u : Int) 1 = ((u % 2 : Nat) : Int) := by
  have e := bits_and_u64_nat u 1 (by omega) (by omega)
  rw [Nat.and_one_is_mod] at e
  exact e

theorem xor_i64_zero {a : Nat} (h : a < 9223372036854775808) : bits .xor .i64 (a : Int) 0 = (a : Int) := by
  show IntKind.i64.wrap ((BitVec.ofInt 64 (a : Int) ^^^ BitVec.ofInt 64 0).toNat : Int) = _
  have h1 : BitVec.ofInt 64 0 = 0#64 := by decide
  rw [h1, BitVec.xor_zero, BitVec.ofInt_natCast, BitVec.toNat_ofNat, Nat.mod_eq_of_lt (by omega)]
  simp [IntKind.wrap, IntKind.bits, IntKind.signed]
  omega
theorem xor_i64_ones {a : Nat} (h : a < 9223372036854775808) : bits .xor .i64 (a : Int) (-1) = -1 - (a : Int) := by
  rw [← i64_not a h]
  show IntKind.i64.wrap ((BitVec.ofInt 64 (a : Int) ^^^ BitVec.ofInt 64 (-1)).toNat : Int) = IntKind.i64.wrap ((BitVec.ofInt 64 (-1) ^^^ BitVec.ofInt 64 (a : Int)).toNat : Int)
  rw [BitVec.xor_comm]

theorem unfold_bits (u : Nat) (h : (u : Int) < 18446744073709551616) :
    bits .xor .i64 ((u : Int) / 2) (wrap64 (-wrap64 (bits .and .u64 (u : Int) 1))) = Cm.unfoldN u := by
  rw [and_u64_one h]
  have e : (u : Int) / 2 = ((u / 2 : Nat) : Int) := by omega
  rw [e]
  unfold Cm.unfoldN
  by_cases h2 : u % 2 = 0
  · rw [if_pos h2, h2]
    have e1 : wrap64 (-wrap64 ((0 : Nat) : Int)) = 0 := by unfold wrap64; omega
    rw [e1, xor_i64_zero (by omega)]
  · rw [if_neg h2]
    have e0 : u % 2 = 1 := by omega
    have e1 : wrap64 (-wrap64 ((1 : Nat) : Int)) = -1 := by unfold wrap64; omega
    rw [e0, e1, xor_i64_ones (by omega)]
    omega

/-- A group of seven bits of a byte, above all bits that there are. -/
theorem or_group {acc i : Nat} (x : Nat) (hi : i ≤ 9) (ha : acc < 128 ^ i) (hx : x < 128) (h9 : i = 9 → x ≤ 1) :
    bits .or .u64 (acc : Int) (IntKind.u64.wrap ((x : Int) * 2 ^ (7 * i))) = ((acc + x * 128 ^ i : Nat) : Int) := by
  have e128 : (128 : Nat) ^ i = 2 ^ (7 * i) := by
    have e : (128 : Nat) = 2 ^ 7 := by decide
    rw [e, ← Nat.pow_mul]
  have hp := Cm.pow_le_of hi
  have hpos : 0 < 128 ^ i := Nat.pow_pos (by omega)
  have hb : x * 128 ^ i < Cm.big := by
    by_cases h8 : i ≤ 8
    · have h2 := hp.2 h8
      have h3 : x * 128 ^ i ≤ 128 * 128 ^ i := Nat.mul_le_mul_right _ (by omega)
      rw [Nat.mul_comm 128] at h3
      omega
    · have h3 : x * 128 ^ i ≤ 1 * 128 ^ i := Nat.mul_le_mul_right _ (h9 (by omega))
      omega
  unfold Cm.big at hb hp
  have hc : ((x : Int) * 2 ^ (7 * i)) = ((x * 128 ^ i : Nat) : Int) := by
    rw [e128]
    simp
  rw [hc, IntKind.wrap_u64]
  have hm : ((x * 128 ^ i : Nat) : Int) % 18446744073709551616 = ((x * 128 ^ i : Nat) : Int) := by omega
  rw [hm, bits_or_u64_nat _ _ (by omega) hb]
  have ho := Nat.two_pow_add_eq_or_of_lt (a := x) (show acc < 2 ^ (7 * i) by rw [← e128]; exact ha)
  rw [← e128] at ho
  rw [Nat.or_comm, Nat.mul_comm x, ← ho, Nat.add_comm]

theorem and127_u8 {c : Nat} (h : c < 256) : bits .and .u8 (c : Int) 127 = ((c % 128 : Nat) : Int) := by
  have := bits_mask .u8 8 (by decide) wraps_u8 7 (by decide) (c : Int) (by omega) (by omega)
  have e : ((2 : Int) ^ 7 - 1) = 127 := by decide
  rw [e] at this
  rw [this]
  omega
theorem and128_u8 {c : Nat} (h : c < 256) : bits .and .u8 (c : Int) 128 = if 128 ≤ c then 128 else 0 := by
  have all : ∀ j : Fin 256, bits .and .u8 (j.val : Int) 128 = if 128 ≤ j.val then 128 else 0 := by decide +kernel
  exact all ⟨c, h⟩
theorem and127_u64 {v : Nat} (h : v < 18446744073709551616) : bits .and .u64 (v : Int) 127 = ((v % 128 : Nat) : Int) := by
  have e := bits_and_u64_nat v 127 h (by omega)
  have e2 : v &&& 127 = v % 128 := Nat.and_two_pow_sub_one_eq_mod v 7
  rw [e2] at e
  exact e
theorem or128_u8 {x : Nat} (h : x < 128) : bits .or .u8 (x : Int) 128 = ((x + 128 : Nat) : Int) := by
  have all : ∀ j : Fin 128, bits .or .u8 (j.val : Int) 128 = ((j.val + 128 : Nat) : Int) := by decide +kernel
  exact all ⟨x, h⟩
end Go.Proofs.Ytbkpmmnkelihgaa
