/- The contracts of layer 1's functions that decode: Uint, Int, Text, Bool, and their references. -/
import Derived.Test.YtbkpmmnkelihgaaScal
import Derived.Test.YtbkpmmnkelihgaaMem
import Derived.BigQuiet
namespace Go.Proofs.Ytbkpmmnkelihgaa
open Go.RowKit

/-- Three numbers, and the world as it was. -/
def Gives3 (w : World) (k : IntKind) (r : Int × Nat × Nat) (e : Ending) (w' : World) : Prop :=
  e = .returned (.tuple #[.int k r.1, .int .i64 (r.2.1 : Int), .int .i64 (r.2.2 : Int)]) ∧ w = w'

def nat3 (r : Nat × Nat × Nat) : Int × Nat × Nat := ((r.1 : Int), r.2)

theorem uint_out (A : Option Addr) (l : List UInt8) (c : Nat) (at_ : Int) (w : World) (hl : (l.length : Int) ≤ 9223372036854775807) (h : at_ < 0 ∨ (l.length : Int) < at_) :
    Calls Try.prog 24 #[.slice A l.length c, .int .i64 at_] w (Gives3 w .u64 (0, 0, 10)) := by
  rcases h with h | h
  · have hd : decide (at_ < 0) = true := by simpa using h
    go_enter Try.func24, Try.ntmps24
    go_wp2
    go_ret3
    exact ⟨rfl, rfl⟩
  · have hn : 0 ≤ at_ := by omega
    go_enter Try.func24, Try.ntmps24
    go_wp2
    go_ret3
    exact ⟨rfl, rfl⟩

theorem uint_end (A : Option Addr) (l : List UInt8) (c : Nat) (k : Nat) (w : World) (h : k = l.length) :
    Calls Try.prog 24 #[.slice A l.length c, .int .i64 k] w (Gives3 w .u64 (0, 0, 11)) := by
  subst h
  go_enter Try.func24, Try.ntmps24
  go_wp2
  all_goals (refine wp_loop_rounds 1 ?_; rw [rounds_succ]; go_wp2; go_ret3; exact ⟨rfl, rfl⟩)

theorem uint_in (g o : Nat) (l : List UInt8) (c : Nat) (k : Nat) (w : World) (hr : ∀ j (h : j < l.length), w.cell? ⟨g, o + j, none⟩ = some (.int .u8 (l[j].toNat : Int))) (hc : l.length ≤ c) (hl : (l.length : Int) ≤ 9223372036854775807) (h : k < l.length) :
    Calls Try.prog 24 #[.slice (some ⟨g, o, none⟩) l.length c, .int .i64 k] w (Gives3 w .u64 (nat3 (Cm.uintRes l k))) := by
  have hn : (0 : Int) ≤ (k : Int) := by omega
  have hk2 : (k : Int) ≤ (l.length : Int) := by omega
  have hck : ¬ c = k := by omega
  obtain ⟨r, hrl⟩ : ∃ r, r = l.drop k := ⟨_, rfl⟩
  have hrn : r.length = l.length - k := by rw [hrl, List.length_drop]
  have hcell : ∀ j (h : j < r.length), w.cell? ⟨g, o + k + j, none⟩ = some (.int .u8 (r[j].toNat : Int)) := by
    intro j hj
    subst hrl
    simp only [List.length_drop] at hj
    rw [Nat.add_assoc, List.getElem_drop]
    exact hr (k + j) (by omega)
  have HU : Hid (Cm.uintRes l k = ((Cm.scan 0 r 0).1, if (Cm.scan 0 r 0).2.2 = 0 then k + (Cm.scan 0 r 0).2.1 else 0, (Cm.scan 0 r 0).2.2)) := by
    show _ = _
    unfold Cm.uintRes
    rw [if_neg (by omega), Int.toNat_natCast, ← hrl]
  have HN := Lib.hid hrn
  have HC := Lib.hid hcell
  have hn3 : (l.length : Int) - k ≤ 9223372036854775807 := by omega
  clear hr hrl hrn hcell
  go_enter Try.func24, Try.ntmps24
  go_wp2
  rw [← HN.out]
  go_loop [4, 21] (fun v i => ∃ j acc : Nat, j ≤ r.length ∧ j ≤ 9 ∧ i = .int .i64 j ∧ v = .int .u64 acc ∧ Hid (acc < 128 ^ j) ∧ Hid (Cm.scan 0 r 0 = Cm.scan j (r.drop j) acc)) (fun _ i => r.length - (intOf i).toNat)
  case atStart => exact ⟨0, 0, by omega, by omega, rfl, rfl, show 0 < 128 ^ 0 by decide, rfl⟩
  case round =>
    obtain ⟨j, acc, hj, hj9, rfl, rfl, hacc, hsc⟩ := hrel
    by_cases hlt : j < r.length
    · have hx0 := HC.out j hlt
      have hds := List.drop_eq_getElem_cons hlt
      obtain ⟨cb, hcb⟩ : ∃ cb, cb = r[j] := ⟨_, rfl⟩
      rw [← hcb] at hx0 hds
      have hb := cb.toNat_lt
      obtain ⟨cn, hcn⟩ : ∃ cn, cn = cb.toNat := ⟨_, rfl⟩
      rw [← hcn] at hx0 hb
      have hx : w.cell? ⟨g, o + k + j, none⟩ = some (.int .u8 (cn : Int)) := hx0
      have hcn1 : (cn : Int) ≤ 255 := by omega
      have hstep : Cm.scan 0 r 0 = if j = 9 ∧ cn ≠ 1 then (0, 0, 12) else if 128 ≤ cn then Cm.scan (j + 1) (r.drop (j + 1)) (acc + cn % 128 * 128 ^ j) else if cn = 0 ∧ 0 < j then (0, 0, 12) else (acc + cn % 128 * 128 ^ j, j + 1, 0) := by
        rw [hsc.out, hds, hcn]
        rfl
      have HS := Lib.hid hstep
      have ha : bits .and .u8 (cn : Int) 127 = ((cn % 128 : Nat) : Int) := and127_u8 hb
      have h128 := and128_u8 hb
      clear hx0 hds hcb hcn hstep hsc
      by_cases h9 : j = 9 ∧ cn ≠ 1
      · obtain ⟨h9, h1⟩ := h9
        have HF : Hid (nat3 (Cm.uintRes l k) = (0, 0, 12)) := by
          show _ = _
          rw [HU.out, HS.out, if_pos ⟨h9, h1⟩]
          rfl
        have t9 : ((j : Int) == 9) = true := by simp; omega
        have t1 : ((cn : Int) != 1) = true := by simp; omega
        clear h9 h1 h128
        go_wp2
        go_ret3
        refine ⟨?_, rfl⟩
        rw [HF.out]
        rfl
      · by_cases hge : 128 ≤ cn
        · rw [if_pos hge] at h128
          have HF : Hid (Cm.scan 0 r 0 = Cm.scan (j + 1) (r.drop (j + 1)) (acc + cn % 128 * 128 ^ j)) := by
            show _ = _
            rw [HS.out, if_neg h9, if_pos hge]
          have t9 : ((j : Int) == 9) = false := by simp; omega
          have hj8 : j ≤ 8 := by omega
          have HO : Hid (bits .or .u64 (acc : Int) (IntKind.u64.wrap ((cn : Int) % 128 * 2 ^ (7 * j))) = ((acc + cn % 128 * 128 ^ j : Nat) : Int)) := by
            have e := or_group (cn % 128) hj9 hacc.out (by omega) (by omega)
            rw [Int.natCast_emod] at e
            exact e
          have HB : Hid (acc + cn % 128 * 128 ^ j < 128 ^ (j + 1)) := by
            show _ < _
            rw [Nat.pow_succ]
            have h1 : cn % 128 * 128 ^ j ≤ 127 * 128 ^ j := Nat.mul_le_mul_right _ (by omega)
            have h2 := hacc.out
            omega
          clear h9 hge
          go_wp2
          go_round
          case rel => exact ⟨j + 1, _, by omega, by omega, by go_num, by rw [HO.out], HB, HF⟩
          case measure => simp [intOf]; omega
        · rw [if_neg hge] at h128
          have t128 : (bits .and .u8 (cn : Int) 128 != 0) = false := by rw [h128]; rfl
          by_cases h0 : cn = 0 ∧ 0 < j
          · obtain ⟨rfl, h0⟩ := h0
            have HF : Hid (nat3 (Cm.uintRes l k) = (0, 0, 12)) := by
              show _ = _
              rw [HU.out, HS.out, if_neg h9, if_neg hge, if_pos ⟨rfl, h0⟩]
              rfl
            have t9 : ((j : Int) == 9) = false := by simp; omega
            clear h9 hge h128
            go_wp2
            go_ret3
            refine ⟨?_, rfl⟩
            rw [HF.out]
            rfl
          · have HF : Hid (nat3 (Cm.uintRes l k) = (((acc + cn % 128 * 128 ^ j : Nat) : Int), k + (j + 1), 0)) := by
              show _ = _
              rw [HU.out, HS.out, if_neg h9, if_neg hge, if_neg h0]
              rfl
            have HO : Hid (bits .or .u64 (acc : Int) (IntKind.u64.wrap ((cn : Int) % 128 * 2 ^ (7 * j))) = ((acc + cn % 128 * 128 ^ j : Nat) : Int)) := by
              have e := or_group (cn % 128) hj9 hacc.out (by omega) (by omega)
              rw [Int.natCast_emod] at e
              exact e
            have hkj : (k : Int) + j + 1 ≤ 9223372036854775807 := by
              have := HN.out
              omega
            by_cases h99 : j = 9
            · have t9 : ((j : Int) == 9) = true := by simp; omega
              have t1 : ((cn : Int) != 1) = false := by simp; omega
              have t0 : ((cn : Int) == 0) = false := by simp; omega
              clear h9 hge h128 h0 h99
              go_wp2
              go_ret3
              refine ⟨?_, rfl⟩
              rw [HF.out]
              show Ending.returned (.tuple #[.int .u64 _, _, _]) = _
              rw [HO.out]
              rfl
            · have t9 : ((j : Int) == 9) = false := by simp; omega
              by_cases t00 : cn = 0
              · have t0 : ((cn : Int) == 0) = true := by simp; omega
                have tj : ¬ (0 < j) := by omega
                clear h9 hge h128 h0 h99 t00
                go_wp2
                go_ret3
                refine ⟨?_, rfl⟩
                rw [HF.out]
                show Ending.returned (.tuple #[.int .u64 _, _, _]) = _
                rw [HO.out]
                rfl
              · have t0 : ((cn : Int) == 0) = false := by simp; omega
                clear h9 hge h128 h0 h99 t00
                go_wp2
                go_ret3
                refine ⟨?_, rfl⟩
                rw [HF.out]
                show Ending.returned (.tuple #[.int .u64 _, _, _]) = _
                rw [HO.out]
                rfl
    · have hje : r.drop j = [] := List.drop_eq_nil_of_le (by omega)
      have HF : Hid (nat3 (Cm.uintRes l k) = (0, 0, 11)) := by
        show _ = _
        rw [HU.out, hsc.out, hje]
        rfl
      clear hje hsc
      go_wp2
      go_ret3
      refine ⟨?_, rfl⟩
      rw [HF.out]
      rfl

/-- The program's Uint: at every offset of every slice of bytes. -/
theorem uint_any (A : Option Addr) (l : List UInt8) (c : Nat) (at_ : Int) (w : World) (hr : Rd w w.heap.size A l) (hc : l.length ≤ c) (hl : (l.length : Int) ≤ 9223372036854775807) :
    Calls Try.prog 24 #[.slice A l.length c, .int .i64 at_] w (Gives3 w .u64 (nat3 (Cm.uintRes l at_))) := by
  by_cases h : at_ < 0 ∨ (l.length : Int) < at_
  · have e : nat3 (Cm.uintRes l at_) = (0, 0, 10) := by unfold Cm.uintRes; rw [if_pos h]; rfl
    rw [e]
    exact uint_out A l c at_ w hl h
  · obtain ⟨k, rfl⟩ := Int.eq_ofNat_of_zero_le (show 0 ≤ at_ by omega)
    by_cases hk : k = l.length
    · have e : nat3 (Cm.uintRes l k) = (0, 0, 11) := by
        unfold Cm.uintRes
        rw [if_neg h, Int.toNat_natCast, hk, List.drop_length]
        rfl
      rw [e]
      exact uint_end A l c k w hk
    · obtain ⟨g, o, rfl, _, hcell⟩ := hr.cell (by omega)
      exact uint_in g o l c k w hcell hc hl (by omega)

end Go.Proofs.Ytbkpmmnkelihgaa
