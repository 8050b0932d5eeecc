/- The contracts of the small functions of layer 2: nameByte, Component, the reference's Component, long. -/
import Derived.Test.YtihboibebhokbaaDoorPathMath
import Derived.Test.YtihboibebhokbaaDoorShelf
import Derived.Test.YtihboibebhokbaaDoorRows
import Derived.WalkKit
import Derived.Lib.Hide
import Derived.WalkLawsBesides
import Derived.WalkSpells
import Derived.Below
import Derived.Deep.QuietTactic
import Derived.BigQuiet
import Derived.Deep.Light
namespace Go.Proofs.YtihboibebhokbaaDoor
open Go.RowKit

theorem ret_int {k : IntKind} {a b : Int} (h : a = b) : Ending.returned (.int k a) = .returned (.int k b) := by rw [h]
theorem ret_bool {a b : Bool} (h : a = b) : Ending.returned (.bool a) = .returned (.bool b) := by rw [h]

theorem nameByte_any (c : UInt8) (w : World) : Calls Tryd.prog 104 #[.int .u8 (c.toNat : Int)] w fun e w' => e = .returned (.bool (Pm.nb c)) ∧ w = w' := by
  have HB := Lib.hid (Pm.nb_nat c)
  have hc := c.toNat_lt
  generalize Pm.nb c = b at HB
  generalize c.toNat = n at HB hc
  go_enter Tryd.func104, Tryd.ntmps104
  go_wp2
  all_goals
    go_ret
    refine ⟨ret_bool ?_, rfl⟩
    rw [HB.out]
    go_light
    try simp only [beq_iff_eq, beq_eq_false_iff_ne] at *
    first | (rw [eq_comm, decide_eq_true_eq]; omega) | (rw [eq_comm, decide_eq_false_iff_not]; omega)

/-- What Component asks of the bytes from the place k on. -/
theorem comp_eq (s : ByteArray) : Pm.comp s.data.toList = (!s.toList.isEmpty && (s.data.toList.headD 0 != 46) && s.data.toList.all Pm.nb) := by
  rw [Lib.toList_data]
  cases s.data.toList with
  | nil => rfl
  | cons c r => simp [Pm.comp]
theorem all_drop {l : List UInt8} {k : Nat} (h : k < l.length) : (l.drop k).all Pm.nb = (Pm.nb l[k] && (l.drop (k + 1)).all Pm.nb) := by
  rw [List.drop_eq_getElem_cons h, List.all_cons]
theorem list_get (s : ByteArray) (k : Nat) (h : k < s.size) : s.data.toList[k]'(by rw [← Lib.size_eq]; exact h) = s[k] := rfl

theorem head_get : ∀ (l : List UInt8) (h : 0 < l.length), l.headD 0 = l[0]
  | _ :: _, _ => rfl
theorem comp_any (s : ByteArray) (w : World) (hs : s.size ≤ maxLen) : Calls Tryd.prog 89 #[.string s] w fun e w' => e = .returned (.bool (Pm.comp s.data.toList)) ∧ w = w' := by
  unfold maxLen at hs
  have HC := Lib.hid (comp_eq s)
  generalize Pm.comp s.data.toList = b at HC
  by_cases h0 : s.toList = []
  · have h0' : (!s.toList.isEmpty) = false := by rw [h0]; rfl
    have hb : b = false := by rw [HC.out, h0']; rfl
    subst hb
    go_enter Tryd.func89, Tryd.ntmps89
    go_wp2
    go_ret
    exact ⟨rfl, rfl⟩
  · have h0' : (!s.toList.isEmpty) = true := by
      cases h : s.toList with
      | nil => exact absurd h h0
      | cons _ _ => rfl
    have hp : 0 < s.size := by
      rw [Lib.size_eq, ← Lib.toList_data]
      exact List.length_pos_iff.2 h0
    have hh : s.data.toList.headD 0 = s[0] := by
      rw [← list_get s 0 hp]
      exact head_get _ _
    rw [h0', hh] at HC
    have h0'' : s.toList.isEmpty = false := by simpa using h0'
    by_cases h46 : s[0] = 46
    · have hb : b = false := by rw [HC.out, h46]; rfl
      subst hb
      have t1 : ((s[0].toNat : Int) == 46) = true := by rw [h46]; rfl
      have H46 := Lib.hid h46
      clear h46
      go_enter Tryd.func89, Tryd.ntmps89
      go_wp2
      go_ret
      exact ⟨rfl, rfl⟩
    · have hb : b = s.data.toList.all Pm.nb := by
        rw [HC.out]
        have : (s[0] != 46) = true := by simpa using h46
        rw [this]; rfl
      have t1 : ((s[0].toNat : Int) == 46) = false := by
        rw [beq_eq_false_iff_ne]
        intro h
        exact h46 (UInt8.toNat_inj.1 (by have : (46 : UInt8).toNat = 46 := rfl; omega))
      clear HC
      have HB := Lib.hid hb
      clear hb h46
      go_enter Tryd.func89, Tryd.ntmps89
      go_wp2
      go_loop [13] (fun i => ∃ k : Nat, k ≤ s.size ∧ i = .int .i64 k ∧ (s.data.toList.drop k).all Pm.nb = b) (fun i => s.size - (intOf i).toNat)
      case atStart => exact ⟨0, Nat.zero_le _, rfl, HB.out.symm⟩
      case round =>
        obtain ⟨k, hk, rfl, hall⟩ := hrel
        have HA := Lib.hid hall
        clear hall
        by_cases hlt : k < s.size
        · have hl : k < s.data.toList.length := by rw [← Lib.size_eq]; exact hlt
          have hd := all_drop hl
          rw [list_get s k hlt] at hd
          have HD := Lib.hid hd
          clear hd
          cases hn : Pm.nb s[k] with
          | true =>
            go_wp2_with fail
            with_reducible refine (nameByte_any _ _).mono ?_
            rintro e w' ⟨rfl, rfl⟩
            go_wp2
            go_round
            case rel => exact ⟨k + 1, by omega, by go_num, by have := HD.out; rw [hn, HA.out] at this; simpa using this.symm⟩
            case measure => simp [intOf]; omega
          | false =>
            have hb : b = false := by have := HD.out; rw [hn, HA.out] at this; simpa using this
            subst hb
            go_wp2_with fail
            with_reducible refine (nameByte_any _ _).mono ?_
            rintro e w' ⟨rfl, rfl⟩
            go_wp2
            go_ret
            exact ⟨rfl, rfl⟩
        · have hb : b = true := by
            rw [← HA.out, List.drop_of_length_le (by rw [← Lib.size_eq]; omega)]
            rfl
          subst hb
          go_wp2
          go_ret
          exact ⟨rfl, rfl⟩
end Go.Proofs.YtihboibebhokbaaDoor
