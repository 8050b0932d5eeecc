/- The contracts of the reference's decoding functions. -/
import Derived.Test.YtbkpmmnkelihgaaTake2
namespace Go.Proofs.Ytbkpmmnkelihgaa
open Go.RowKit

/-- Does every byte say that more follow, and is there room for more? -/
def openB (l : List UInt8) : Bool := l.all (fun b => decide (128 ≤ b.toNat)) && decide (l.length < 10)

theorem open_nil (A : Option Addr) (c : Nat) (w : World) :
    Calls Try.prog 36 #[.slice A 0 c] w fun e w' => e = .returned (.bool true) ∧ w = w' := by
  go_enter Try.func36, Try.ntmps36
  go_wp2
  refine wp_loop_rounds 1 ?_
  rw [rounds_succ]
  go_wp2
  go_ret
  exact ⟨rfl, rfl⟩

set_option maxRecDepth 1000000 in
theorem open_some (g o : Nat) (l : List UInt8) (c : Nat) (w : World) (hr : ∀ j (h : j < l.length), w.cell? ⟨g, o + j, none⟩ = some (.int .u8 (l[j].toNat : Int))) (hl : (l.length : Int) ≤ 9223372036854775807) :
    Calls Try.prog 36 #[.slice (some ⟨g, o, none⟩) l.length c] w fun e w' => e = .returned (.bool (openB l)) ∧ w = w' := by
  have HR := Lib.hid hr
  clear hr
  go_enter Try.func36, Try.ntmps36
  go_wp2
  go_loop [7] (fun i => ∃ j : Nat, j ≤ l.length ∧ i = .int .i64 j ∧ Hid (∀ b ∈ l.take j, 128 ≤ b.toNat)) (fun i => l.length - (intOf i).toNat)
  case atStart => exact ⟨0, by omega, rfl, by intro b hb; simp at hb⟩
  case round =>
    obtain ⟨j, hj, rfl, hall⟩ := hrel
    by_cases hlt : j < l.length
    · have hx0 := HR.out j hlt
      have ht := List.take_succ_eq_append_getElem hlt
      obtain ⟨cb, hcb⟩ : ∃ cb, cb = l[j] := ⟨_, rfl⟩
      have hmem : cb ∈ l := by rw [hcb]; exact List.getElem_mem hlt
      rw [← hcb] at hx0 ht
      have hb := cb.toNat_lt
      obtain ⟨cn, hcn⟩ : ∃ cn, cn = cb.toNat := ⟨_, rfl⟩
      rw [← hcn] at hx0 hb
      have hx : w.cell? ⟨g, o + j, none⟩ = some (.int .u8 (cn : Int)) := hx0
      by_cases h128 : cn < 128
      · have HF : Hid (openB l = false) := by
          show _ = _
          unfold openB
          have : l.all (fun b => decide (128 ≤ b.toNat)) = false := by
            rw [List.all_eq_false]
            exact ⟨cb, hmem, by simp; omega⟩
          rw [this]
          rfl
        have t : (cn : Int) < 128 := by omega
        clear hx0 ht hcb hmem hcn h128
        go_wp2
        go_ret
        refine ⟨?_, rfl⟩
        rw [HF.out]
        rfl
      · have t : (128 : Int) ≤ cn := by omega
        have HA : Hid (∀ b ∈ l.take (j + 1), 128 ≤ b.toNat) := by
          intro b hb2
          rw [ht, List.mem_append] at hb2
          rcases hb2 with hb2 | hb2
          · exact hall.out b hb2
          · simp only [List.mem_singleton] at hb2
            subst hb2
            omega
        clear hx0 ht hcb hmem hcn h128 hall
        go_wp2
        go_round
        case rel => exact ⟨j + 1, by omega, by go_num, HA⟩
        case measure => simp [intOf]; omega
    · have HF : Hid (decide ((l.length : Int) < 10) = openB l) := by
        show _ = _
        unfold openB
        have hj2 : l.take j = l := List.take_of_length_le (by omega)
        have hall2 := hall.out
        rw [hj2] at hall2
        have : l.all (fun b => decide (128 ≤ b.toNat)) = true := by
          rw [List.all_eq_true]
          intro b hb
          simpa using hall2 b hb
        rw [this, Bool.true_and]
        rw [Bool.eq_iff_iff]
        simp
        omega
      clear hall
      go_wp2
      go_ret
      refine ⟨?_, rfl⟩
      rw [← HF.out]
      rfl

theorem open_any (A : Option Addr) (l : List UInt8) (c : Nat) (w : World) (hr : Rd w w.heap.size A l) (hl : (l.length : Int) ≤ 9223372036854775807) :
    Calls Try.prog 36 #[.slice A l.length c] w fun e w' => e = .returned (.bool (openB l)) ∧ w = w' := by
  by_cases h0 : l.length = 0
  · obtain rfl : l = [] := List.eq_nil_of_length_eq_zero h0
    exact open_nil A c w
  · obtain ⟨g, o, rfl, _, hcell⟩ := hr.cell (by omega)
    exact open_some g o l c w hcell hl

theorem open_short {l : List UInt8} (h : openB l = true) : Cm.scan 0 l 0 = (0, 0, 11) := by
  unfold openB at h
  rw [Bool.and_eq_true] at h
  refine Cm.scan_short l 0 0 (fun b hb => ?_) ?_
  · have := List.all_eq_true.1 h.1 b hb
    simpa using this
  · simpa using h.2

theorem open_not {l : List UInt8} (h : openB l = false) (hlen : l.length ≤ 9) (hall : ∀ b ∈ l, 128 ≤ b.toNat) : False := by
  have : openB l = true := by
    unfold openB
    rw [Bool.and_eq_true]
    exact ⟨List.all_eq_true.2 fun b hb => by simpa using hall b hb, by simp; omega⟩
  rw [h] at this
  cases this

theorem tuint_out (A : Option Addr) (l : List UInt8) (c : Nat) (at_ : Int) (w : World) (h : at_ < 0 ∨ (l.length : Int) < at_) :
    Calls Try.prog 25 #[.slice A l.length c, .int .i64 at_] w (Gives3 w .u64 (0, 0, 10)) := by
  rcases h with h | h
  · have hd : decide (at_ < 0) = true := by simpa using h
    go_enter Try.func25, Try.ntmps25
    go_wp2
    go_ret3
    exact ⟨rfl, rfl⟩
  · have hn : 0 ≤ at_ := by omega
    go_enter Try.func25, Try.ntmps25
    go_wp2
    go_ret3
    exact ⟨rfl, rfl⟩

theorem tuint_end (A : Option Addr) (l : List UInt8) (c : Nat) (k : Nat) (w : World) (h : k = l.length) :
    Calls Try.prog 25 #[.slice A l.length c, .int .i64 k] w (Gives3 w .u64 (0, 0, 11)) := by
  subst h
  go_enter Try.func25, Try.ntmps25
  go_wp2_with fail
  all_goals
    with_reducible refine (open_nil _ _ _).mono ?_
    rintro e w' ⟨rfl, rfl⟩
    go_wp2
    go_ret3
    exact ⟨rfl, rfl⟩

set_option maxRecDepth 1000000 in
theorem tuint_in (g o : Nat) (l : List UInt8) (c : Nat) (k : Nat) (w : World) (hr : ∀ j (h : j < l.length), w.cell? ⟨g, o + j, none⟩ = some (.int .u8 (l[j].toNat : Int))) (hc : l.length ≤ c) (hl : (l.length : Int) ≤ 9223372036854775807) (h : k < l.length) :
    Calls Try.prog 25 #[.slice (some ⟨g, o, none⟩) l.length c, .int .i64 k] w (Gives3 w .u64 (nat3 (Cm.uintRes l k))) := by
  have hn : (0 : Int) ≤ (k : Int) := by omega
  have hk2 : (k : Int) ≤ (l.length : Int) := by omega
  have hck : ¬ c = k := by omega
  obtain ⟨r, hrl⟩ : ∃ r, r = l.drop k := ⟨_, rfl⟩
  have hrn : r.length = l.length - k := by rw [hrl, List.length_drop]
  have hcell : ∀ j (h : j < r.length), w.cell? ⟨g, o + k + j, none⟩ = some (.int .u8 (r[j].toNat : Int)) := by
    intro j hj
    subst hrl
    simp only [List.length_drop] at hj
    rw [Nat.add_assoc, List.getElem_drop]
    exact hr (k + j) (by omega)
  have HU : Hid (Cm.uintRes l k = ((Cm.scan 0 r 0).1, if (Cm.scan 0 r 0).2.2 = 0 then k + (Cm.scan 0 r 0).2.1 else 0, (Cm.scan 0 r 0).2.2)) := by
    show _ = _
    unfold Cm.uintRes
    rw [if_neg (by omega), Int.toNat_natCast, ← hrl]
  have HO := Lib.hid (open_some g (o + k) r (c - k) w hcell (by omega))
  have HN := Lib.hid hrn
  have HC := Lib.hid hcell
  have hn3 : (l.length : Int) - k ≤ 9223372036854775807 := by omega
  clear hr hrl hrn hcell
  go_enter Try.func25, Try.ntmps25
  go_wp2_with fail
  rw [← HN.out]
  with_reducible refine HO.out.mono ?_
  rintro e w' ⟨rfl, rfl⟩
  cases hop : openB r
  · have HP := Lib.hid hop
    clear hop
    go_wp2
    go_loop [8, 9, 10] (fun v p i => ∃ j acc q : Nat, j ≤ r.length ∧ j ≤ 9 ∧ i = .int .i64 j ∧ v = .int .u64 acc ∧ p = .int .u64 q ∧ Hid (q = 128 ^ j) ∧ Hid (acc < 128 ^ j) ∧ Hid (Cm.scan 0 r 0 = Cm.scan j (r.drop j) acc) ∧ Hid (∀ b ∈ r.take j, 128 ≤ b.toNat)) (fun _ _ i => r.length - (intOf i).toNat)
    case atStart => exact ⟨0, 0, 1, by omega, by omega, rfl, rfl, rfl, rfl, show 0 < 128 ^ 0 by decide, rfl, by intro b hb; simp at hb⟩
    case round =>
      obtain ⟨j, acc, q, hj, hj9, rfl, rfl, rfl, hq, hacc, hsc, hall⟩ := hrel
      by_cases hlt : j < r.length
      · have hx0 := HC.out j hlt
        have hds := List.drop_eq_getElem_cons hlt
        have ht := List.take_succ_eq_append_getElem hlt
        obtain ⟨cb, hcb⟩ : ∃ cb, cb = r[j] := ⟨_, rfl⟩
        rw [← hcb] at hx0 hds ht
        have hb := cb.toNat_lt
        obtain ⟨cn, hcn⟩ : ∃ cn, cn = cb.toNat := ⟨_, rfl⟩
        rw [← hcn] at hx0 hb
        have hx : w.cell? ⟨g, o + k + j, none⟩ = some (.int .u8 (cn : Int)) := hx0
        have hcn1 : (cn : Int) ≤ 255 := by omega
        have hstep : Cm.scan 0 r 0 = if j = 9 ∧ cn ≠ 1 then (0, 0, 12) else if 128 ≤ cn then Cm.scan (j + 1) (r.drop (j + 1)) (acc + cn % 128 * 128 ^ j) else if cn = 0 ∧ 0 < j then (0, 0, 12) else (acc + cn % 128 * 128 ^ j, j + 1, 0) := by
          rw [hsc.out, hds, hcn]
          rfl
        have HS := Lib.hid hstep
        have hjr : (j : Int) < r.length := by omega
        have hj10 : (j : Int) < 10 := by omega
        have HA : 128 ≤ cn → Hid (∀ b ∈ r.take (j + 1), 128 ≤ b.toNat) := by
          intro hge b hb2
          rw [ht, List.mem_append] at hb2
          rcases hb2 with hb2 | hb2
          · exact hall.out b hb2
          · simp only [List.mem_singleton] at hb2
            subst hb2
            omega
        clear hx0 hds ht hcb hcn hstep hsc hall
        by_cases h9 : j = 9 ∧ 1 < cn
        · obtain ⟨h9, h1⟩ := h9
          have HF : Hid (nat3 (Cm.uintRes l k) = (0, 0, 12)) := by
            show _ = _
            rw [HU.out, HS.out, if_pos ⟨h9, by omega⟩]
            rfl
          have t9 : ((j : Int) == 9) = true := by simp; omega
          have t1 : (1 : Int) < cn := by omega
          clear h9 h1 HA
          go_wp2
          go_ret3
          refine ⟨?_, rfl⟩
          rw [HF.out]
          rfl
        · obtain ⟨m, hm⟩ : ∃ m, m = cn % 128 * q := ⟨_, rfl⟩
          have hp := Cm.pow_le_of hj9
          have hqo := hq.out
          have hac := hacc.out
          rw [← hqo] at hp hac
          unfold Cm.big at hp
          have hmb : m + q ≤ 18446744073709551616 := by
            by_cases h8 : j ≤ 8
            · have h2 := hp.2 h8
              have h3 : cn % 128 * q ≤ 127 * q := Nat.mul_le_mul_right _ (by omega)
              omega
            · have h3 : cn % 128 * q ≤ 1 * q := Nat.mul_le_mul_right _ (by omega)
              omega
          have hw : IntKind.u64.wrap ((cn : Int) % 128 * q) = (m : Int) := by
            have e : ((cn : Int) % 128 * q) = (m : Int) := by rw [hm]; simp
            rw [e, IntKind.wrap_u64]
            omega
          have hsum : (acc : Int) + m ≤ 18446744073709551615 := by omega
          have hmq : m = cn % 128 * 128 ^ j := by rw [hm, hqo]
          have HM := Lib.hid hmq
          have hq8 : j ≤ 8 → (q : Int) * 128 ≤ 18446744073709551615 := by
            intro h8
            have := hp.2 h8
            omega
          have HB : 128 ≤ cn → j ≤ 8 → Hid (acc + m < 128 ^ (j + 1)) := by
            intro _ _
            show _ < _
            rw [Nat.pow_succ, ← hqo]
            have h1 : cn % 128 * q ≤ 127 * q := Nat.mul_le_mul_right _ (by omega)
            omega
          clear hp hqo hac hmb hm hmq
          by_cases hge : 128 ≤ cn
          · have hj8 : j ≤ 8 := by omega
            have HF : Hid (Cm.scan 0 r 0 = Cm.scan (j + 1) (r.drop (j + 1)) (acc + m)) := by
              show _ = _
              rw [HS.out, if_neg (by omega), if_pos hge, HM.out]
            have t9 : ((j : Int) == 9) = false := by simp; omega
            have t128 : (128 : Int) ≤ cn := by omega
            have HA2 := HA hge
            have HB2 := HB hge hj8
            have hq9 := hq8 hj8
            clear h9 hge HA HB hq8
            go_wp2
            go_round
            case rel => exact ⟨j + 1, acc + m, q * 128, by omega, by omega, by go_num, by go_num, by go_num, by show _ = _; rw [Nat.pow_succ, hq.out], HB2, HF, HA2⟩
            case measure => simp [intOf]; omega
          · have t128 : (cn : Int) < 128 := by omega
            by_cases h0 : cn = 0 ∧ 0 < j
            · obtain ⟨rfl, h0⟩ := h0
              have HF : Hid (nat3 (Cm.uintRes l k) = (0, 0, 12)) := by
                show _ = _
                rw [HU.out, HS.out]
                by_cases h99 : j = 9
                · rw [if_pos ⟨h99, by omega⟩]
                  rfl
                · rw [if_neg (fun hh => h99 hh.1), if_neg hge, if_pos ⟨rfl, h0⟩]
                  rfl
              clear h9 hge HA HB hq8
              by_cases h99 : j = 9
              · have t9 : ((j : Int) == 9) = true := by simp; omega
                clear h99
                go_wp2
                go_ret3
                refine ⟨?_, rfl⟩
                rw [HF.out]
                rfl
              · have t9 : ((j : Int) == 9) = false := by simp; omega
                clear h99
                go_wp2
                go_ret3
                refine ⟨?_, rfl⟩
                rw [HF.out]
                rfl
            · have HF : Hid (nat3 (Cm.uintRes l k) = (((acc + m : Nat) : Int), k + (j + 1), 0)) := by
                show _ = _
                rw [HU.out, HS.out, if_neg (by omega), if_neg hge, if_neg h0, HM.out]
                rfl
              have hkj : (k : Int) + j + 1 ≤ l.length := by
                have := HN.out
                omega
              by_cases h99 : j = 9
              · have t9 : ((j : Int) == 9) = true := by simp; omega
                have t1 : (cn : Int) ≤ 1 := by omega
                have t0 : ((cn : Int) == 0) = false := by simp; omega
                clear h9 hge h0 h99 HA HB hq8
                go_wp2
                go_ret3
                refine ⟨?_, rfl⟩
                rw [HF.out]
                rfl
              · have t9 : ((j : Int) == 9) = false := by simp; omega
                by_cases t00 : cn = 0
                · have t0 : ((cn : Int) == 0) = true := by simp; omega
                  have tj : ¬ (0 < j) := by omega
                  clear h9 hge h0 h99 t00 HA HB hq8
                  go_wp2
                  go_ret3
                  refine ⟨?_, rfl⟩
                  rw [HF.out]
                  rfl
                · have t0 : ((cn : Int) == 0) = false := by simp; omega
                  clear h9 hge h0 h99 t00 HA HB hq8
                  go_wp2
                  go_ret3
                  refine ⟨?_, rfl⟩
                  rw [HF.out]
                  rfl
      · exfalso
        have hj2 : r.take j = r := List.take_of_length_le (by omega)
        have hall2 := hall.out
        rw [hj2] at hall2
        exact open_not HP.out (by omega) hall2
  · have HF : Hid (nat3 (Cm.uintRes l k) = (0, 0, 11)) := by
      show _ = _
      rw [HU.out, open_short hop]
      rfl
    clear hop
    go_wp2
    go_ret3
    refine ⟨?_, rfl⟩
    rw [HF.out]
    rfl
end Go.Proofs.Ytbkpmmnkelihgaa
