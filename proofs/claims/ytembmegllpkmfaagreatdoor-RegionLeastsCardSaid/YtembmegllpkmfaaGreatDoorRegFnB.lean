/- Sets of holes: where, with the closures of leastNames. The closures of leastNames: reaches, the part at a place, alikeFrom. leastName. The closures 'with' and 'free' of leastNames; the sets that they ask. leastNames. -/
import Derived.Test.YtembmegllpkmfaaGreatDoorRegFnA
import Derived.Laws.Bits64b
import Derived.Laws.BitsLemmas
import Derived.Laws.EntriesVeiled
namespace Go.Proofs.YtembmegllpkmfaaGreatDoor
open Go.RowKit

def setOf (P : Nat → Bool) : Nat → Nat
  | 0 => 0
  | k + 1 => if P k then setOf P k ||| 2 ^ k else setOf P k
theorem setOf_lt (P : Nat → Bool) : ∀ n, setOf P n < 2 ^ n
  | 0 => by rw [setOf]; decide
  | k + 1 => by
    have h1 : setOf P k < 2 ^ (k + 1) := Nat.lt_of_lt_of_le (setOf_lt P k) (Nat.pow_le_pow_right (by decide) (by omega))
    unfold setOf
    split
    · exact Nat.or_lt_two_pow h1 (Nat.pow_lt_pow_right (by decide) (by omega))
    · exact h1
theorem setOf_bit (P : Nat → Bool) : ∀ n k, (setOf P n).testBit k = (decide (k < n) && P k)
  | 0, k => by rw [setOf, Nat.zero_testBit]; simp
  | n + 1, k => by
    unfold setOf
    by_cases hk : k = n
    · subst hk
      cases hp : P k with
      | true => rw [if_pos rfl, Nat.testBit_or, Nat.testBit_two_pow_self]; simp
      | false => rw [if_neg (by decide), setOf_bit P k k]; simp
    · have hd : decide (k < n + 1) = decide (k < n) := decide_eq_decide.2 (by omega)
      split
      · rw [Nat.testBit_or, Nat.testBit_two_pow_of_ne (fun h => hk h.symm), Bool.or_false, setOf_bit P n k, hd]
      · rw [setOf_bit P n k, hd]
theorem setOf_64 (P : Nat → Bool) {n : Nat} (h : n ≤ 64) : setOf P n < 18446744073709551616 := Nat.lt_of_lt_of_le (setOf_lt P n) (Nat.le_trans (Nat.pow_le_pow_right (by decide) h) (by decide))
theorem or_bit {S k : Nat} (hS : S < 18446744073709551616) (hk : k < 64) : bits .or .u64 (S : Int) (IntKind.u64.wrap ((2 : Int) ^ k)) = ((S ||| 2 ^ k : Nat) : Int) := by
  have h2 : 2 ^ k < 18446744073709551616 := Nat.lt_of_lt_of_le (Nat.pow_lt_pow_right (by decide) hk) (by decide)
  have hc : ((2 : Int) ^ k) = ((2 ^ k : Nat) : Int) := by simp
  rw [hc, IntKind.wrap_u64, (show ∀ z : Nat, z < 18446744073709551616 → (z : Int) % 18446744073709551616 = z from fun z hz => by omega) _ h2, bits_or_u64_nat _ _ hS h2]
/-- What where gives. -/
def GivesSet (w : World) (s : Nat) (e : Ending) (w' : World) : Prop := e = .returned (.int .u64 (s : Int)) ∧ Below w.heap.size w w'
set_option maxHeartbeats 2000000 in
/-- where with this closure. -/
theorem where_n1 (lb0 : Value) (P : Nat → Bool) (H : Option Addr) (bl : List BindV) (e : Nat) (w : World) (hr : RdB w H bl e) (h64 : bl.length ≤ 64)
    (hf : ∀ (k : Nat) (hk : k < bl.length) (w' : World), Below w.heap.size w w' → Calls Tryz.prog 76 #[patV bl[k].A bl[k].xs.length bl[k].c bl[k].b, lb0] w' (GivesBB w' (P k))) :
    Calls Tryz.prog 75 #[.slice H bl.length e, .func (.func 76) #[] #[lb0]] w (GivesSet w (setOf P bl.length)) := by
  have HR := Lib.hid hr
  have HF := Lib.hid hf
  have hmi : (bl.length : Int) ≤ 64 := by omega
  have HS := Lib.hid (fun (k : Nat) (h : k ≤ bl.length) => setOf_64 P (Nat.le_trans h h64))
  clear hr hf h64
  go_enter Tryz.func75, Tryz.ntmps75
  go_wp2
  go_loopg [5, 10] bl.length (fun gg s5 s10 wx => ∃ (k : Nat), k + gg = bl.length ∧ s5 = .int .u64 ((setOf P k : Nat) : Int) ∧ s10 = .int .i64 (k : Int) ∧ Below w.heap.size w wx)
  case atStart => exact ⟨0, by omega, rfl, rfl, Below.refl _ _⟩
  case round =>
    obtain ⟨k, hk, rfl, rfl, hbw⟩ := hrel
    have HBW := Lib.hid hbw
    by_cases hkn : k < bl.length
    · have i1 : (k : Int) < (bl.length : Int) := by omega
      obtain ⟨q, o, hA, hq, hcell⟩ := (HR.out.keep hbw).at (by omega)
      subst hA
      obtain ⟨e0, e1⟩ := hcell k hkn
      have ha : Below wr.heap.size wr (wr.alloc (.cells #[.slice bl[k].A bl[k].xs.length bl[k].c, .bool bl[k].b] 24)) := (Below.refl _ _).alloc (Nat.le_refl _) _
      have HW2 := Lib.hid (hbw.trans (ha.mono hbw.size))
      have HC := Lib.hid (HF.out k hkn _ (hbw.trans (ha.mono hbw.size)))
      clear hcell hbw ha
      cases hp : P k with
      | true =>
        rw [hp] at HC
        have HP := Lib.hid (show setOf P (k + 1) = setOf P k ||| 2 ^ k by rw [setOf, if_pos hp])
        have i2 := or_bit (HS.out k (by omega)) (show k < 64 by omega)
        have i3 : (0 : Int) ≤ (k : Int) := Int.natCast_nonneg _
        clear hp
        go_wp2_with fail
        with_reducible refine HC.out.mono ?_
        rintro e w1 ⟨rfl, hb1⟩
        have HB1 := Lib.hid (HW2.out.trans (hb1.mono HW2.out.size))
        clear hb1
        go_wp2
        go_roundg (bl.length - (k + 1))
        case measure => go_light; omega
        case rel =>
          go_light
          refine ⟨k + 1, by omega, ?_, by go_num, HB1.out⟩
          rw [HP.out, ← i2]
      | false =>
        rw [hp] at HC
        have HP := Lib.hid (show setOf P (k + 1) = setOf P k by rw [setOf, if_neg (by rw [hp]; decide)])
        clear hp
        go_wp2_with fail
        with_reducible refine HC.out.mono ?_
        rintro e w1 ⟨rfl, hb1⟩
        have HB1 := Lib.hid (HW2.out.trans (hb1.mono HW2.out.size))
        clear hb1
        go_wp2
        go_roundg (bl.length - (k + 1))
        case measure => go_light; omega
        case rel =>
          go_light
          exact ⟨k + 1, by omega, by rw [HP.out], by go_num, HB1.out⟩
    · have i1 : ¬ (k : Int) < (bl.length : Int) := by omega
      have hke : k = bl.length := by omega
      subst hke
      clear hbw
      go_wp2
      go_ret
      exact ⟨rfl, HBW.out⟩
set_option maxHeartbeats 2000000 in
/-- where with this closure. -/
theorem where_n21 (lb0 lb1 : Value) (P : Nat → Bool) (H : Option Addr) (bl : List BindV) (e : Nat) (w : World) (hr : RdB w H bl e) (h64 : bl.length ≤ 64)
    (hf : ∀ (k : Nat) (hk : k < bl.length) (w' : World), Below w.heap.size w w' → Calls Tryz.prog 79 #[patV bl[k].A bl[k].xs.length bl[k].c bl[k].b, lb0, lb1] w' (GivesBB w' (P k))) :
    Calls Tryz.prog 75 #[.slice H bl.length e, .func (.func 79) #[] #[lb0, lb1]] w (GivesSet w (setOf P bl.length)) := by
  have HR := Lib.hid hr
  have HF := Lib.hid hf
  have hmi : (bl.length : Int) ≤ 64 := by omega
  have HS := Lib.hid (fun (k : Nat) (h : k ≤ bl.length) => setOf_64 P (Nat.le_trans h h64))
  clear hr hf h64
  go_enter Tryz.func75, Tryz.ntmps75
  go_wp2
  go_loopg [5, 10] bl.length (fun gg s5 s10 wx => ∃ (k : Nat), k + gg = bl.length ∧ s5 = .int .u64 ((setOf P k : Nat) : Int) ∧ s10 = .int .i64 (k : Int) ∧ Below w.heap.size w wx)
  case atStart => exact ⟨0, by omega, rfl, rfl, Below.refl _ _⟩
  case round =>
    obtain ⟨k, hk, rfl, rfl, hbw⟩ := hrel
    have HBW := Lib.hid hbw
    by_cases hkn : k < bl.length
    · have i1 : (k : Int) < (bl.length : Int) := by omega
      obtain ⟨q, o, hA, hq, hcell⟩ := (HR.out.keep hbw).at (by omega)
      subst hA
      obtain ⟨e0, e1⟩ := hcell k hkn
      have ha : Below wr.heap.size wr (wr.alloc (.cells #[.slice bl[k].A bl[k].xs.length bl[k].c, .bool bl[k].b] 24)) := (Below.refl _ _).alloc (Nat.le_refl _) _
      have HW2 := Lib.hid (hbw.trans (ha.mono hbw.size))
      have HC := Lib.hid (HF.out k hkn _ (hbw.trans (ha.mono hbw.size)))
      clear hcell hbw ha
      cases hp : P k with
      | true =>
        rw [hp] at HC
        have HP := Lib.hid (show setOf P (k + 1) = setOf P k ||| 2 ^ k by rw [setOf, if_pos hp])
        have i2 := or_bit (HS.out k (by omega)) (show k < 64 by omega)
        have i3 : (0 : Int) ≤ (k : Int) := Int.natCast_nonneg _
        clear hp
        go_wp2_with fail
        with_reducible refine HC.out.mono ?_
        rintro e w1 ⟨rfl, hb1⟩
        have HB1 := Lib.hid (HW2.out.trans (hb1.mono HW2.out.size))
        clear hb1
        go_wp2
        go_roundg (bl.length - (k + 1))
        case measure => go_light; omega
        case rel =>
          go_light
          refine ⟨k + 1, by omega, ?_, by go_num, HB1.out⟩
          rw [HP.out, ← i2]
      | false =>
        rw [hp] at HC
        have HP := Lib.hid (show setOf P (k + 1) = setOf P k by rw [setOf, if_neg (by rw [hp]; decide)])
        clear hp
        go_wp2_with fail
        with_reducible refine HC.out.mono ?_
        rintro e w1 ⟨rfl, hb1⟩
        have HB1 := Lib.hid (HW2.out.trans (hb1.mono HW2.out.size))
        clear hb1
        go_wp2
        go_roundg (bl.length - (k + 1))
        case measure => go_light; omega
        case rel =>
          go_light
          exact ⟨k + 1, by omega, by rw [HP.out], by go_num, HB1.out⟩
    · have i1 : ¬ (k : Int) < (bl.length : Int) := by omega
      have hke : k = bl.length := by omega
      subst hke
      clear hbw
      go_wp2
      go_ret
      exact ⟨rfl, HBW.out⟩
set_option maxHeartbeats 2000000 in
/-- where with this closure. -/
theorem where_n3 (lb0 lb1 : Value) (P : Nat → Bool) (H : Option Addr) (bl : List BindV) (e : Nat) (w : World) (hr : RdB w H bl e) (h64 : bl.length ≤ 64)
    (hf : ∀ (k : Nat) (hk : k < bl.length) (w' : World), Below w.heap.size w w' → Calls Tryz.prog 80 #[patV bl[k].A bl[k].xs.length bl[k].c bl[k].b, lb0, lb1] w' (GivesBB w' (P k))) :
    Calls Tryz.prog 75 #[.slice H bl.length e, .func (.func 80) #[] #[lb0, lb1]] w (GivesSet w (setOf P bl.length)) := by
  have HR := Lib.hid hr
  have HF := Lib.hid hf
  have hmi : (bl.length : Int) ≤ 64 := by omega
  have HS := Lib.hid (fun (k : Nat) (h : k ≤ bl.length) => setOf_64 P (Nat.le_trans h h64))
  clear hr hf h64
  go_enter Tryz.func75, Tryz.ntmps75
  go_wp2
  go_loopg [5, 10] bl.length (fun gg s5 s10 wx => ∃ (k : Nat), k + gg = bl.length ∧ s5 = .int .u64 ((setOf P k : Nat) : Int) ∧ s10 = .int .i64 (k : Int) ∧ Below w.heap.size w wx)
  case atStart => exact ⟨0, by omega, rfl, rfl, Below.refl _ _⟩
  case round =>
    obtain ⟨k, hk, rfl, rfl, hbw⟩ := hrel
    have HBW := Lib.hid hbw
    by_cases hkn : k < bl.length
    · have i1 : (k : Int) < (bl.length : Int) := by omega
      obtain ⟨q, o, hA, hq, hcell⟩ := (HR.out.keep hbw).at (by omega)
      subst hA
      obtain ⟨e0, e1⟩ := hcell k hkn
      have ha : Below wr.heap.size wr (wr.alloc (.cells #[.slice bl[k].A bl[k].xs.length bl[k].c, .bool bl[k].b] 24)) := (Below.refl _ _).alloc (Nat.le_refl _) _
      have HW2 := Lib.hid (hbw.trans (ha.mono hbw.size))
      have HC := Lib.hid (HF.out k hkn _ (hbw.trans (ha.mono hbw.size)))
      clear hcell hbw ha
      cases hp : P k with
      | true =>
        rw [hp] at HC
        have HP := Lib.hid (show setOf P (k + 1) = setOf P k ||| 2 ^ k by rw [setOf, if_pos hp])
        have i2 := or_bit (HS.out k (by omega)) (show k < 64 by omega)
        have i3 : (0 : Int) ≤ (k : Int) := Int.natCast_nonneg _
        clear hp
        go_wp2_with fail
        with_reducible refine HC.out.mono ?_
        rintro e w1 ⟨rfl, hb1⟩
        have HB1 := Lib.hid (HW2.out.trans (hb1.mono HW2.out.size))
        clear hb1
        go_wp2
        go_roundg (bl.length - (k + 1))
        case measure => go_light; omega
        case rel =>
          go_light
          refine ⟨k + 1, by omega, ?_, by go_num, HB1.out⟩
          rw [HP.out, ← i2]
      | false =>
        rw [hp] at HC
        have HP := Lib.hid (show setOf P (k + 1) = setOf P k by rw [setOf, if_neg (by rw [hp]; decide)])
        clear hp
        go_wp2_with fail
        with_reducible refine HC.out.mono ?_
        rintro e w1 ⟨rfl, hb1⟩
        have HB1 := Lib.hid (HW2.out.trans (hb1.mono HW2.out.size))
        clear hb1
        go_wp2
        go_roundg (bl.length - (k + 1))
        case measure => go_light; omega
        case rel =>
          go_light
          exact ⟨k + 1, by omega, by rw [HP.out], by go_num, HB1.out⟩
    · have i1 : ¬ (k : Int) < (bl.length : Int) := by omega
      have hke : k = bl.length := by omega
      subst hke
      clear hbw
      go_wp2
      go_ret
      exact ⟨rfl, HBW.out⟩
end Go.Proofs.YtembmegllpkmfaaGreatDoor

namespace Go.Proofs.YtembmegllpkmfaaGreatDoor
open Go.RowKit

set_option maxHeartbeats 2000000 in
theorem n1_any (A : Option Addr) (xs : List ByteArray) (c : Nat) (b : Bool) (p : Pt.Pat) (q k : Nat) (w : World) (hc : w.cell? ⟨q, 0, none⟩ = some (.int .i64 (k : Int))) (hq : q < w.heap.size) (hp : PatR w A xs c b p) :
    Calls Tryz.prog 76 #[patV A xs.length c b, .pointer (some ⟨q, 0, none⟩)] w (GivesBB w (Pt.fits p k)) := by
  obtain ⟨W0, hW0⟩ : ∃ W0, W0 = w.alloc (.cells #[.slice A xs.length c, .bool b] 24) := ⟨_, rfl⟩
  have hal : Below w.heap.size w W0 := by rw [hW0]; exact (Below.refl _ _).alloc (Nat.le_refl _) _
  have HAL := Lib.hid hal
  have hby : PBox W0 w.heap.size A xs.length c b := by rw [hW0]; exact PBox.new ..
  have HC := Lib.hid (greaches_any A xs c b p k W0 (hp.keep hal))
  obtain ⟨t0, t1, tl⟩ := hby
  have s0 := (hal.cell (p := ⟨q, 0, none⟩) hq).trans hc
  generalize Pt.fits p k = v at *
  generalize xs.length = n at *
  clear hp hal hc
  subst hW0
  go_enter Tryz.func76, Tryz.ntmps76
  go_wp2_with fail
  with_reducible refine HC.out.mono ?_
  rintro e w1 ⟨rfl, hb⟩
  have HB := Lib.hid hb
  clear hb
  go_wp2
  go_ret
  exact ⟨rfl, HAL.out.trans (HB.out.mono HAL.out.size)⟩
set_option maxHeartbeats 2000000 in
theorem n21_any (A : Option Addr) (xs : List ByteArray) (c : Nat) (b : Bool) (p : Pt.Pat) (qi qs i : Nat) (s : ByteArray) (w : World) (hci : w.cell? ⟨qi, 0, none⟩ = some (.int .i64 (i : Int))) (hqi : qi < w.heap.size) (hcs : w.cell? ⟨qs, 0, none⟩ = some (.string s)) (hqs : qs < w.heap.size) (hp : PatR w A xs c b p) :
    Calls Tryz.prog 79 #[patV A xs.length c b, .pointer (some ⟨qi, 0, none⟩), .pointer (some ⟨qs, 0, none⟩)] w (GivesBB w (decide (Pt.Rg.partAt p i = s.data.toList))) := by
  obtain ⟨W0, hW0⟩ : ∃ W0, W0 = w.alloc (.cells #[.slice A xs.length c, .bool b] 24) := ⟨_, rfl⟩
  have hal : Below w.heap.size w W0 := by rw [hW0]; exact (Below.refl _ _).alloc (Nat.le_refl _) _
  have HAL := Lib.hid hal
  have hby : PBox W0 w.heap.size A xs.length c b := by rw [hW0]; exact PBox.new ..
  have HC := Lib.hid (gpartAt_any A xs c b p i W0.drew ((hp.keep hal).keep (below_drew (Below.refl _ _))))
  obtain ⟨t0, t1, tl⟩ := hby
  have s0 := (hal.cell (p := ⟨qi, 0, none⟩) hqi).trans hci
  have s1 := (hal.cell (p := ⟨qs, 0, none⟩) hqs).trans hcs
  have hqi' := Nat.lt_of_lt_of_le hqi hal.size
  have hqs' := Nat.lt_of_lt_of_le hqs hal.size
  generalize xs.length = n at *
  clear hp hal hci hcs hqi hqs
  by_cases hv : Pt.Rg.partAt p i = s.data.toList
  · rw [decide_eq_true hv]
    have HV := Lib.hid hv
    clear hv
    go_enter Tryz.func79, Tryz.ntmps79
    go_wp2_with fail
    generalize hwg : w.alloc (.cells #[.slice A n c, .bool b] 24) = W
    have hWW : W = W0 := by rw [← hwg, hW0]
    subst hWW
    clear hwg hW0
    go_region_held3 (fun w' => w'.cell? ⟨w.heap.size, 0, none⟩ = some (.slice A n c) ∧ w'.cell? ⟨w.heap.size, 1, none⟩ = some (.bool b) ∧ w'.cell? ⟨qi, 0, none⟩ = some (.int .i64 (i : Int)) ∧ w'.cell? ⟨qs, 0, none⟩ = some (.string s))
      (first | exact ⟨(hb.cell (p := ⟨w.heap.size, 0, none⟩) (by exact tl)).trans t0, (hb.cell (p := ⟨w.heap.size, 1, none⟩) (by exact tl)).trans t1, (hb.cell (p := ⟨qi, 0, none⟩) (by exact hqi')).trans s0, (hb.cell (p := ⟨qs, 0, none⟩) (by exact hqs')).trans s1⟩ | go_keep)
      ((go_at_call 77; have hcc := HC.out; with_reducible refine hcc.mono ?_; intro e w' hh; unfold GivesStr at hh; obtain ⟨x, rfl, hs, hsz, hb⟩ := hh
        have hxs : x = s := ba_eq (hs.trans HV.out)
        subst hxs))
    go_wp2
    go_ret
    exact ⟨rfl, HAL.out.trans ((below_drew (Below.refl _ _)).trans (hb.mono (by exact Nat.le_refl _)) |>.mono HAL.out.size)⟩
  · rw [decide_eq_false hv]
    have HV := Lib.hid hv
    clear hv
    go_enter Tryz.func79, Tryz.ntmps79
    go_wp2_with fail
    generalize hwg : w.alloc (.cells #[.slice A n c, .bool b] 24) = W
    have hWW : W = W0 := by rw [← hwg, hW0]
    subst hWW
    clear hwg hW0
    go_region_held3 (fun w' => w'.cell? ⟨w.heap.size, 0, none⟩ = some (.slice A n c) ∧ w'.cell? ⟨w.heap.size, 1, none⟩ = some (.bool b) ∧ w'.cell? ⟨qi, 0, none⟩ = some (.int .i64 (i : Int)) ∧ w'.cell? ⟨qs, 0, none⟩ = some (.string s))
      (first | exact ⟨(hb.cell (p := ⟨w.heap.size, 0, none⟩) (by exact tl)).trans t0, (hb.cell (p := ⟨w.heap.size, 1, none⟩) (by exact tl)).trans t1, (hb.cell (p := ⟨qi, 0, none⟩) (by exact hqi')).trans s0, (hb.cell (p := ⟨qs, 0, none⟩) (by exact hqs')).trans s1⟩ | go_keep)
      ((go_at_call 77; have hcc := HC.out; with_reducible refine hcc.mono ?_; intro e w' hh; unfold GivesStr at hh; obtain ⟨x, rfl, hs, hsz, hb⟩ := hh
        have hxs2 : (x.toList == s.toList) = false := by rw [beq_eq_false_iff_ne, Lib.toList_data, Lib.toList_data]; exact fun e9 => HV.out (hs.symm.trans e9)))
    go_wp2
    go_ret
    exact ⟨rfl, HAL.out.trans ((below_drew (Below.refl _ _)).trans (hb.mono (by exact Nat.le_refl _)) |>.mono HAL.out.size)⟩
set_option maxHeartbeats 2000000 in
theorem n3_any (A : Option Addr) (xs : List ByteArray) (c : Nat) (b : Bool) (p : Pt.Pat) (B : Option Addr) (ys : List ByteArray) (d : Nat) (f : Bool) (q : Pt.Pat) (H : Option Addr) (hm e : Nat) (qi qg i : Nat) (w : World) (hci : w.cell? ⟨qi, 0, none⟩ = some (.int .i64 (i : Int))) (hqi : qi < w.heap.size) (hi : i < 100000) (hgb : GBox w qg B ys.length d f H hm e) (hq : PatR w B ys d f q) (hp : PatR w A xs c b p) :
    Calls Tryz.prog 80 #[patV A xs.length c b, .pointer (some ⟨qg, 0, none⟩), .pointer (some ⟨qi, 0, none⟩)] w (GivesBB w (decide (Pt.Rg.alikeFrom p q = i + 1))) := by
  obtain ⟨W0, hW0⟩ : ∃ W0, W0 = w.alloc (.cells #[.slice A xs.length c, .bool b] 24) := ⟨_, rfl⟩
  have hal : Below w.heap.size w W0 := by rw [hW0]; exact (Below.refl _ _).alloc (Nat.le_refl _) _
  have HAL := Lib.hid hal
  have hby : PBox W0 w.heap.size A xs.length c b := by rw [hW0]; exact PBox.new ..
  have HC := Lib.hid (galike_any A B xs ys c d b f p q W0.drew ((hp.keep hal).keep (below_drew (Below.refl _ _))) ((hq.keep hal).keep (below_drew (Below.refl _ _))))
  obtain ⟨t0, t1, tl⟩ := hby
  obtain ⟨g0, g1, g2, g3⟩ := hgb.keep hal
  have s0 := (hal.cell (p := ⟨qi, 0, none⟩) hqi).trans hci
  have hqi' := Nat.lt_of_lt_of_le hqi hal.size
  have i2 : (0 : Int) ≤ (i : Int) := Int.natCast_nonneg _
  have i4 : IntKind.i64.wrap ((i : Int) + 1) = (i : Int) + 1 := IntWalk.i64_in _ (by omega)
  generalize Pt.Rg.alikeFrom p q = a at *
  generalize xs.length = n at *
  generalize ys.length = m at *
  clear hp hq hal hci hqi hgb
  by_cases hv : a = i + 1
  · rw [decide_eq_true hv]
    have i5 : ((a : Int) == (i : Int) + 1) = true := by rw [beq_iff_eq]; omega
    clear hv
    go_enter Tryz.func80, Tryz.ntmps80
    go_wp2_with fail
    generalize hwg : w.alloc (.cells #[.slice A n c, .bool b] 24) = W
    have hWW : W = W0 := by rw [← hwg, hW0]
    subst hWW
    clear hwg hW0
    go_region_held3 (fun w' => w'.cell? ⟨w.heap.size, 0, none⟩ = some (.slice A n c) ∧ w'.cell? ⟨w.heap.size, 1, none⟩ = some (.bool b) ∧ w'.cell? ⟨qi, 0, none⟩ = some (.int .i64 (i : Int)) ∧ w'.cell? ⟨qg, 0, none⟩ = some (.slice B m d) ∧ w'.cell? ⟨qg, 1, none⟩ = some (.bool f))
      (first | exact ⟨(hb.cell (p := ⟨w.heap.size, 0, none⟩) (by exact tl)).trans t0, (hb.cell (p := ⟨w.heap.size, 1, none⟩) (by exact tl)).trans t1, (hb.cell (p := ⟨qi, 0, none⟩) (by exact hqi')).trans s0, (hb.cell (p := ⟨qg, 0, none⟩) (by exact g3)).trans g0, (hb.cell (p := ⟨qg, 1, none⟩) (by exact g3)).trans g1⟩ | go_keep)
      ((go_at_call 62; have hcc := HC.out; with_reducible refine hcc.mono ?_; intro e w' hh; unfold GivesN at hh; obtain ⟨rfl, hb⟩ := hh))
    go_wp2
    go_ret
    exact ⟨rfl, HAL.out.trans ((below_drew (Below.refl _ _)).trans (hb.mono (by exact Nat.le_refl _)) |>.mono HAL.out.size)⟩
  · rw [decide_eq_false hv]
    have i5 : ((a : Int) == (i : Int) + 1) = false := by rw [beq_eq_false_iff_ne]; omega
    clear hv
    go_enter Tryz.func80, Tryz.ntmps80
    go_wp2_with fail
    generalize hwg : w.alloc (.cells #[.slice A n c, .bool b] 24) = W
    have hWW : W = W0 := by rw [← hwg, hW0]
    subst hWW
    clear hwg hW0
    go_region_held3 (fun w' => w'.cell? ⟨w.heap.size, 0, none⟩ = some (.slice A n c) ∧ w'.cell? ⟨w.heap.size, 1, none⟩ = some (.bool b) ∧ w'.cell? ⟨qi, 0, none⟩ = some (.int .i64 (i : Int)) ∧ w'.cell? ⟨qg, 0, none⟩ = some (.slice B m d) ∧ w'.cell? ⟨qg, 1, none⟩ = some (.bool f))
      (first | exact ⟨(hb.cell (p := ⟨w.heap.size, 0, none⟩) (by exact tl)).trans t0, (hb.cell (p := ⟨w.heap.size, 1, none⟩) (by exact tl)).trans t1, (hb.cell (p := ⟨qi, 0, none⟩) (by exact hqi')).trans s0, (hb.cell (p := ⟨qg, 0, none⟩) (by exact g3)).trans g0, (hb.cell (p := ⟨qg, 1, none⟩) (by exact g3)).trans g1⟩ | go_keep)
      ((go_at_call 62; have hcc := HC.out; with_reducible refine hcc.mono ?_; intro e w' hh; unfold GivesN at hh; obtain ⟨rfl, hb⟩ := hh))
    go_wp2
    go_ret
    exact ⟨rfl, HAL.out.trans ((below_drew (Below.refl _ _)).trans (hb.mono (by exact Nat.le_refl _)) |>.mono HAL.out.size)⟩
end Go.Proofs.YtembmegllpkmfaaGreatDoor

namespace Go.Proofs.YtembmegllpkmfaaGreatDoor
open Go.RowKit

theorem part_prefix {b : List UInt8} (h : Pt.part b = true) : Lib.trimPrefix b [42] = (Pt.star b).getD b ∧ Lib.hasPrefix b [42] = (Pt.star b).isSome := by
  rcases Pt.part_cases h with ⟨t, ht, hb, _⟩ | ⟨ht, hc⟩
  · rw [ht, hb]
    constructor
    · simp [Lib.trimPrefix, Lib.hasPrefix]
    · simp [Lib.hasPrefix]
  · rw [ht]
    have hne : ∀ t, b ≠ 42 :: t := fun t e => by
      rw [e] at hc
      have := Pt.comp_nb hc
      rw [List.all_cons] at this
      exact absurd this (by rw [show Pm.nb 42 = false from by decide]; simp)
    have h2 : Lib.hasPrefix b [42] = false := by
      cases b with
      | nil => rfl
      | cons x t =>
        unfold Lib.hasPrefix
        rw [List.isPrefixOf, Bool.and_eq_false_iff]
        left
        rw [beq_eq_false_iff_ne]
        intro e
        exact hne t (by rw [← e])
    constructor
    · simp [Lib.trimPrefix, h2]
    · rw [h2]; rfl
def nameOf (b : List UInt8) (F : List UInt8 → Bool) : List UInt8 := match Pt.star b with
  | none => b
  | some t => ((Pt.Rg.firsts.map fun c => c :: t).find? F).getD []
theorem find_map_at {f : UInt8 → List UInt8} {F : List UInt8 → Bool} : ∀ {l : List UInt8} {k : Nat}, k < l.length → (∀ j, j < k → F (f (l.getD j 0)) = false) → F (f (l.getD k 0)) = true → (l.map f).find? F = some (f (l.getD k 0))
  | [], k, h, _, _ => absurd h (Nat.not_lt_zero _)
  | a :: l, 0, _, _, h2 => by
    rw [List.map_cons, List.find?_cons_of_pos (by exact h2)]
    rfl
  | a :: l, k + 1, h, h1, h2 => by
    rw [List.map_cons, List.find?_cons_of_neg (by have := h1 0 (by omega); simp at this; rw [this]; decide)]
    exact find_map_at (l := l) (k := k) (by simpa using h) (fun j hj => by simpa using h1 (j + 1) (by omega)) (by simpa using h2)
theorem find_map_none {f : UInt8 → List UInt8} {F : List UInt8 → Bool} {l : List UInt8} (h : ∀ j, j < l.length → F (f (l.getD j 0)) = false) : (l.map f).find? F = none := by
  rw [List.find?_eq_none]
  intro x hx
  obtain ⟨c, hc, rfl⟩ := List.mem_map.1 hx
  obtain ⟨j, hj, rfl⟩ := List.mem_iff_getElem.1 hc
  have := h j hj
  rw [List.getD_eq_getElem?_getD, List.getElem?_eq_getElem hj] at this
  rw [show F (f l[j]) = false from this]
  decide
abbrev firstBytes : ByteArray := ⟨#[43, 45, 48, 49, 50, 51, 52, 53, 54, 55, 56, 57, 65, 66, 67, 68, 69, 70, 71, 72, 73, 74, 75, 76, 77, 78, 79, 80, 81, 82, 83, 84, 85, 86, 87, 88, 89, 90, 95, 97, 98, 99, 100, 101, 102, 103, 104, 105, 106, 107, 108, 109, 110, 111, 112, 113, 114, 115, 116, 117, 118, 119, 120, 121, 122]⟩
theorem first_at {k : Nat} (hk : k < 65) (t : List UInt8) : (ByteArray.extract ⟨#[43, 45, 48, 49, 50, 51, 52, 53, 54, 55, 56, 57, 65, 66, 67, 68, 69, 70, 71, 72, 73, 74, 75, 76, 77, 78, 79, 80, 81, 82, 83, 84, 85, 86, 87, 88, 89, 90, 95, 97, 98, 99, 100, 101, 102, 103, 104, 105, 106, 107, 108, 109, 110, 111, 112, 113, 114, 115, 116, 117, 118, 119, 120, 121, 122]⟩ k (k + 1) ++ ⟨t.toArray⟩).data.toList = Pt.Rg.firsts.getD k 0 :: t := by
  rw [ByteArray.data_append, Array.toList_append]
  rw [Lib.extract_data]
  show _ ++ t = _
  rw [show (ByteArray.mk #[43, 45, 48, 49, 50, 51, 52, 53, 54, 55, 56, 57, 65, 66, 67, 68, 69, 70, 71, 72, 73, 74, 75, 76, 77, 78, 79, 80, 81, 82, 83, 84, 85, 86, 87, 88, 89, 90, 95, 97, 98, 99, 100, 101, 102, 103, 104, 105, 106, 107, 108, 109, 110, 111, 112, 113, 114, 115, 116, 117, 118, 119, 120, 121, 122]).data.toList = Pt.Rg.firsts from rfl]
  have hl := Pt.Rg.firsts_len
  rw [show k + 1 - k = 1 by omega]
  rw [List.drop_eq_getElem_cons (by rw [hl]; exact hk), List.getD_eq_getElem?_getD, List.getElem?_eq_getElem (by rw [hl]; exact hk)]
  rfl
set_option maxHeartbeats 4000000 in
theorem leastName_any (s : ByteArray) (F : List UInt8 → Bool) (lb0 lb1 : Value) (w : World) (hb : Pt.part s.data.toList = true) (hs : s.size ≤ 10000)
    (hf : ∀ (x : ByteArray) (w' : World), x.size ≤ 10001 → Below w.heap.size w w' → Calls Tryz.prog 82 #[.string x, lb0, lb1] w' (GivesBB w' (F x.data.toList))) :
    Calls Tryz.prog 81 #[.string s, .func (.func 82) #[] #[lb0, lb1]] w (GivesStr w (nameOf s.data.toList F)) := by
  obtain ⟨h1, h2⟩ := part_prefix hb
  have HC := Lib.hid (cutp_any s ⟨#[42]⟩ w)
  rw [show (⟨#[42]⟩ : ByteArray).data.toList = [42] from rfl, h1, h2] at HC
  have HF := Lib.hid hf
  have HS := Lib.hid hs
  have HPC := Lib.hid (Pt.part_cases hb)
  clear hf h1 h2
  cases hst : Pt.star s.data.toList with
  | none =>
    have HV := Lib.hid (show nameOf s.data.toList F = s.data.toList by unfold nameOf; rw [hst])
    rw [hst] at HC
    clear hst hb hs
    go_enter Tryz.func81, Tryz.ntmps81
    go_wp2_with fail
    with_reducible refine HC.out.mono ?_
    rintro e w1 ⟨rfl, rfl⟩
    go_wp2
    go_ret
    exact ⟨s, rfl, HV.out.symm, by have := HS.out; unfold maxLen; omega, Below.refl _ _⟩
  | some t =>
    have HV := Lib.hid (show nameOf s.data.toList F = ((Pt.Rg.firsts.map fun c => c :: t).find? F).getD [] by unfold nameOf; rw [hst])
    rw [hst] at HC
    have htl : t.length ≤ 10000 := by
      rcases HPC.out with ⟨t', ht', hbe, _⟩ | ⟨hn, _⟩
      · rw [hst] at ht'
        injection ht' with ht'
        have hlen := congrArg List.length hbe
        rw [← Lib.size_eq, List.length_cons, ← ht'] at hlen
        omega
      · rw [hst] at hn; cases hn
    have HFK := Lib.hid (fun (k : Nat) (hk : k < 65) (w' : World) (hb' : Below w.heap.size w w') => show Calls Tryz.prog 82 #[.string (ByteArray.extract ⟨#[43, 45, 48, 49, 50, 51, 52, 53, 54, 55, 56, 57, 65, 66, 67, 68, 69, 70, 71, 72, 73, 74, 75, 76, 77, 78, 79, 80, 81, 82, 83, 84, 85, 86, 87, 88, 89, 90, 95, 97, 98, 99, 100, 101, 102, 103, 104, 105, 106, 107, 108, 109, 110, 111, 112, 113, 114, 115, 116, 117, 118, 119, 120, 121, 122]⟩ k (k + 1) ++ ⟨t.toArray⟩), lb0, lb1] w' (GivesBB w' (F (Pt.Rg.firsts.getD k 0 :: t))) from by
      have h := HF.out (ByteArray.extract ⟨#[43, 45, 48, 49, 50, 51, 52, 53, 54, 55, 56, 57, 65, 66, 67, 68, 69, 70, 71, 72, 73, 74, 75, 76, 77, 78, 79, 80, 81, 82, 83, 84, 85, 86, 87, 88, 89, 90, 95, 97, 98, 99, 100, 101, 102, 103, 104, 105, 106, 107, 108, 109, 110, 111, 112, 113, 114, 115, 116, 117, 118, 119, 120, 121, 122]⟩ k (k + 1) ++ ⟨t.toArray⟩) w' (by rw [Lib.size_eq, first_at hk, List.length_cons]; omega) hb'
      rw [first_at hk] at h
      exact h)
    have HSZ := Lib.hid (fun (k : Nat) (hk : k < 65) => show (ByteArray.extract ⟨#[43, 45, 48, 49, 50, 51, 52, 53, 54, 55, 56, 57, 65, 66, 67, 68, 69, 70, 71, 72, 73, 74, 75, 76, 77, 78, 79, 80, 81, 82, 83, 84, 85, 86, 87, 88, 89, 90, 95, 97, 98, 99, 100, 101, 102, 103, 104, 105, 106, 107, 108, 109, 110, 111, 112, 113, 114, 115, 116, 117, 118, 119, 120, 121, 122]⟩ k (k + 1) ++ ⟨t.toArray⟩).size ≤ maxLen from by rw [Lib.size_eq, first_at hk, List.length_cons]; unfold maxLen; omega)
    clear hst hb hs HPC
    go_enter Tryz.func81, Tryz.ntmps81
    go_wp2_with fail
    with_reducible refine HC.out.mono ?_
    rintro e w1 ⟨rfl, rfl⟩
    go_wp2
    go_loopg [17] 65 (fun gg s17 wx => ∃ (k : Nat), k + gg = 65 ∧ s17 = .int .i64 (k : Int) ∧ Below w.heap.size w wx ∧ Aside (∀ j, j < k → F (Pt.Rg.firsts.getD j 0 :: t) = false))
    case atStart => exact ⟨0, by omega, rfl, Below.refl _ _, fun j h => absurd h (Nat.not_lt_zero _)⟩
    case round =>
      obtain ⟨k, hk, rfl, hbw, HA⟩ := hrel
      have HBW := Lib.hid hbw
      by_cases hkn : k < 65
      · have i1 : (k : Int) < 65 := by omega
        have i2 : (0 : Int) ≤ (k : Int) := Int.natCast_nonneg _
        have i3 : min (k + 1) 65 - k + t.length ≤ 9223372036854775807 := by omega
        have i4 : ¬ 9223372036854775807 < min (k + 1) 65 - k + t.length := by omega
        have HC2 := Lib.hid (HFK.out k hkn wr hbw)
        clear hbw
        cases hF : F (Pt.Rg.firsts.getD k 0 :: t) with
        | true =>
          have HFT := Lib.hid hF
          rw [hF] at HC2
          clear hF
          go_wp2_with fail
          with_reducible refine HC2.out.mono ?_
          rintro e w1 ⟨rfl, hb1⟩
          have HB1 := Lib.hid (HBW.out.trans (hb1.mono HBW.out.size))
          clear hb1
          go_wp2
          go_ret
          refine ⟨_, rfl, ?_, HSZ.out k hkn, HB1.out⟩
          rw [first_at hkn, HV.out, find_map_at (f := fun c => c :: t) (by rw [Pt.Rg.firsts_len]; exact hkn) HA.out HFT.out]
          rfl
        | false =>
          have HFT := Lib.hid hF
          rw [hF] at HC2
          clear hF
          go_wp2_with fail
          with_reducible refine HC2.out.mono ?_
          rintro e w1 ⟨rfl, hb1⟩
          have HB1 := Lib.hid (HBW.out.trans (hb1.mono HBW.out.size))
          clear hb1
          go_wp2
          go_roundg (65 - (k + 1))
          case measure => go_light; omega
          case rel =>
            go_light
            refine ⟨k + 1, by omega, by go_num, HB1.out, (show Aside _ from fun j hj => ?_)⟩
            by_cases ej : j = k
            · rw [ej]; exact HFT.out
            · exact HA.out j (by omega)
      · have i1 : ¬ (k : Int) < 65 := by omega
        clear hbw
        go_wp2
        go_ret
        refine ⟨⟨#[]⟩, rfl, ?_, by decide, HBW.out⟩
        rw [HV.out, find_map_none (f := fun c => c :: t) (fun j hj => HA.out j (by rw [Pt.Rg.firsts_len] at hj; omega))]
        rfl
end Go.Proofs.YtembmegllpkmfaaGreatDoor

namespace Go.Proofs.YtembmegllpkmfaaGreatDoor
open Go.RowKit

theorem setOf_ext {P Q : Nat → Bool} : ∀ {n : Nat}, (∀ k, k < n → P k = Q k) → setOf P n = setOf Q n
  | 0, _ => rfl
  | n + 1, h => by
    unfold setOf
    rw [setOf_ext (n := n) fun k hk => h k (by omega), h n (by omega)]
theorem setOf_and (P Q : Nat → Bool) (n : Nat) : setOf P n &&& setOf Q n = setOf (fun k => P k && Q k) n := by
  apply Nat.eq_of_testBit_eq
  intro k
  rw [Nat.testBit_and, setOf_bit, setOf_bit, setOf_bit]
  cases decide (k < n) <;> simp
theorem setOf_or (P Q : Nat → Bool) (n : Nat) : setOf P n ||| setOf Q n = setOf (fun k => P k || Q k) n := by
  apply Nat.eq_of_testBit_eq
  intro k
  rw [Nat.testBit_or, setOf_bit, setOf_bit, setOf_bit]
  cases decide (k < n) <;> simp
theorem setOf_zero {P : Nat → Bool} {n : Nat} : setOf P n = 0 ↔ ∀ k, k < n → P k = false := by
  constructor
  · intro h k hk
    have h1 := setOf_bit P n k
    rw [h, Nat.zero_testBit, decide_eq_true hk, Bool.true_and] at h1
    exact h1.symm
  · intro h
    apply Nat.eq_of_testBit_eq
    intro k
    rw [setOf_bit, Nat.zero_testBit]
    by_cases hk : k < n
    · rw [h k hk, Bool.and_false]
    · rw [decide_eq_false hk, Bool.false_and]
/-- The holes that are in a set. -/
def msOf (H : List Pt.Pat) (A : Nat → Bool) : List Pt.Pat := ((List.range H.length).filter A).map fun k => H.getD k Pt.none_
theorem msOf_any {H : List Pt.Pat} {A : Nat → Bool} {f : Pt.Pat → Bool} : (msOf H A).any f = true ↔ ∃ k, k < H.length ∧ A k = true ∧ f (H.getD k Pt.none_) = true := by
  unfold msOf
  rw [List.any_eq_true]
  constructor
  · rintro ⟨x, hx, hf⟩
    obtain ⟨k, hk, rfl⟩ := List.mem_map.1 hx
    obtain ⟨h1, h2⟩ := List.mem_filter.1 hk
    exact ⟨k, List.mem_range.1 h1, h2, hf⟩
  · rintro ⟨k, hk, ha, hf⟩
    exact ⟨_, List.mem_map.2 ⟨k, List.mem_filter.2 ⟨List.mem_range.2 hk, ha⟩, rfl⟩, hf⟩
theorem msOf_filter (H : List Pt.Pat) (A : Nat → Bool) (f : Pt.Pat → Bool) : (msOf H A).filter f = msOf H fun k => A k && f (H.getD k Pt.none_) := by
  unfold msOf
  rw [List.filter_map, List.filter_filter]
  congr 1
  exact List.filter_congr fun k _ => Bool.and_comm _ _
theorem msOf_all (H : List Pt.Pat) (f : Pt.Pat → Bool) : msOf H (fun k => f (H.getD k Pt.none_)) = H.filter f := by
  have h : H = (List.range H.length).map fun k => H.getD k Pt.none_ := by
    apply List.ext_getElem
    · simp
    · intro i h1 h2
      simp [List.getElem?_eq_getElem h1]
  conv => rhs; rw [h, List.filter_map]
  rfl
/-- What the two closures make of the sets. -/
theorem free_iff (H : List Pt.Pat) (A : Nat → Bool) (f1 f2 : Pt.Pat → Bool) :
    decide ((setOf A H.length &&& setOf (fun k => f1 (H.getD k Pt.none_)) H.length) &&& setOf (fun k => f2 (H.getD k Pt.none_)) H.length = 0) = !(msOf H A).any fun h => f1 h && f2 h := by
  rw [setOf_and, setOf_and, Bool.eq_iff_iff, decide_eq_true_eq, setOf_zero, Bool.not_eq_true', ← Bool.not_eq_true, msOf_any]
  constructor
  · rintro h ⟨k, hk, ha, hf⟩
    have := h k hk
    rw [Bool.and_assoc, ha, hf] at this
    exact absurd this (by decide)
  · intro h k hk
    rw [Bool.and_assoc]
    cases ha : A k with
    | false => rfl
    | true =>
      cases hf : (f1 (H.getD k Pt.none_) && f2 (H.getD k Pt.none_)) with
      | false => rfl
      | true => exact absurd ⟨k, hk, ha, hf⟩ h
/-- The holes whose part at a place is this text. -/
def withP (g : Pt.Rg.Reg) (i : Nat) (x : List UInt8) (k : Nat) : Bool := decide (Pt.Rg.partAt (g.holes.getD k Pt.none_) i = x)
set_option maxHeartbeats 2000000 in
theorem n2_any (A : Option Addr) (xs : List ByteArray) (c : Nat) (b : Bool) (H : Option Addr) (bl : List BindV) (e : Nat) (g : Pt.Rg.Reg) (s : ByteArray) (qi qg i : Nat) (w : World) (hci : w.cell? ⟨qi, 0, none⟩ = some (.int .i64 (i : Int))) (hqi : qi < w.heap.size) (hgb : GBox w qg A xs.length c b H bl.length e) (hg : RegR w A xs c b H bl e g) (h64 : bl.length ≤ 64) :
    Calls Tryz.prog 78 #[.string s, .pointer (some ⟨qg, 0, none⟩), .pointer (some ⟨qi, 0, none⟩)] w (GivesSet w (setOf (withP g i s.data.toList) bl.length)) := by
  obtain ⟨W0, hW0⟩ : ∃ W0, W0 = w.alloc (.cells #[.string s] 9) := ⟨_, rfl⟩
  have hal : Below w.heap.size w W0 := by rw [hW0]; exact (Below.refl _ _).alloc (Nat.le_refl _) _
  have HAL := Lib.hid hal
  have hsc : W0.cell? ⟨w.heap.size, 0, none⟩ = some (.string s) := by rw [hW0]; exact cells_new _ _ _ 0 _ rfl
  have hsl : w.heap.size < W0.heap.size := by rw [hW0]; simp
  obtain ⟨g0, g1, g2, g3⟩ := hgb.keep hal
  have HC := Lib.hid (where_n21 (.pointer (some ⟨qi, 0, none⟩)) (.pointer (some ⟨w.heap.size, 0, none⟩)) (withP g i s.data.toList) H bl e W0 (hg.keep hal).holes h64 (fun k hk w' hb => by
    have h1 := n21_any bl[k].A bl[k].xs bl[k].c bl[k].b bl[k].pat qi w.heap.size i s w' (((hal.trans (hb.mono hal.size)).cell (p := ⟨qi, 0, none⟩) hqi).trans hci) (Nat.lt_of_lt_of_le (Nat.lt_of_lt_of_le hqi hal.size) hb.size) ((hb.cell (p := ⟨w.heap.size, 0, none⟩) hsl).trans hsc) (Nat.lt_of_lt_of_le hsl hb.size) (((hg.keep hal).keep hb).holes.parts _ (List.getElem_mem hk))
    unfold withP
    rw [reg_at hg hk]
    exact h1))
  generalize setOf (withP g i s.data.toList) bl.length = v at *
  generalize bl.length = m at *
  clear hg hal hgb hci
  subst hW0
  go_enter Tryz.func78, Tryz.ntmps78
  go_wp2_with fail
  with_reducible refine HC.out.mono ?_
  rintro e w1 ⟨rfl, hb⟩
  have HB := Lib.hid hb
  clear hb
  go_wp2
  go_ret
  exact ⟨rfl, HAL.out.trans (HB.out.mono HAL.out.size)⟩
set_option maxHeartbeats 2000000 in
theorem n4_any (s : ByteArray) (ql qw L S : Nat) (lb0 lb1 : Value) (w : World) (hcl : w.cell? ⟨ql, 0, none⟩ = some (.int .u64 (L : Int))) (hql : ql < w.heap.size) (hcw : w.cell? ⟨qw, 0, none⟩ = some (.func (.func 78) #[] #[lb0, lb1])) (hqw : qw < w.heap.size)
    (hL : L < 18446744073709551616) (hS : S < 18446744073709551616) (hf : ∀ w', Below w.heap.size w w' → Calls Tryz.prog 78 #[.string s, lb0, lb1] w' (GivesSet w' S)) :
    Calls Tryz.prog 82 #[.string s, .pointer (some ⟨ql, 0, none⟩), .pointer (some ⟨qw, 0, none⟩)] w (GivesBB w (decide (L &&& S = 0))) := by
  have HC := Lib.hid (hf w.drew (below_drew (Below.refl _ _)))
  have HL := Lib.hid hL
  have HSL := Lib.hid hS
  clear hf hL hS
  by_cases hv : L &&& S = 0
  · rw [decide_eq_true hv]
    have i5 : bits .and .u64 (L : Int) (S : Int) = ((L &&& S : Nat) : Int) := bits_and_u64_nat L S HL.out HSL.out
    have i6 : (((L &&& S : Nat) : Int) == 0) = true := by rw [beq_iff_eq]; omega
    clear hv
    go_enter Tryz.func82, Tryz.ntmps82
    go_wp2_with fail
    go_region_held3 (fun w' => w'.cell? ⟨ql, 0, none⟩ = some (.int .u64 (L : Int)) ∧ w'.cell? ⟨qw, 0, none⟩ = some (.func (.func 78) #[] #[lb0, lb1]))
      (first | exact ⟨(hb.cell (p := ⟨ql, 0, none⟩) (by exact hql)).trans hcl, (hb.cell (p := ⟨qw, 0, none⟩) (by exact hqw)).trans hcw⟩ | go_keep)
      ((go_at_call 78; have hcc := HC.out; with_reducible refine hcc.mono ?_; intro e w' hh; unfold GivesSet at hh; obtain ⟨rfl, hb⟩ := hh))
    go_wp2
    go_ret
    exact ⟨rfl, (below_drew (Below.refl _ _)).trans (hb.mono (by exact Nat.le_refl _))⟩
  · rw [decide_eq_false hv]
    have i5 : bits .and .u64 (L : Int) (S : Int) = ((L &&& S : Nat) : Int) := bits_and_u64_nat L S HL.out HSL.out
    have i6 : (((L &&& S : Nat) : Int) == 0) = false := by rw [beq_eq_false_iff_ne]; omega
    clear hv
    go_enter Tryz.func82, Tryz.ntmps82
    go_wp2_with fail
    go_region_held3 (fun w' => w'.cell? ⟨ql, 0, none⟩ = some (.int .u64 (L : Int)) ∧ w'.cell? ⟨qw, 0, none⟩ = some (.func (.func 78) #[] #[lb0, lb1]))
      (first | exact ⟨(hb.cell (p := ⟨ql, 0, none⟩) (by exact hql)).trans hcl, (hb.cell (p := ⟨qw, 0, none⟩) (by exact hqw)).trans hcw⟩ | go_keep)
      ((go_at_call 78; have hcc := HC.out; with_reducible refine hcc.mono ?_; intro e w' hh; unfold GivesSet at hh; obtain ⟨rfl, hb⟩ := hh))
    go_wp2
    go_ret
    exact ⟨rfl, (below_drew (Below.refl _ _)).trans (hb.mono (by exact Nat.le_refl _))⟩
end Go.Proofs.YtembmegllpkmfaaGreatDoor

namespace Go.Proofs.YtembmegllpkmfaaGreatDoor
open Go.RowKit

theorem nameAt_of {g : Pt.Rg.Reg} {i m : Nat} {A : Nat → Bool} {x : List UInt8} (hm : m = g.holes.length) (h : Pt.Rg.nameAt g.base i (msOf g.holes A) = some x) :
    nameOf (Pt.Rg.partAt g.base i) (fun y => decide ((setOf A m &&& setOf (fun k => decide (Pt.Rg.alikeFrom (g.holes.getD k Pt.none_) g.base = i + 1)) m) &&& setOf (withP g i y) m = 0)) = x := by
  subst hm
  unfold Pt.Rg.nameAt at h
  unfold nameOf
  cases hs : Pt.star (Pt.Rg.partAt g.base i) with
  | none => rw [hs] at h; exact Option.some.inj h
  | some t =>
    rw [hs] at h
    have e : (fun y => decide ((setOf A g.holes.length &&& setOf (fun k => decide (Pt.Rg.alikeFrom (g.holes.getD k Pt.none_) g.base = i + 1)) g.holes.length) &&& setOf (withP g i y) g.holes.length = 0)) = fun y => !(msOf g.holes A).any fun h => decide (Pt.Rg.alikeFrom h g.base = i + 1) && decide (Pt.Rg.partAt h i = y) := by
      funext y
      exact free_iff g.holes A (fun h => decide (Pt.Rg.alikeFrom h g.base = i + 1)) (fun h => decide (Pt.Rg.partAt h i = y))
    show ((Pt.Rg.firsts.map fun c => c :: t).find? _).getD [] = x
    rw [e]
    rw [show ((Pt.Rg.firsts.map fun c => c :: t).find? fun y => !(msOf g.holes A).any fun h => decide (Pt.Rg.alikeFrom h g.base = i + 1) && decide (Pt.Rg.partAt h i = y)) = some x from h]
    rfl
theorem namesGo_step {B : Pt.Pat} {i k : Nat} {ms : List Pt.Pat} {l : List (List UInt8)} (h : Pt.Rg.namesGo B i (k + 1) ms = some l) :
    ∃ x r, Pt.Rg.nameAt B i ms = some x ∧ l = x :: r ∧ Pt.Rg.namesGo B (i + 1) k (ms.filter fun h => decide (Pt.Rg.partAt h i = Pt.Rg.partAt B i) || decide (Pt.Rg.partAt h i = x)) = some r := by
  unfold Pt.Rg.namesGo at h
  cases hn : Pt.Rg.nameAt B i ms with
  | none => rw [hn] at h; cases h
  | some x =>
    rw [hn] at h
    obtain ⟨r, hr, hl⟩ := Option.map_eq_some_iff.1 h
    exact ⟨x, r, rfl, hl.symm, hr⟩
def fitsP (g : Pt.Rg.Reg) (n k : Nat) : Bool := Pt.fits (g.holes.getD k Pt.none_) n
def alikeP (g : Pt.Rg.Reg) (i k : Nat) : Bool := decide (Pt.Rg.alikeFrom (g.holes.getD k Pt.none_) g.base = i + 1)
structure InB (u w' : World) : Prop where
  below : Below u.heap.size u w'
abbrev S10 (u : World) (q : Nat) (v : Value) (w' : World) : Prop := w'.cell? ⟨q, 0, none⟩ = some v ∧ InB u w'
theorem S10.nxt {u w1 w' : World} {q : Nat} {v : Value} (hq : q < u.heap.size) (hb : Below w1.heap.size w1 w') (h : S10 u q v w1) : S10 u q v w' := ⟨(hb.cell (p := ⟨q, 0, none⟩) (Nat.lt_of_lt_of_le hq h.2.below.size)).trans h.1, ⟨h.2.below.trans (hb.mono h.2.below.size)⟩⟩
theorem S10.drew {u w' : World} {q : Nat} {v : Value} (h : S10 u q v w') : S10 u q v w'.drew := ⟨h.1, ⟨below_drew h.2.below⟩⟩
/-- The set behind a name. -/
def nextA (g : Pt.Rg.Reg) (i : Nat) (A : Nat → Bool) (p x : List UInt8) (k : Nat) : Bool := A k && (withP g i p k || withP g i x k)
theorem nextA_set (g : Pt.Rg.Reg) (i : Nat) (A : Nat → Bool) (p x : List UInt8) (m : Nat) : setOf A m &&& (setOf (withP g i p) m ||| setOf (withP g i x) m) = setOf (nextA g i A p x) m := by
  rw [setOf_or, setOf_and]
  rfl
theorem nextA_ms (g : Pt.Rg.Reg) (i : Nat) (A : Nat → Bool) (p x : List UInt8) : (msOf g.holes A).filter (fun h => decide (Pt.Rg.partAt h i = p) || decide (Pt.Rg.partAt h i = x)) = msOf g.holes (nextA g i A p x) := by
  rw [msOf_filter]
  rfl
set_option maxHeartbeats 4000000 in
theorem names_any (A : Option Addr) (xs : List ByteArray) (c : Nat) (b : Bool) (H : Option Addr) (bl : List BindV) (e : Nat) (g : Pt.Rg.Reg) (n : Nat) (l : List (List UInt8)) (w : World) (hg : RegR w A xs c b H bl e g) (hB : Pt.check g.base = 0) (h64 : bl.length ≤ 64) (hn : n ≤ 1000)
    (hsz : ∀ i, (Pt.Rg.partAt g.base i).length ≤ 10000) (hl : Pt.Rg.namesGo g.base 0 n (g.holes.filter fun h => Pt.fits h n) = some l) :
    Calls Tryz.prog 31 #[regV A xs.length c b H bl.length e, .int .i64 (n : Int)] w (GivesL w l) := by
  obtain ⟨W0, hW0⟩ : ∃ W0, W0 = (w.alloc (regObj A xs.length c b H bl.length e)).alloc (.cells #[.int .i64 (n : Int)] 3) := ⟨_, rfl⟩
  have hal : Below w.heap.size w W0 := by rw [hW0]; exact ((Below.refl _ _).alloc (Nat.le_refl _) _).alloc (by simp) _
  have HAL := Lib.hid hal
  have hgb : GBox W0 w.heap.size A xs.length c b H bl.length e := by rw [hW0]; exact (GBox.new ..).keep ((Below.refl _ _).alloc (Nat.le_refl _) _)
  have hnc : W0.cell? ⟨w.heap.size + 1, 0, none⟩ = some (.int .i64 (n : Int)) := by rw [hW0]; simp [go_sem]
  have hnl : w.heap.size + 1 < W0.heap.size := by rw [hW0]; simp
  have HGB := Lib.hid hgb
  have HNC := Lib.hid hnc
  have hg0 := hg.keep hal
  have HW1 := Lib.hid (where_n1 (.pointer (some ⟨w.heap.size + 1, 0, none⟩)) (fitsP g n) H bl e W0 hg0.holes h64 (fun k hk w' hb => by
    have h1 := n1_any bl[k].A bl[k].xs bl[k].c bl[k].b bl[k].pat (w.heap.size + 1) n w' ((hb.cell (p := ⟨w.heap.size + 1, 0, none⟩) hnl).trans hnc) (Nat.lt_of_lt_of_le hnl hb.size) ((hg0.keep hb).holes.parts _ (List.getElem_mem hk))
    unfold fitsP
    rw [reg_at hg hk]
    exact h1))
  have HPA := Lib.hid (fun (i : Nat) (w' : World) (hb : Below W0.heap.size W0 w') => gpartAt_any A xs c b g.base i w' (hg0.keep hb).base)
  have HW3 := Lib.hid (fun (q i : Nat) (w2 : World) (hb : Below W0.heap.size W0 w2) (hc : w2.cell? ⟨q, 0, none⟩ = some (.int .i64 (i : Int))) (hq : q < w2.heap.size) (hi : i < 100000) => where_n3 (.pointer (some ⟨w.heap.size, 0, none⟩)) (.pointer (some ⟨q, 0, none⟩)) (alikeP g i) H bl e w2 (hg0.keep hb).holes h64 (fun k hk w' hb' => by
    have hbw := hb.trans (hb'.mono hb.size)
    have h1 := n3_any bl[k].A bl[k].xs bl[k].c bl[k].b bl[k].pat A xs c b g.base H bl.length e q w.heap.size i w' ((hb'.cell (p := ⟨q, 0, none⟩) hq).trans hc) (Nat.lt_of_lt_of_le hq hb'.size) hi (hgb.keep hbw) (hg0.keep hbw).base ((hg0.keep hbw).holes.parts _ (List.getElem_mem hk))
    unfold alikeP
    rw [reg_at hg hk]
    exact h1))
  have HN2 := Lib.hid (fun (s : ByteArray) (q i : Nat) (w2 : World) (hb : Below W0.heap.size W0 w2) (hc : w2.cell? ⟨q, 0, none⟩ = some (.int .i64 (i : Int))) (hq : q < w2.heap.size) => n2_any A xs c b H bl e g s q w.heap.size i w2 hc hq (hgb.keep hb) (hg0.keep hb) h64)
  have HLN := Lib.hid (fun (x : ByteArray) (q q1 q2 i L : Nat) (w2 : World) (hx : x.data.toList = Pt.Rg.partAt g.base i) (hb : Below W0.heap.size W0 w2) (hc : w2.cell? ⟨q, 0, none⟩ = some (.int .i64 (i : Int))) (hq : q < w2.heap.size) (hc1 : w2.cell? ⟨q1, 0, none⟩ = some (.func (.func 78) #[] #[.pointer (some ⟨w.heap.size, 0, none⟩), .pointer (some ⟨q, 0, none⟩)])) (hq1 : q1 < w2.heap.size) (hc2 : w2.cell? ⟨q2, 0, none⟩ = some (.int .u64 (L : Int))) (hq2 : q2 < w2.heap.size) (hL : L < 18446744073709551616) =>
    leastName_any x (fun y => decide (L &&& setOf (withP g i y) bl.length = 0)) (.pointer (some ⟨q2, 0, none⟩)) (.pointer (some ⟨q1, 0, none⟩)) w2 (by rw [hx]; exact Pt.Rg.partAt_part hB i) (by rw [Lib.size_eq, hx]; exact hsz i) (fun y w' _ hb' =>
      n4_any y q2 q1 L (setOf (withP g i y.data.toList) bl.length) _ _ w' ((hb'.cell (p := ⟨q2, 0, none⟩) hq2).trans hc2) (Nat.lt_of_lt_of_le hq2 hb'.size) ((hb'.cell (p := ⟨q1, 0, none⟩) hq1).trans hc1) (Nat.lt_of_lt_of_le hq1 hb'.size) hL (setOf_64 _ h64) (fun w'' hb'' => by
        have hbb := hb'.trans (hb''.mono hb'.size)
        exact n2_any A xs c b H bl e g y q w.heap.size i w'' ((hbb.cell (p := ⟨q, 0, none⟩) hq).trans hc) (Nat.lt_of_lt_of_le hq hbb.size) (hgb.keep (hb.trans (hbb.mono hb.size))) (hg0.keep (hb.trans (hbb.mono hb.size))) h64)))
  have HS64 := Lib.hid (fun (P : Nat → Bool) => setOf_64 P h64)
  have HM := Lib.hid (reg_len hg).symm
  have HL0 := Lib.hid (show Pt.Rg.namesGo g.base 0 n (msOf g.holes (fitsP g n)) = some l by show Pt.Rg.namesGo g.base 0 n (msOf g.holes fun k => Pt.fits (g.holes.getD k Pt.none_) n) = some l; rw [msOf_all g.holes fun h => Pt.fits h n]; exact hl)
  have HZ := Lib.hid hsz
  clear hg hal hg0 hl hsz
  generalize bl.length = m at *
  generalize xs.length = nx at *
  obtain ⟨t0, t1, t2, tl⟩ := hgb
  go_enter Tryz.func31, Tryz.ntmps31
  go_wp2_with fail
  generalize hwg : (w.alloc (regObj A nx c b H m e)).alloc (.cells #[.int .i64 (n : Int)] 3) = W
  have hWW : W = W0 := by rw [← hwg, hW0]
  subst hWW
  clear hwg hW0
  with_reducible refine HW1.out.mono ?_
  rintro e w1 ⟨rfl, hb1⟩
  have HB1 := Lib.hid hb1
  have k1 := (hb1.cell (p := ⟨w.heap.size + 1, 0, none⟩) hnl).trans hnc
  clear hb1 t0 t1 t2 tl hnc
  go_wp2
  go_loopg [5, 6, 17] n (fun gg s5 s6 s17 wx => ∃ (i : Nat) (P : Nat → Bool) (zs : List ByteArray), i + gg = n ∧ s17 = .int .i64 (i : Int) ∧ s5 = .int .u64 ((setOf P m : Nat) : Int) ∧ OwnS wx W.heap.size s6 zs ∧ zs.length = i ∧ Below W.heap.size W wx ∧ Aside (∃ r, Pt.Rg.namesGo g.base i gg (msOf g.holes P) = some r ∧ bs zs ++ r = l))
  case atStart => exact ⟨0, _, [], by omega, rfl, rfl, OwnS.empty _ _, rfl, HB1.out, ⟨l, HL0.out, rfl⟩⟩
  case round =>
    obtain ⟨i, P, zs, hk, rfl, rfl, hown, hzl, hbw, HA⟩ := hrel
    have HOWN := Lib.hid hown
    have HBW := Lib.hid hbw
    have HZL := Lib.hid hzl
    cases gk with
    | zero =>
      have i1 : ¬ (i : Int) < (n : Int) := by omega
      clear hown hzl hbw
      go_wp2
      go_ret
      obtain ⟨r, hr, hbs⟩ := HA.out
      have hr0 : [] = r := Option.some.inj hr
      subst hr0
      rw [List.append_nil] at hbs
      obtain ⟨A', c', hv, hle, hcm, hrd, _⟩ := HOWN.out.form
      exact ⟨_, rfl, A', zs, c', hv, hbs, hle, hcm, hrd, HAL.out.trans (HBW.out.mono HAL.out.size)⟩
    | succ k =>
      have i1 : (i : Int) < (n : Int) := by omega
      obtain ⟨g0, g1, g2, g3⟩ := HGB.out.keep hbw
      have hsz0 := hbw.size
      clear hown hzl hbw
      go_wp2_with fail
      generalize hwg : wr.alloc (.cells #[.int .i64 (i : Int)] 3) = W1
      have hb1 : Below wr.heap.size wr W1 := by rw [← hwg]; exact (Below.refl _ _).alloc (Nat.le_refl _) _
      have ci1 : W1.cell? ⟨wr.heap.size, 0, none⟩ = some (.int .i64 (i : Int)) := by rw [← hwg]; exact cells_new _ _ _ 0 _ rfl
      have hq1 : wr.heap.size < W1.heap.size := by rw [← hwg]; simp
      clear hwg g0 g1 g2 g3
      have hB1 := HBW.out.trans (hb1.mono hsz0)
      have HR1 := Lib.hid hb1
      have HC1 := Lib.hid (HPA.out i W1 hB1)
      clear hb1
      with_reducible refine HC1.out.mono ?_
      intro e u1 hh
      unfold GivesStr at hh
      obtain ⟨x, rfl, hx, hxz, hb⟩ := hh
      have HX := Lib.hid hx
      have hB2 := hB1.trans (hb.mono hB1.size)
      have HR2 := Lib.hid (HR1.out.trans (hb.mono HR1.out.size))
      have ci2 := (hb.cell (p := ⟨wr.heap.size, 0, none⟩) hq1).trans ci1
      have hq2 := Nat.lt_of_lt_of_le hq1 hb.size
      obtain ⟨g0, g1, g2, g3⟩ := HGB.out.keep hB2
      clear hb hx hxz ci1 hq1 hB1 HC1
      go_wp2_with fail
      generalize hwg : u1.alloc (.cells #[.func (.func 78) #[] #[.pointer (some ⟨w.heap.size, 0, none⟩), .pointer (some ⟨wr.heap.size, 0, none⟩)]] 106) = W2
      have hb1 : Below u1.heap.size u1 W2 := by rw [← hwg]; exact (Below.refl _ _).alloc (Nat.le_refl _) _
      have cf1 : W2.cell? ⟨u1.heap.size, 0, none⟩ = some (.func (.func 78) #[] #[.pointer (some ⟨w.heap.size, 0, none⟩), .pointer (some ⟨wr.heap.size, 0, none⟩)]) := by rw [← hwg]; exact cells_new _ _ _ 0 _ rfl
      have hf1 : u1.heap.size < W2.heap.size := by rw [← hwg]; simp
      clear hwg g0 g1 g2 g3
      have hB3 := hB2.trans (hb1.mono hB2.size)
      have HR3 := Lib.hid (HR2.out.trans (hb1.mono HR2.out.size))
      have ci3 := (hb1.cell (p := ⟨wr.heap.size, 0, none⟩) hq2).trans ci2
      have hq3 := Nat.lt_of_lt_of_le hq2 hb1.size
      have HC1 := Lib.hid (HW3.out wr.heap.size i W2 hB3 ci3 hq3 (by omega))
      obtain ⟨L, hL⟩ : ∃ L, L = setOf P m &&& setOf (alikeP g i) m := ⟨_, rfl⟩
      have hL64 : L < 18446744073709551616 := by rw [hL]; exact Nat.lt_of_le_of_lt Nat.and_le_left (HS64.out P)
      have i5 : bits .and .u64 ((setOf P m : Nat) : Int) ((setOf (alikeP g i) m : Nat) : Int) = (L : Int) := by rw [hL]; exact bits_and_u64_nat _ _ (HS64.out P) (HS64.out _)
      have HL := Lib.hid hL
      have HL64 := Lib.hid hL64
      clear hb1 hB2 ci2 hq2 hL hL64
      with_reducible refine HC1.out.mono ?_
      rintro e u2 ⟨rfl, hb⟩
      have hB4 := hB3.trans (hb.mono hB3.size)
      have HR4 := Lib.hid (HR3.out.trans (hb.mono HR3.out.size))
      have ci4 := (hb.cell (p := ⟨wr.heap.size, 0, none⟩) hq3).trans ci3
      have hq4 := Nat.lt_of_lt_of_le hq3 hb.size
      have cf4 := (hb.cell (p := ⟨u1.heap.size, 0, none⟩) hf1).trans cf1
      have hf4 := Nat.lt_of_lt_of_le hf1 hb.size
      clear hb hB3 ci3 hq3 cf1 hf1 HC1
      go_wp2_with fail
      generalize hwg : u2.alloc (.cells #[.int .u64 (L : Int)] 104) = W3
      have hb1 : Below u2.heap.size u2 W3 := by rw [← hwg]; exact (Below.refl _ _).alloc (Nat.le_refl _) _
      have cl1 : W3.cell? ⟨u2.heap.size, 0, none⟩ = some (.int .u64 (L : Int)) := by rw [← hwg]; exact cells_new _ _ _ 0 _ rfl
      have hl1 : u2.heap.size < W3.heap.size := by rw [← hwg]; simp
      clear hwg
      have hB5 := hB4.trans (hb1.mono hB4.size)
      have HR5 := Lib.hid (HR4.out.trans (hb1.mono HR4.out.size))
      have ci5 := (hb1.cell (p := ⟨wr.heap.size, 0, none⟩) hq4).trans ci4
      have hq5 := Nat.lt_of_lt_of_le hq4 hb1.size
      have cf5 := (hb1.cell (p := ⟨u1.heap.size, 0, none⟩) hf4).trans cf4
      have hf5 := Nat.lt_of_lt_of_le hf4 hb1.size
      have HC1 := Lib.hid (HLN.out x wr.heap.size u1.heap.size u2.heap.size i L W3 HX.out hB5 ci5 hq5 cf5 hf5 cl1 hl1 HL64.out)
      clear hb1 hB4 ci4 hq4 cf4 hf4 i5
      with_reducible refine HC1.out.mono ?_
      intro e u3 hh
      unfold GivesStr at hh
      obtain ⟨y, rfl, hy, hyz, hb⟩ := hh
      have HY := Lib.hid hy
      have HB6 := Lib.hid (hB5.trans (hb.mono hB5.size))
      have HR6 := Lib.hid (HR5.out.trans (hb.mono HR5.out.size))
      have ci6 := (hb.cell (p := ⟨wr.heap.size, 0, none⟩) hq5).trans ci5
      have hq6 := Nat.lt_of_lt_of_le hq5 hb.size
      have cf6 := (hb.cell (p := ⟨u1.heap.size, 0, none⟩) hf5).trans cf5
      have hf6 := Nat.lt_of_lt_of_le hf5 hb.size
      clear hb hy hyz hB5 ci5 hq5 cf5 hf5 HC1 cl1 hl1
      have HND := Lib.hid (fun (s : ByteArray) (w' : World) (h : S10 u3 u1.heap.size (.func (.func 78) #[] #[.pointer (some ⟨w.heap.size, 0, none⟩), .pointer (some ⟨wr.heap.size, 0, none⟩)]) w') =>
        HN2.out s wr.heap.size i w' (HB6.out.trans (h.2.below.mono HB6.out.size)) ((h.2.below.cell (p := ⟨wr.heap.size, 0, none⟩) hq6).trans ci6) (Nat.lt_of_lt_of_le hq6 h.2.below.size))
      have hin : S10 u3 u1.heap.size (.func (.func 78) #[] #[.pointer (some ⟨w.heap.size, 0, none⟩), .pointer (some ⟨wr.heap.size, 0, none⟩)]) u3 := ⟨cf6, ⟨Below.refl _ _⟩⟩
      obtain ⟨Sx, hSx⟩ : ∃ Sx, Sx = setOf (withP g i x.data.toList) m := ⟨_, rfl⟩
      obtain ⟨Sy, hSy⟩ : ∃ Sy, Sy = setOf (withP g i y.data.toList) m := ⟨_, rfl⟩
      obtain ⟨So, hSo⟩ : ∃ So, So = Sx ||| Sy := ⟨_, rfl⟩
      have hx64 : Sx < 18446744073709551616 := by rw [hSx]; exact HS64.out _
      have hy64 : Sy < 18446744073709551616 := by rw [hSy]; exact HS64.out _
      have i7 : bits .or .u64 (Sx : Int) (Sy : Int) = (So : Int) := by rw [hSo]; exact bits_or_u64_nat _ _ hx64 hy64
      obtain ⟨Sn, hSn⟩ : ∃ Sn, Sn = setOf (nextA g i P x.data.toList y.data.toList) m := ⟨_, rfl⟩
      have hSe : Sn = setOf P m &&& So := by rw [hSn, hSo, hSx, hSy, nextA_set]
      have i8 : bits .and .u64 ((setOf P m : Nat) : Int) (So : Int) = (Sn : Int) := by
        rw [hSe]
        refine bits_and_u64_nat _ _ (HS64.out P) ?_
        rw [hSo, hSx, hSy, setOf_or]
        exact HS64.out _
      have HNX := Lib.hid (fun (w' : World) (h : S10 u3 u1.heap.size (.func (.func 78) #[] #[.pointer (some ⟨w.heap.size, 0, none⟩), .pointer (some ⟨wr.heap.size, 0, none⟩)]) w') => HND.out x w' h)
      have HNY := Lib.hid (fun (w' : World) (h : S10 u3 u1.heap.size (.func (.func 78) #[] #[.pointer (some ⟨w.heap.size, 0, none⟩), .pointer (some ⟨wr.heap.size, 0, none⟩)]) w') => HND.out y w' h)
      rw [← hSx] at HNX
      rw [← hSy] at HNY
      have HSn := Lib.hid hSn
      clear hSx hSy hSo hSn hSe hx64 hy64 ci6 hq6 HND
      go_upto_region 11 with fail
      go_cut [5] (fun s5 wx => s5 = .int .u64 (Sn : Int) ∧ InB u3 wx)
      case first =>
        set_option maxRecDepth 100000 in
        go_region_held3 (fun w' => w'.cell? ⟨u1.heap.size, 0, none⟩ = some (.func (.func 78) #[] #[.pointer (some ⟨w.heap.size, 0, none⟩), .pointer (some ⟨wr.heap.size, 0, none⟩)]) ∧ InB u3 w')
          (first | exact S10.nxt hf6 hb (by assumption) | exact S10.nxt hf6 hb (S10.drew hin) | exact S10.drew (by assumption) | exact hin | go_keep)
          (first
            | (go_at_call 78; have hcc := HNX.out _ (by assumption); with_reducible refine hcc.mono ?_; intro e w' hh; unfold GivesSet at hh; obtain ⟨rfl, hb⟩ := hh; have hIB9 := S10.nxt hf6 hb (by assumption))
            | (go_at_call 78; have hcc := HNY.out _ (by assumption); with_reducible refine hcc.mono ?_; intro e w' hh; unfold GivesSet at hh; obtain ⟨rfl, hb⟩ := hh; have hIB9 := S10.nxt hf6 hb (by assumption)))
        all_goals go_wp2_with fail
        all_goals go_meet
        all_goals exact ⟨rfl, hIB9.2⟩
      case rest =>
        obtain ⟨rfl, hIB⟩ := hcut
        have HIB := Lib.hid hIB
        have hzr : wr.heap.size ≤ wc.heap.size := Nat.le_trans HR6.out.size hIB.below.size
        have hWz : W.heap.size ≤ wc.heap.size := Nat.le_trans HBW.out.size hzr
        have HOX := Lib.hid (HOWN.out.below (HR6.out.trans (hIB.below.mono HR6.out.size)))
        have HBX := Lib.hid (HB6.out.trans (hIB.below.mono HB6.out.size))
        clear hin hIB i7 i8 cf6 hf6
        set_option maxRecDepth 100000 in
        go_wp2_with (refine wpList_append_ss rfl _ _ rfl W.heap.size _ zs rfl (HOX.out.below ((Below.refl _ _).alloc (Nat.le_refl _) _)) (some ⟨wc.heap.size, 0, none⟩) [y] 1 rfl (new_one wc y _) (fun h => by cases h) (by simp [HZL.out]; omega) (by simp; omega) ?_; intro v' w' hown' hb')
        have HO2 := Lib.hid hown'
        have HB7 := Lib.hid (show Below W.heap.size W w' from HBX.out.trans (((Below.refl _ _).alloc hWz _).trans hb'))
        clear hown' hb'
        go_wp2
        go_roundg k
        case measure => go_light; omega
        case rel =>
          go_light
          refine ⟨i + 1, nextA g i P x.data.toList y.data.toList, zs ++ [y], by omega, by go_num, by rw [HSn.out], HO2.out, by simp [HZL.out], HB7.out, (show Aside _ from ?_)⟩
          obtain ⟨r, hr, hbs⟩ := HA.out
          obtain ⟨nm, r', hname, rfl, hgo⟩ := namesGo_step hr
          have hnm : y.data.toList = nm := by
            rw [HY.out, HX.out, ← nameAt_of HM.out hname, HL.out]
            rfl
          refine ⟨r', ?_, ?_⟩
          · rw [← nextA_ms, HX.out, hnm]
            exact hgo
          · rw [← hbs, bs_append, ← hnm]
            simp [bs]
end Go.Proofs.YtembmegllpkmfaaGreatDoor
