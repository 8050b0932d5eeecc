/- The contracts of Int, Text and Bool. -/
import Derived.Test.YtbkpmmnkelihgaaTake
namespace Go.Proofs.Ytbkpmmnkelihgaa
open Go.RowKit

theorem byteT' : ByteT Try.prog 22 5 := ⟨Try.underlying22, Try.underlying5, by kernel_rfl⟩

def int3 (r : Nat × Nat × Nat) : Int × Nat × Nat := (Cm.unfoldN r.1, r.2)

theorem uintRes_lt (l : List UInt8) (at_ : Int) : ((Cm.uintRes l at_).1 : Int) < 18446744073709551616 := by
  have h := Cm.uintRes_cases l at_
  unfold Cm.big at h
  omega

theorem int_any (A : Option Addr) (l : List UInt8) (c : Nat) (at_ : Int) (w : World) (hr : Rd w w.heap.size A l) (hc : l.length ≤ c) (hl : (l.length : Int) ≤ 9223372036854775807) :
    Calls Try.prog 26 #[.slice A l.length c, .int .i64 at_] w (Gives3 w .i64 (int3 (Cm.uintRes l at_))) := by
  have hu := uint_any A l c at_ w hr hc hl
  have hb := uintRes_lt l at_
  generalize Cm.uintRes l at_ = r at hu hb
  obtain ⟨v, nx, e⟩ := r
  have hu2 : Calls Try.prog 24 #[.slice A l.length c, .int .i64 at_] w (Gives3 w .u64 ((v : Int), nx, e)) := hu
  have HU := Lib.hid hu2
  have HB := Lib.hid (show (v : Int) < 18446744073709551616 from hb)
  clear hu hu2 hb
  go_enter Try.func26, Try.ntmps26
  go_wp2_with fail
  with_reducible refine HU.out.mono ?_
  rintro e w' ⟨rfl, rfl⟩
  go_wp2_with fail
  with_reducible refine (unfold_any v _ HB.out).mono ?_
  rintro e w' ⟨rfl, rfl⟩
  go_wp2
  go_ret3
  exact ⟨rfl, rfl⟩

/-- A text, two numbers, and the world as it was. -/
def GivesT (w : World) (r : List UInt8 × Nat × Nat) (e : Ending) (w' : World) : Prop :=
  e = .returned (.tuple #[.string ⟨r.1.toArray⟩, .int .i64 (r.2.1 : Int), .int .i64 (r.2.2 : Int)]) ∧ w = w'

theorem text_any (A : Option Addr) (l : List UInt8) (c : Nat) (at_ most : Int) (w : World) (hr : Rd w w.heap.size A l) (hc : l.length ≤ c) (hcm : (c : Int) ≤ 9223372036854775807)
    (hm : -9223372036854775808 ≤ most) (hm' : most ≤ 9223372036854775807) :
    Calls Try.prog 28 #[.slice A l.length c, .int .i64 at_, .int .i64 most] w (GivesT w (Cm.textRes l at_ most)) := by
  have hu := uint_any A l c at_ w hr hc (by omega)
  have hcs := Cm.uintRes_cases l at_
  have ht : Cm.textRes l at_ most = if (Cm.uintRes l at_).2.2 ≠ 0 then ([], 0, (Cm.uintRes l at_).2.2)
    else if max most 0 < ((Cm.uintRes l at_).1 : Int) then ([], 0, 13)
    else if l.length - (Cm.uintRes l at_).2.1 < (Cm.uintRes l at_).1 then ([], 0, 11)
    else ((l.drop (Cm.uintRes l at_).2.1).take (Cm.uintRes l at_).1, (Cm.uintRes l at_).2.1 + (Cm.uintRes l at_).1, 0) := rfl
  rw [ht]
  clear ht
  generalize Cm.uintRes l at_ = r at hu hcs
  obtain ⟨v, nx, e⟩ := r
  have hu2 : Calls Try.prog 24 #[.slice A l.length c, .int .i64 at_] w (Gives3 w .u64 ((v : Int), nx, e)) := hu
  have HU := Lib.hid hu2
  unfold Cm.big at hcs
  simp only at hcs
  clear hu hu2
  by_cases he : e ≠ 0
  · rw [if_pos he]
    have t1 : ((e : Int) != 0) = true := by simp; omega
    clear he hcs
    go_enter Try.func28, Try.ntmps28
    go_wp2_with fail
    with_reducible refine HU.out.mono ?_
    rintro e w' ⟨rfl, rfl⟩
    go_wp2
    go_ret3
    exact ⟨rfl, rfl⟩
  · have he0 : e = 0 := by omega
    subst he0
    rw [if_neg he]
    have h1 : (v : Int) ≤ 18446744073709551615 := by omega
    have h2 : nx ≤ l.length := by omega
    have HR := Lib.hid hr
    clear hcs he hr
    by_cases hbig : max most 0 < (v : Int)
    · rw [if_pos hbig]
      by_cases hm0 : most < 0
      · have hv : (0 : Int) < v := by omega
        clear hbig
        go_enter Try.func28, Try.ntmps28
        go_wp2_with fail
        with_reducible refine HU.out.mono ?_
        rintro e w' ⟨rfl, rfl⟩
        go_wp2
        go_ret3
        exact ⟨rfl, rfl⟩
      · have hm1 : 0 ≤ most := by omega
        have hv : most < v := by omega
        clear hbig
        go_enter Try.func28, Try.ntmps28
        go_wp2_with fail
        with_reducible refine HU.out.mono ?_
        rintro e w' ⟨rfl, rfl⟩
        go_wp2
        go_ret3
        exact ⟨rfl, rfl⟩
    · rw [if_neg hbig]
      have hv : if most < 0 then (v : Int) ≤ 0 else (v : Int) ≤ most := by split <;> omega
      have hv1 : (v : Int) ≤ 9223372036854775807 := by omega
      clear hbig
      by_cases hm0 : most < 0
      · rw [if_pos hm0] at hv
        have hfew : ¬ (l.length - nx < v) := by omega
        rw [if_neg hfew]
        have hf : (v : Int) ≤ (l.length : Int) - nx := by omega
        have hf2 : (nx : Int) + v ≤ l.length := by omega
        have hlen : v = ((l.drop nx).take v).length := by rw [List.length_take, List.length_drop]; omega
        have HL := Lib.hid hlen
        have HD := Lib.hid ((HR.out.drop h2 hc).take v)
        clear hfew hlen
        by_cases hcn : c = nx
        · have hd2 := HD.out
          rw [if_pos hcn] at hd2
          have HD2 := Lib.hid hd2
          clear hd2
          subst hcn
          go_enter Try.func28, Try.ntmps28
          go_wp2_with fail
          with_reducible refine HU.out.mono ?_
          rintro e w' ⟨rfl, rfl⟩
          go_wp2_with (refine wpList_convert_rd rfl 22 9 5 (.tmp 43) byteT' Try.underlying9 rfl _ _ _ _ (by have := HL.out; omega) _ rfl HD2.out ?_)
          go_ret3
          exact ⟨rfl, rfl⟩
        · have hd2 := HD.out
          rw [if_neg hcn] at hd2
          have HD2 := Lib.hid hd2
          clear hd2
          go_enter Try.func28, Try.ntmps28
          go_wp2_with fail
          with_reducible refine HU.out.mono ?_
          rintro e w' ⟨rfl, rfl⟩
          go_wp2_with (refine wpList_convert_rd rfl 22 9 5 (.tmp 43) byteT' Try.underlying9 rfl _ _ _ _ (by have := HL.out; omega) _ rfl HD2.out ?_)
          go_ret3
          exact ⟨rfl, rfl⟩
      · rw [if_neg hm0] at hv
        by_cases hfew : l.length - nx < v
        · rw [if_pos hfew]
          have hf : (l.length : Int) - nx < v := by omega
          clear hfew
          go_enter Try.func28, Try.ntmps28
          go_wp2_with fail
          with_reducible refine HU.out.mono ?_
          rintro e w' ⟨rfl, rfl⟩
          go_wp2
          go_ret3
          exact ⟨rfl, rfl⟩
        · rw [if_neg hfew]
          have hf : (v : Int) ≤ (l.length : Int) - nx := by omega
          have hf2 : (nx : Int) + v ≤ l.length := by omega
          have hlen : v = ((l.drop nx).take v).length := by rw [List.length_take, List.length_drop]; omega
          have HL := Lib.hid hlen
          have HD := Lib.hid ((HR.out.drop h2 hc).take v)
          clear hfew hlen
          by_cases hcn : c = nx
          · have hd2 := HD.out
            rw [if_pos hcn] at hd2
            have HD2 := Lib.hid hd2
            clear hd2
            subst hcn
            go_enter Try.func28, Try.ntmps28
            go_wp2_with fail
            with_reducible refine HU.out.mono ?_
            rintro e w' ⟨rfl, rfl⟩
            go_wp2_with (refine wpList_convert_rd rfl 22 9 5 (.tmp 43) byteT' Try.underlying9 rfl _ _ _ _ (by have := HL.out; omega) _ rfl HD2.out ?_)
            go_ret3
            exact ⟨rfl, rfl⟩
          · have hd2 := HD.out
            rw [if_neg hcn] at hd2
            have HD2 := Lib.hid hd2
            clear hd2
            go_enter Try.func28, Try.ntmps28
            go_wp2_with fail
            with_reducible refine HU.out.mono ?_
            rintro e w' ⟨rfl, rfl⟩
            go_wp2_with (refine wpList_convert_rd rfl 22 9 5 (.tmp 43) byteT' Try.underlying9 rfl _ _ _ _ (by have := HL.out; omega) _ rfl HD2.out ?_)
            go_ret3
            exact ⟨rfl, rfl⟩

/-- A truth value, two numbers, and the world as it was. -/
def GivesB (w : World) (r : Bool × Nat × Nat) (e : Ending) (w' : World) : Prop :=
  e = .returned (.tuple #[.bool r.1, .int .i64 (r.2.1 : Int), .int .i64 (r.2.2 : Int)]) ∧ w = w'

theorem bool_any (A : Option Addr) (l : List UInt8) (c : Nat) (at_ : Int) (w : World) (hr : Rd w w.heap.size A l) (hl : (l.length : Int) ≤ 9223372036854775807) :
    Calls Try.prog 30 #[.slice A l.length c, .int .i64 at_] w (GivesB w (Cm.boolRes l at_)) := by
  unfold Cm.boolRes
  by_cases h : at_ < 0 ∨ (l.length : Int) < at_
  · rw [if_pos h]
    rcases h with h | h
    · go_enter Try.func30, Try.ntmps30
      go_wp2
      go_ret3
      exact ⟨rfl, rfl⟩
    · have hn : 0 ≤ at_ := by omega
      go_enter Try.func30, Try.ntmps30
      go_wp2
      go_ret3
      exact ⟨rfl, rfl⟩
  · rw [if_neg h]
    obtain ⟨k, rfl⟩ := Int.eq_ofNat_of_zero_le (show 0 ≤ at_ by omega)
    rw [Int.toNat_natCast]
    have hn : (0 : Int) ≤ (k : Int) := by omega
    by_cases hk : k < l.length
    · obtain ⟨g, o, rfl, _, hcell⟩ := hr.cell (by omega)
      have hx0 := hcell k hk
      rw [List.getElem?_eq_getElem hk]
      generalize l[k] = b at hx0
      have hb := b.toNat_lt
      simp only
      generalize b.toNat = cn at hx0 hb
      have hkl : (k : Int) < l.length := by omega
      have hke : ((k : Int) == (l.length : Int)) = false := by simp; omega
      clear h hk hcell hr
      by_cases h1 : 1 < cn
      · rw [if_pos h1]
        have h2 : (1 : Int) < cn := by omega
        clear h1
        go_enter Try.func30, Try.ntmps30
        go_wp2
        go_ret3
        exact ⟨rfl, rfl⟩
      · rw [if_neg h1]
        have h2 : (cn : Int) ≤ 1 := by omega
        have he : ((cn : Int) == 1) = (cn == 1) := by
          rw [Bool.eq_iff_iff]
          simp
          omega
        have HE := Lib.hid he
        clear h1 he
        go_enter Try.func30, Try.ntmps30
        go_wp2
        go_ret3
        refine ⟨?_, rfl⟩
        rw [← HE.out]
        rfl
    · rw [List.getElem?_eq_none (by omega)]
      have hke : ((k : Int) == (l.length : Int)) = true := by simp; omega
      have hkl : (k : Int) ≤ l.length := by omega
      clear h hk
      go_enter Try.func30, Try.ntmps30
      go_wp2
      go_ret3
      exact ⟨rfl, rfl⟩
end Go.Proofs.Ytbkpmmnkelihgaa
