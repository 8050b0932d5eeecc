/- The contracts of order, Compare, Under, long, awake. -/
import Derived.Test.YtldlakafgjijnaaDoorPathFn2
namespace Go.Proofs.YtldlakafgjijnaaDoor
open Go.RowKit

theorem quiet_add_left {P : Program} {f : FuncId} {args : Array Value} {w : World} {a n : Nat} {v : Value}
    (h : Calls P f args (w.drewN (a + n)) fun e w' => e = .returned v ∧ w.drewN (a + n) = w') :
    Calls P f args (w.drewN (a + n)) fun e w'' => e = .returned v ∧ ∃ m, w'' = w.drewN (a + m) :=
  h.mono fun _ _ ⟨he, hm⟩ => ⟨he, n, hm.symm⟩
/-- A number, and draws. -/
def GivesI (w : World) (n : Int) (e : Ending) (w' : World) : Prop := e = .returned (.int .i64 n) ∧ Drew w w'
theorem cmpi_any (x y : Int) (w : World) : Calls Tryd.prog 46 #[.int .i64 x, .int .i64 y] w fun e w' => e = .returned (.int .i64 (Lib.compareInt x y)) ∧ w = w' := by
  refine (Tryd.cmp_Compare_int x y w).mono ?_
  rintro e w' ⟨rfl, rfl⟩
  exact ⟨rfl, rfl⟩
theorem ord_get {a b : List UInt8} {k : Nat} (h1 : k < a.length) (h2 : k < b.length) (h : a.take k = b.take k) :
    Pm.ord a b = if a[k] = b[k] then Pm.ord (a.drop (k + 1)) (b.drop (k + 1)) else if a[k] = 47 then -1 else if b[k] = 47 then 1 else if a[k] < b[k] then -1 else 1 := by
  rw [Pm.ord_drop k a b h (by omega) (by omega), List.drop_eq_getElem_cons h1, List.drop_eq_getElem_cons h2, Pm.ord]
theorem ord_end {a b : List UInt8} (h : a.take (min a.length b.length) = b.take (min a.length b.length)) : Pm.ord a b = Lib.compareInt a.length b.length := by
  rw [Pm.ord_drop _ a b h (by omega) (by omega)]
  unfold Lib.compareInt
  by_cases h1 : a.length < b.length
  · rw [if_pos (by omega), List.drop_of_length_le (by omega)]
    rw [List.drop_eq_getElem_cons (show min a.length b.length < b.length by omega)]
    rfl
  · rw [if_neg (by omega)]
    by_cases h2 : b.length < a.length
    · rw [if_pos (by omega), List.drop_of_length_le (show b.length ≤ min a.length b.length by omega)]
      rw [List.drop_eq_getElem_cons (show min a.length b.length < a.length by omega)]
      rfl
    · rw [if_neg (by omega), List.drop_of_length_le (show b.length ≤ min a.length b.length by omega), List.drop_of_length_le (by omega)]
      rfl

theorem order_any (a b : ByteArray) (w : World) (ha : a.size ≤ maxLen) : Calls Tryd.prog 34 #[.string a, .string b] w (GivesI w (Pm.ord a.data.toList b.data.toList)) := by
  unfold maxLen at ha
  have HO := Lib.hid (show Pm.ord a.data.toList b.data.toList = Pm.ord a.data.toList b.data.toList from rfl)
  generalize hD : Pm.ord a.data.toList b.data.toList = D
  rw [hD] at HO
  have HD := Lib.hid hD
  clear hD HO
  go_enter Tryd.func34, Tryd.ntmps34
  go_wp2
  go_loopw [11] (fun i wr => ∃ k : Nat, k ≤ a.size ∧ k ≤ b.size ∧ i = .int .i64 k ∧ a.data.toList.take k = b.data.toList.take k ∧ Drew w wr) (fun i _ => a.size - (intOf i).toNat)
  case atStart => exact ⟨0, Nat.zero_le _, Nat.zero_le _, rfl, by simp, Drew.refl _⟩
  case round =>
    obtain ⟨k, hka, hkb, rfl, htk, hd⟩ := hrel
    have HT := Lib.hid htk
    clear htk
    by_cases hlt : k < a.size ∧ k < b.size
    · obtain ⟨h1, h2⟩ := hlt
      have l1 : k < a.data.toList.length := by rw [← Lib.size_eq]; exact h1
      have l2 : k < b.data.toList.length := by rw [← Lib.size_eq]; exact h2
      have hm : (k : Int) < min (a.size : Int) (b.size : Int) := by omega
      have hg := ord_get l1 l2 HT.out
      rw [list_get a k h1, list_get b k h2] at hg
      have HG := Lib.hid (HD.out.symm.trans hg)
      clear hg
      by_cases he : a[k] = b[k]
      · have t1 : ((a[k].toNat : Int) == (b[k].toNat : Int)) = true := by rw [he]; simp
        have HE := Lib.hid he
        clear he
        go_wp2
        go_quiet (fail)
        go_wp2
        go_roundw
        case rel =>
          refine ⟨k + 1, by omega, by omega, by go_num, ?_, ?_⟩
          · rw [List.take_succ_eq_append_getElem l1, List.take_succ_eq_append_getElem l2, HT.out, list_get a k h1, list_get b k h2, HE.out]
          · exact hd.trans ⟨_, rfl⟩
        case measure => simp [intOf]; omega
      · have t1 : ((a[k].toNat : Int) == (b[k].toNat : Int)) = false := by
          rw [beq_eq_false_iff_ne]
          intro h
          exact he (UInt8.toNat_inj.1 (by omega))
        have hg := HG.out
        rw [if_neg he] at hg
        by_cases ha47 : a[k] = 47
        · rw [if_pos ha47] at hg
          subst hg
          have t2 : ((a[k].toNat : Int) == 47) = true := by rw [ha47]; rfl
          clear HG HD he ha47
          go_wp2
          go_quiet (fail)
          go_wp2
          go_ret
          exact ⟨rfl, hd.trans ⟨_, rfl⟩⟩
        · rw [if_neg ha47] at hg
          have t2 : ((a[k].toNat : Int) == 47) = false := by
            rw [beq_eq_false_iff_ne]
            intro h
            exact ha47 (UInt8.toNat_inj.1 (by have : (47 : UInt8).toNat = 47 := rfl; omega))
          by_cases hb47 : b[k] = 47
          · rw [if_pos hb47] at hg
            subst hg
            have t3 : ((b[k].toNat : Int) == 47) = true := by rw [hb47]; rfl
            clear HG HD he ha47 hb47
            go_wp2
            go_quiet (fail)
            go_wp2
            go_ret
            exact ⟨rfl, hd.trans ⟨_, rfl⟩⟩
          · rw [if_neg hb47] at hg
            have t3 : ((b[k].toNat : Int) == 47) = false := by
              rw [beq_eq_false_iff_ne]
              intro h
              exact hb47 (UInt8.toNat_inj.1 (by have : (47 : UInt8).toNat = 47 := rfl; omega))
            have HQ := Lib.hid (fun w : World => cmpb_any a[k] b[k] w he)
            rw [← hg] at HQ
            clear HG HD he ha47 hb47 hg
            go_wp2
            go_quiet (fail)
            go_wp2
            go_quiet ((go_at_call 45; exact quiet_add_left (HQ.out _)))
            go_wp2
            go_ret
            exact ⟨rfl, hd.trans (Drew.trans ⟨_, rfl⟩ ⟨_, rfl⟩)⟩
    · have hm : ¬ (k : Int) < min (a.size : Int) (b.size : Int) := by omega
      have hk : k = min a.data.toList.length b.data.toList.length := by rw [← Lib.size_eq, ← Lib.size_eq]; omega
      have hT := HT.out
      rw [hk] at hT
      have he := ord_end hT
      rw [HD.out, ← Lib.size_eq, ← Lib.size_eq] at he
      have HE := Lib.hid he
      clear he hT hk HT HD
      go_wp2_with fail
      with_reducible refine (cmpi_any _ _ _).mono ?_
      rintro e w' ⟨rfl, rfl⟩
      rw [← HE.out]
      go_wp2
      go_ret
      exact ⟨rfl, hd⟩
end Go.Proofs.YtldlakafgjijnaaDoor
