/- The contracts of the reference's Text, Same, Kinds, wildcards; of small and equal. -/
import Derived.Test.YtihboibebhokbaaDoorPatFn2
namespace Go.Proofs.YtihboibebhokbaaDoor
open Go.RowKit

theorem below_drewN {B : Nat} {a w : World} (h : Below B a w) (n : Nat) : Below B a (w.drewN n) := ⟨h.os, h.tape, h.output, h.size, h.block⟩
theorem dots4 (l : List UInt8) : (ByteArray.mk #[47, 47]) ++ (ByteArray.mk l.toArray) ++ (ByteArray.mk #[47, 46, 46, 46]) = ⟨(47 :: 47 :: (l ++ [47, 46, 46, 46])).toArray⟩ := by
  apply ba_ext
  simp [ByteArray.data_append]
theorem requal_any (A B : Option Addr) (xs ys : List ByteArray) (c d BA BB : Nat) (w : World) (ha : RdS w BA A xs) (hb : RdS w BB B ys) (h1 : xs.length ≤ maxLen) (hc : xs.length ≤ c) (hd : ys.length ≤ d) (h2 : ys.length ≤ maxLen) :
    Calls Tryd.prog 21 #[.slice A xs.length c, .slice B ys.length d] w (GivesB w (decide (xs = ys))) := by
  unfold maxLen at h1 h2
  by_cases hl : xs.length = ys.length
  · by_cases h0 : xs.length = 0
    · have e1 : xs = [] := List.eq_nil_of_length_eq_zero h0
      have e2 : ys = [] := List.eq_nil_of_length_eq_zero (by omega)
      subst e1 e2
      clear ha hb hl h0
      go_enter Tryd.func21, Tryd.ntmps21
      go_wp2
      go_loop [13] (fun i => i = .int .i64 (0 : Nat)) (fun _ => 0)
      case atStart => rfl
      case round =>
        obtain rfl := hrel
        go_wp2
        go_ret
        exact ⟨rfl, Drew.refl _⟩
    · obtain ⟨g, o, rfl, hg, hca⟩ := ha.cells (by omega)
      obtain ⟨g', o', rfl, hg', hcb⟩ := hb.cells (by omega)
      have HA := Lib.hid hca
      have HB := Lib.hid hcb
      have HL := Lib.hid hl
      obtain ⟨n, hn⟩ : ∃ n, n = xs.length := ⟨_, rfl⟩
      have hn2 : ys.length = n := by omega
      rw [hn2] at hd h2 ⊢
      rw [← hn] at hc h1 ⊢
      have HN := Lib.hid hn
      have HN2 := Lib.hid hn2
      have HE := Lib.hid (show decide (xs = ys) = decide (xs = ys) from rfl)
      generalize hv : decide (xs = ys) = v
      have HV := Lib.hid hv
      clear hca hcb ha hb hl h0 hn hn2 HE hv
      go_enter Tryd.func21, Tryd.ntmps21
      go_wp2
      go_loopw [13] (fun i wr => ∃ k : Nat, k ≤ n ∧ i = .int .i64 k ∧ xs.take k = ys.take k ∧ Drew w wr) (fun i _ => n - (intOf i).toNat)
      case atStart => exact ⟨0, by omega, rfl, by simp, Drew.refl _⟩
      case round =>
        obtain ⟨k, hkn, rfl, htk, hdr⟩ := hrel
        have HT := Lib.hid htk
        clear htk
        by_cases hlt : k < n
        · have l1 : k < xs.length := by rw [← HN.out]; exact hlt
          have l2 : k < ys.length := by rw [HN2.out]; exact hlt
          have c1 : wr.cell? ⟨g, o + k, none⟩ = some (.string xs[k]) := ((hdr.below (g + 1)).cell (p := ⟨g, o + k, none⟩) (by simp)).trans (HA.out k l1)
          have c2 : wr.cell? ⟨g', o' + k, none⟩ = some (.string ys[k]) := ((hdr.below (g' + 1)).cell (p := ⟨g', o' + k, none⟩) (by simp)).trans (HB.out k l2)
          have HS := Lib.hid (take_eq_succ l1 l2 HT.out)
          by_cases he : xs[k] = ys[k]
          · have HT2 := Lib.hid (HS.out.2 he)
            have t1 : (xs[k].toList == ys[k].toList) = true := by rw [he]; simp
            have t2 : (xs[k].toList != ys[k].toList) = false := by rw [he]; simp
            clear HS
            have HE := Lib.hid he
            clear he
            generalize xs[k] = x at *
            generalize ys[k] = y at *
            go_wp2
            go_quiet (fail)
            go_wp2
            go_roundw
            case rel => exact ⟨k + 1, by omega, by go_num, HT2.out, hdr.trans ⟨_, rfl⟩⟩
            case measure => simp [intOf]; omega
          · have hv : v = false := by
              rw [← HV.out, decide_eq_false_iff_not]
              rintro rfl
              exact he rfl
            subst hv
            have hne : xs[k].toList ≠ ys[k].toList := by
              rw [Lib.toList_data, Lib.toList_data]
              exact fun h => he (ba_ext h)
            have t1 : (xs[k].toList == ys[k].toList) = false := by rw [beq_eq_false_iff_ne]; exact hne
            have t2 : (xs[k].toList != ys[k].toList) = true := by simpa using hne
            clear HS he hne
            generalize xs[k] = x at *
            generalize ys[k] = y at *
            go_wp2
            go_quiet (fail)
            go_wp2
            go_ret
            exact ⟨rfl, hdr.trans ⟨_, rfl⟩⟩
        · have hv : v = true := by
            rw [← HV.out, decide_eq_true_iff]
            have := HT.out
            rwa [List.take_of_length_le (by rw [← HN.out]; omega), List.take_of_length_le (by rw [HN2.out]; omega)] at this
          subst hv
          go_wp2
          go_ret
          exact ⟨rfl, hdr⟩
  · have hv : decide (xs = ys) = false := by
      rw [decide_eq_false_iff_not]
      rintro rfl
      exact hl rfl
    rw [hv]
    have t1 : ((xs.length : Int) == (ys.length : Int)) = false := by rw [beq_eq_false_iff_ne]; omega
    have t2 : ((xs.length : Int) != (ys.length : Int)) = true := by simpa using (show (xs.length : Int) ≠ ys.length by omega)
    clear hv hl ha hb
    generalize xs.length = n at *
    generalize ys.length = m at *
    go_enter Tryd.func21, Tryd.ntmps21
    go_wp2
    go_ret
    exact ⟨rfl, Drew.refl _⟩

/-- How much a row of strings holds. -/
def lens (l : List (List UInt8)) : Nat := (l.map List.length).sum
def smallB (l : List (List UInt8)) : Bool := decide (l.length ≤ 20) && decide (lens l ≤ 400)
theorem lens_take {l : List (List UInt8)} {k : Nat} (h : k < l.length) : lens (l.take (k + 1)) = lens (l.take k) + l[k].length := by
  unfold lens
  rw [List.take_succ_eq_append_getElem h, List.map_append, List.sum_append]
  simp
theorem lens_le {l : List (List UInt8)} {b : Nat} (h : ∀ x ∈ l, x.length ≤ b) : lens l ≤ l.length * b := by
  unfold lens
  induction l with
  | nil => simp
  | cons x r ih =>
    have h1 := h x (by simp)
    have h2 := ih fun y hy => h y (by simp [hy])
    simp only [List.map_cons, List.sum_cons, List.length_cons, Nat.succ_mul]
    omega
end Go.Proofs.YtihboibebhokbaaDoor
