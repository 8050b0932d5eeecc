/- The contracts of the reference's Same and Match. -/
import Derived.Test.YthgcnlhlhipllaaGreatDoorPatFn4
import Derived.Test.YthgcnlhlhipllaaGreatDoorPathOwnAll
namespace Go.Proofs.YthgcnlhlhipllaaGreatDoor
open Go.RowKit

def samePat (b b' : Bool) (xs ys : List ByteArray) : Bool := (b == b') && decide (xs = ys)
theorem rsame_any (A B : Option Addr) (xs ys : List ByteArray) (c d BA BB : Nat) (b b' : Bool) (w : World) (ha : RdS w BA A xs) (hb : RdS w BB B ys) (hBA : BA ≤ w.heap.size) (hBB : BB ≤ w.heap.size) (h1 : xs.length ≤ maxLen) (hc : xs.length ≤ c) (hd : ys.length ≤ d) (h2 : ys.length ≤ maxLen) :
    Calls Tryz.prog 23 #[patV A xs.length c b, patV B ys.length d b'] w (GivesBB w (samePat b b' xs ys)) := by
  unfold maxLen at h1 h2
  unfold samePat
  have hal : ∀ n m, Below w.heap.size w ((w.alloc (.cells #[.slice A n c, .bool b] 24)).alloc (.cells #[.slice B m d, .bool b'] 24)) := fun n m => ((Below.refl _ _).alloc (Nat.le_refl _) _).alloc (by simp) _
  have HAL := Lib.hid hal
  clear hal
  by_cases hbb : b = b'
  · subst hbb
    by_cases hl : xs.length = ys.length
    · have he : (b == b) = true := by simp
      rw [he, Bool.true_and]
      by_cases h0 : xs.length = 0
      · have e1 : xs = [] := List.eq_nil_of_length_eq_zero h0
        have e2 : ys = [] := List.eq_nil_of_length_eq_zero (by omega)
        subst e1 e2
        clear ha hb hl h0
        go_enter Tryz.func23, Tryz.ntmps23
        go_wp2
        go_loop [24] (fun i => i = .int .i64 (0 : Nat)) (fun _ => 0)
        case atStart => rfl
        case round =>
          obtain rfl := hrel
          go_wp2
          go_ret
          exact ⟨rfl, HAL.out 0 0⟩
      · obtain ⟨g, o, rfl, hg, hca⟩ := ha.cells (by omega)
        obtain ⟨g', o', rfl, hg', hcb⟩ := hb.cells (by omega)
        have HA := Lib.hid hca
        have HB := Lib.hid hcb
        obtain ⟨n, hn⟩ : ∃ n, n = xs.length := ⟨_, rfl⟩
        have hn2 : ys.length = n := by omega
        rw [hn2] at hd h2 ⊢
        rw [← hn] at hc h1 ⊢
        have HN := Lib.hid hn
        have HN2 := Lib.hid hn2
        have hgw : g < w.heap.size := by omega
        have hgw' : g' < w.heap.size := by omega
        obtain ⟨v, hv⟩ : ∃ v, v = decide (xs = ys) := ⟨_, rfl⟩
        rw [← hv]
        have HV := Lib.hid hv
        clear hca hcb ha hb hl h0 hn hn2 hv he hg hg'
        go_enter Tryz.func23, Tryz.ntmps23
        go_wp2
        go_loop [24] (fun i => ∃ k : Nat, k ≤ n ∧ i = .int .i64 k ∧ xs.take k = ys.take k) (fun i => n - (intOf i).toNat)
        case atStart => exact ⟨0, by omega, rfl, by simp⟩
        case round =>
          obtain ⟨k, hkn, rfl, htk⟩ := hrel
          have HT := Lib.hid htk
          clear htk
          by_cases hlt : k < n
          · have l1 : k < xs.length := by rw [← HN.out]; exact hlt
            have l2 : k < ys.length := by rw [HN2.out]; exact hlt
            have c1 := HA.out k l1
            have c2 := HB.out k l2
            have HS := Lib.hid (take_eq_succ l1 l2 HT.out)
            by_cases he : xs[k] = ys[k]
            · have HT2 := Lib.hid (HS.out.2 he)
              have t1 : (xs[k].toList == ys[k].toList) = true := by rw [he]; simp
              have t2 : (xs[k].toList != ys[k].toList) = false := by rw [he]; simp
              clear HS
              have HE := Lib.hid he
              clear he
              generalize xs[k] = x at *
              generalize ys[k] = y at *
              go_wp2
              go_round
              case rel => exact ⟨k + 1, by omega, by go_num, HT2.out⟩
              case measure => simp [intOf]; omega
            · have hv : v = false := by
                rw [HV.out, decide_eq_false_iff_not]
                rintro rfl
                exact he rfl
              subst hv
              have hne : xs[k].toList ≠ ys[k].toList := by
                rw [Lib.toList_data, Lib.toList_data]
                exact fun h => he (ba_ext h)
              have t1 : (xs[k].toList == ys[k].toList) = false := by rw [beq_eq_false_iff_ne]; exact hne
              have t2 : (xs[k].toList != ys[k].toList) = true := by simpa using hne
              clear HS he hne
              generalize xs[k] = x at *
              generalize ys[k] = y at *
              go_wp2
              go_ret
              exact ⟨rfl, HAL.out n n⟩
          · have hv : v = true := by
              rw [HV.out, decide_eq_true_iff]
              have := HT.out
              rwa [List.take_of_length_le (by rw [← HN.out]; omega), List.take_of_length_le (by rw [HN2.out]; omega)] at this
            subst hv
            go_wp2
            go_ret
            exact ⟨rfl, HAL.out n n⟩
    · have hv : decide (xs = ys) = false := by
        rw [decide_eq_false_iff_not]
        rintro rfl
        exact hl rfl
      rw [hv, Bool.and_false]
      have t1 : ((xs.length : Int) == (ys.length : Int)) = false := by rw [beq_eq_false_iff_ne]; omega
      have t2 : ((xs.length : Int) != (ys.length : Int)) = true := by simpa using (show (xs.length : Int) ≠ ys.length by omega)
      clear hv hl ha hb
      generalize xs.length = n at *
      generalize ys.length = m at *
      go_enter Tryz.func23, Tryz.ntmps23
      go_wp2
      go_ret
      exact ⟨rfl, HAL.out n m⟩
  · have he : (b == b') = false := by rw [beq_eq_false_iff_ne]; exact hbb
    have he2 : (b != b') = true := by simpa using hbb
    rw [he, Bool.false_and]
    clear ha hb
    generalize xs.length = n at *
    generalize ys.length = m at *
    cases b <;> cases b' <;> first | exact absurd rfl hbb | skip
    all_goals
      clear hbb he he2
      go_enter Tryz.func23, Tryz.ntmps23
      go_wp2
      go_ret
      exact ⟨rfl, HAL.out n m⟩
end Go.Proofs.YthgcnlhlhipllaaGreatDoor
