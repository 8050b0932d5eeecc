/- The contracts of the reference's Same and Match. The contract of the reference's Match. The contract of the reference's Within. The contract of the reference's Parse. -/
import Derived.Test.YtembmegllpkmfaaDoorPatFnA
import Derived.Test.YtembmegllpkmfaaDoorPathOwnAll
namespace Go.Proofs.YtembmegllpkmfaaDoor
open Go.RowKit

def samePat (b b' : Bool) (xs ys : List ByteArray) : Bool := (b == b') && decide (xs = ys)
theorem rsame_any (A B : Option Addr) (xs ys : List ByteArray) (c d BA BB : Nat) (b b' : Bool) (w : World) (ha : RdS w BA A xs) (hb : RdS w BB B ys) (hBA : BA ≤ w.heap.size) (hBB : BB ≤ w.heap.size) (h1 : xs.length ≤ maxLen) (hc : xs.length ≤ c) (hd : ys.length ≤ d) (h2 : ys.length ≤ maxLen) :
    Calls Tryd.prog 11 #[patV A xs.length c b, patV B ys.length d b'] w (GivesBB w (samePat b b' xs ys)) := by
  unfold maxLen at h1 h2
  unfold samePat
  have hal : ∀ n m, Below w.heap.size w ((w.alloc (.cells #[.slice A n c, .bool b] 24)).alloc (.cells #[.slice B m d, .bool b'] 24)) := fun n m => ((Below.refl _ _).alloc (Nat.le_refl _) _).alloc (by simp) _
  have HAL := Lib.hid hal
  clear hal
  by_cases hbb : b = b'
  · subst hbb
    by_cases hl : xs.length = ys.length
    · have he : (b == b) = true := by simp
      rw [he, Bool.true_and]
      by_cases h0 : xs.length = 0
      · have e1 : xs = [] := List.eq_nil_of_length_eq_zero h0
        have e2 : ys = [] := List.eq_nil_of_length_eq_zero (by omega)
        subst e1 e2
        clear ha hb hl h0
        go_enter Tryd.func11, Tryd.ntmps11
        go_wp2
        go_loop [24] (fun i => i = .int .i64 (0 : Nat)) (fun _ => 0)
        case atStart => rfl
        case round =>
          obtain rfl := hrel
          go_wp2
          go_ret
          exact ⟨rfl, HAL.out 0 0⟩
      · obtain ⟨g, o, rfl, hg, hca⟩ := ha.cells (by omega)
        obtain ⟨g', o', rfl, hg', hcb⟩ := hb.cells (by omega)
        have HA := Lib.hid hca
        have HB := Lib.hid hcb
        obtain ⟨n, hn⟩ : ∃ n, n = xs.length := ⟨_, rfl⟩
        have hn2 : ys.length = n := by omega
        rw [hn2] at hd h2 ⊢
        rw [← hn] at hc h1 ⊢
        have HN := Lib.hid hn
        have HN2 := Lib.hid hn2
        have hgw : g < w.heap.size := by omega
        have hgw' : g' < w.heap.size := by omega
        obtain ⟨v, hv⟩ : ∃ v, v = decide (xs = ys) := ⟨_, rfl⟩
        rw [← hv]
        have HV := Lib.hid hv
        clear hca hcb ha hb hl h0 hn hn2 hv he hg hg'
        go_enter Tryd.func11, Tryd.ntmps11
        go_wp2
        go_loop [24] (fun i => ∃ k : Nat, k ≤ n ∧ i = .int .i64 k ∧ xs.take k = ys.take k) (fun i => n - (intOf i).toNat)
        case atStart => exact ⟨0, by omega, rfl, by simp⟩
        case round =>
          obtain ⟨k, hkn, rfl, htk⟩ := hrel
          have HT := Lib.hid htk
          clear htk
          by_cases hlt : k < n
          · have l1 : k < xs.length := by rw [← HN.out]; exact hlt
            have l2 : k < ys.length := by rw [HN2.out]; exact hlt
            have c1 := HA.out k l1
            have c2 := HB.out k l2
            have HS := Lib.hid (take_eq_succ l1 l2 HT.out)
            by_cases he : xs[k] = ys[k]
            · have HT2 := Lib.hid (HS.out.2 he)
              have t1 : (xs[k].toList == ys[k].toList) = true := by rw [he]; simp
              have t2 : (xs[k].toList != ys[k].toList) = false := by rw [he]; simp
              clear HS
              have HE := Lib.hid he
              clear he
              generalize xs[k] = x at *
              generalize ys[k] = y at *
              go_wp2
              go_round
              case rel => exact ⟨k + 1, by omega, by go_num, HT2.out⟩
              case measure => simp [intOf]; omega
            · have hv : v = false := by
                rw [HV.out, decide_eq_false_iff_not]
                rintro rfl
                exact he rfl
              subst hv
              have hne : xs[k].toList ≠ ys[k].toList := by
                rw [Lib.toList_data, Lib.toList_data]
                exact fun h => he (ba_ext h)
              have t1 : (xs[k].toList == ys[k].toList) = false := by rw [beq_eq_false_iff_ne]; exact hne
              have t2 : (xs[k].toList != ys[k].toList) = true := by simpa using hne
              clear HS he hne
              generalize xs[k] = x at *
              generalize ys[k] = y at *
              go_wp2
              go_ret
              exact ⟨rfl, HAL.out n n⟩
          · have hv : v = true := by
              rw [HV.out, decide_eq_true_iff]
              have := HT.out
              rwa [List.take_of_length_le (by rw [← HN.out]; omega), List.take_of_length_le (by rw [HN2.out]; omega)] at this
            subst hv
            go_wp2
            go_ret
            exact ⟨rfl, HAL.out n n⟩
    · have hv : decide (xs = ys) = false := by
        rw [decide_eq_false_iff_not]
        rintro rfl
        exact hl rfl
      rw [hv, Bool.and_false]
      have t1 : ((xs.length : Int) == (ys.length : Int)) = false := by rw [beq_eq_false_iff_ne]; omega
      have t2 : ((xs.length : Int) != (ys.length : Int)) = true := by simpa using (show (xs.length : Int) ≠ ys.length by omega)
      clear hv hl ha hb
      generalize xs.length = n at *
      generalize ys.length = m at *
      go_enter Tryd.func11, Tryd.ntmps11
      go_wp2
      go_ret
      exact ⟨rfl, HAL.out n m⟩
  · have he : (b == b') = false := by rw [beq_eq_false_iff_ne]; exact hbb
    have he2 : (b != b') = true := by simpa using hbb
    rw [he, Bool.false_and]
    clear ha hb
    generalize xs.length = n at *
    generalize ys.length = m at *
    cases b <;> cases b' <;> first | exact absurd rfl hbb | skip
    all_goals
      clear hbb he he2
      go_enter Tryd.func11, Tryd.ntmps11
      go_wp2
      go_ret
      exact ⟨rfl, HAL.out n m⟩
end Go.Proofs.YtembmegllpkmfaaDoor

namespace Go.Proofs.YtembmegllpkmfaaDoor
open Go.RowKit

theorem bcell {W w1 : World} (hb : Below W.heap.size W w1) : (∀ b o, b < W.heap.size → w1.cell? ⟨b, o, none⟩ = W.cell? ⟨b, o, none⟩) ∧ (∀ b o, b < W.heap.size → w1.frozen? ⟨b, o, none⟩ = W.frozen? ⟨b, o, none⟩) :=
  ⟨fun b o h => hb.cell (p := ⟨b, o, none⟩) h, fun b o h => hb.frozen (p := ⟨b, o, none⟩) h⟩
theorem pathO_eq (p : List UInt8) : pathO p = Pt.pathO p := rfl
theorem RdS.drop {w : World} {B : Nat} {g o : Nat} {xs : List ByteArray} (h : RdS w B (some ⟨g, o, none⟩) xs) (k : Nat) : RdS w B (some ⟨g, o + k, none⟩) (xs.drop k) := by
  rcases h with rfl | ⟨g', o', hA, hg, hc⟩
  · left; simp
  · injection hA with hA
    injection hA with h1 h2
    subst h1 h2
    refine .inr ⟨g, o + k, rfl, hg, fun j hj => ?_⟩
    simp only [List.length_drop] at hj
    rw [List.getElem_drop, Nat.add_assoc]
    exact hc (k + j) (by omega)
theorem bs_dropN (xs : List ByteArray) (k : Nat) : bs (xs.drop k) = (bs xs).drop k := by simp [bs]
theorem bs_append (xs ys : List ByteArray) : bs (xs ++ ys) = bs xs ++ bs ys := by simp [bs]
theorem join_drop_le : ∀ (k : Nat) (l : List (List UInt8)), (Lib.join (l.drop k) [47]).length ≤ (Lib.join l [47]).length
  | 0, l => by simp
  | k + 1, [] => by simp
  | k + 1, [x] => by simp [Lib.join_nil]
  | k + 1, x :: y :: r => by
    rw [List.drop_succ_cons, Pm.lib_join_cons]
    have := join_drop_le k (y :: r)
    simp only [List.length_append, List.length_cons]
    omega
theorem caps_step {ps cs : List (List UInt8)} {k : Nat} (h1 : k < ps.length) (h2 : k < cs.length) : Pt.capsOf (ps.drop k) (cs.drop k) = match Pt.capture ps[k] cs[k] with
    | none => none
    | some y => (Pt.capsOf (ps.drop (k + 1)) (cs.drop (k + 1))).map fun r => if Pt.isStar ps[k] then y :: r else r := by
  rw [List.drop_eq_getElem_cons h1, List.drop_eq_getElem_cons h2, Pt.capsOf_cons]
  cases Pt.capture ps[k] cs[k] <;> rfl
/-- The box of a pattern, behind calls that leave it alone. -/
theorem box_cells {w w' : World} {v0 v1 : Value} {t : TypeId} (h : Below (w.alloc (.cells #[v0, v1] t)).heap.size (w.alloc (.cells #[v0, v1] t)) w') :
    w'.cell? ⟨w.heap.size, 0, none⟩ = some v0 ∧ w'.cell? ⟨w.heap.size, 1, none⟩ = some v1 := by
  constructor
  · rw [h.cell (p := ⟨w.heap.size, 0, none⟩) (by simp), cell_of_row _ _ _ _ _ (0, 0) (heap_alloc_new w _)]
    rfl
  · rw [h.cell (p := ⟨w.heap.size, 1, none⟩) (by simp), cell_of_row _ _ _ _ _ (0, 0) (heap_alloc_new w _)]
    rfl

end Go.Proofs.YtembmegllpkmfaaDoor

namespace Go.Proofs.YtembmegllpkmfaaDoor
open Go.RowKit

theorem box2_cells {w w' : World} {v0 v1 u0 u1 : Value} {t : TypeId} (h : Below ((w.alloc (.cells #[v0, v1] t)).alloc (.cells #[u0, u1] t)).heap.size ((w.alloc (.cells #[v0, v1] t)).alloc (.cells #[u0, u1] t)) w') :
    w'.cell? ⟨w.heap.size, 0, none⟩ = some v0 ∧ w'.cell? ⟨w.heap.size, 1, none⟩ = some v1 ∧ w'.cell? ⟨w.heap.size + 1, 0, none⟩ = some u0 ∧ w'.cell? ⟨w.heap.size + 1, 1, none⟩ = some u1 := by
  have h1 : Below (w.alloc (.cells #[v0, v1] t)).heap.size (w.alloc (.cells #[v0, v1] t)) w' := ((Below.refl _ _).alloc (Nat.le_refl _) _).trans (h.mono (by simp))
  obtain ⟨a, b⟩ := box_cells h1
  obtain ⟨c, d⟩ := box_cells h
  simp only [World.alloc, Array.size_push] at c d
  exact ⟨a, b, c, d⟩
theorem in_step {ps qs : List (List UInt8)} {k : Nat} (h1 : k < ps.length) (h2 : k < qs.length) : Pt.allIn (ps.drop k) (qs.drop k) = (Pt.inside ps[k] qs[k] && Pt.allIn (ps.drop (k + 1)) (qs.drop (k + 1))) := by
  rw [List.drop_eq_getElem_cons h1, List.drop_eq_getElem_cons h2, Pt.allIn]
theorem in_nil (ps : List (List UInt8)) : Pt.allIn ps [] = true := by cases ps <;> rfl

end Go.Proofs.YtembmegllpkmfaaDoor

namespace Go.Proofs.YtembmegllpkmfaaDoor
open Go.RowKit

def GivesPat (w : World) (p : Pt.Pat) (n : Nat) (e : Ending) (w' : World) : Prop :=
  ∃ A xs c b, e = .returned (.tuple #[patV A (List.length xs) c b, .int .i64 (n : Int)]) ∧ PatR w' A xs c b p ∧ Below w.heap.size w w'
theorem patR_zero (w : World) : PatR w none [] 0 false ⟨[], false⟩ := ⟨.inl rfl, rfl, rfl, by simp, by simp, fun _ => rfl, by simp⟩
theorem box_free {w w' : World} {v0 v1 : Value} {t : TypeId} (h : Below (w.alloc (.cells #[v0, v1] t)).heap.size (w.alloc (.cells #[v0, v1] t)) w') (k : Nat) : w'.frozen? ⟨w.heap.size, k, none⟩ = false := by
  rw [h.frozen (p := ⟨w.heap.size, k, none⟩) (by simp)]
  exact frozen_of_row _ _ _ _ _ (heap_alloc_new w _)
theorem RdS.store {w : World} {B : Nat} {A : Option Addr} {xs : List ByteArray} (h : RdS w B A xs) (a : Addr) (u v : Value) (hv : w.cell? a = some v) (hne : ∀ s, v ≠ .string s) : RdS (w.setCell a u) B A xs := by
  rcases h with h | ⟨g, o, hA, hg, hc⟩
  · exact .inl h
  · refine .inr ⟨g, o, hA, hg, fun j hj => ?_⟩
    have hp : a ≠ ⟨g, o + j, none⟩ := by
      rintro rfl
      rw [hc j hj] at hv
      injection hv with hv
      exact hne _ hv.symm
    exact (World.cell?_setCell_other _ _ _ _ hp).trans (hc j hj)
theorem bs_takeN (xs : List ByteArray) (k : Nat) : bs (xs.take k) = (bs xs).take k := by simp [bs]
theorem bs_last {xs : List ByteArray} {n : Nat} (hn : xs.length = n + 1) : (bs xs).getLast? = some (xs[n]'(by omega)).data.toList := by
  have e : (bs xs)[(bs xs).length - 1]? = (bs xs)[n]? := by
    congr 1
    rw [bs_length]
    omega
  rw [List.getLast?_eq_getElem?, e, List.getElem?_eq_getElem (by rw [bs_length]; omega), bs_get xs n (by omega)]
theorem PatR.store2 {w : World} {A : Option Addr} {xs : List ByteArray} {c : Nat} {b : Bool} {p : Pt.Pat} (h : PatR w A xs c b p) (r : Nat) (u0 u1 v0 v1 : Value) (e0 : w.cell? ⟨r, 0, none⟩ = some v0) (e1 : w.cell? ⟨r, 1, none⟩ = some v1)
    (h0 : ∀ s, v0 ≠ .string s) (h1 : ∀ s, v1 ≠ .string s) : PatR ((w.setCell ⟨r, 0, none⟩ u0).setCell ⟨r, 1, none⟩ u1) A xs c b p := by
  refine ⟨?_, h.parts, h.rest, h.le, h.cm, h.nil, h.sz⟩
  have hr := (h.rd.store ⟨r, 0, none⟩ u0 v0 e0 h0).store ⟨r, 1, none⟩ u1 v1 ((World.cell?_setCell_other _ _ _ _ (by simp)).trans e1) h1
  exact hr.more (by simp [World.setCell])
end Go.Proofs.YtembmegllpkmfaaDoor
