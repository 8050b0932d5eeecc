/- What the law of order asks of the mathematics: the turned list of holes with one doubled. -/
import Derived.Test.YtembmegllpkmfaaDoorRegMathAll
namespace Go.Proofs.YtembmegllpkmfaaDoor.Pt.Rg
set_option linter.unusedVariables false
/-- The first k of the turned list. -/
def rotL (H : List Pat) (t k : Nat) : List Pat := (List.range k).map fun i => H.getD ((H.length - i % H.length + t % H.length) % H.length) none_
theorem rotL_succ (H : List Pat) (t k : Nat) : rotL H t (k + 1) = rotL H t k ++ [H.getD ((H.length - k % H.length + t % H.length) % H.length) none_] := by
  unfold rotL
  rw [List.range_succ, List.map_append]
  rfl
theorem rotL_len (H : List Pat) (t k : Nat) : (rotL H t k).length = k := by simp [rotL]
theorem rot_mem {H : List Pat} (t : Nat) (h0 : 0 < H.length) (y : Pat) : y ∈ rotL H t (H.length + 1) ↔ y ∈ H := by
  unfold rotL
  rw [List.mem_map]
  constructor
  · rintro ⟨i, _, rfl⟩
    exact getD_mem (Nat.mod_lt _ h0)
  · intro hy
    obtain ⟨j, hj, rfl⟩ := List.mem_iff_getElem.1 hy
    have hm := Nat.mod_lt t h0
    generalize hmt : t % H.length = m at hm
    have hg : ∀ z, z = j → H.getD z none_ = H[j] := fun z hz => by
      subst hz
      simp [List.getD, List.getElem?_eq_getElem hj]
    generalize H[j] = y at hg
    clear hy
    generalize H.length = n at *
    by_cases hc : j ≤ m
    · refine ⟨m - j, List.mem_range.2 (by omega), hg _ ?_⟩
      rw [Nat.mod_eq_of_lt (show m - j < n by omega)]
      rw [show n - (m - j) + m = n + j by omega, Nat.add_mod_left, Nat.mod_eq_of_lt hj]
    · refine ⟨n + m - j, List.mem_range.2 (by omega), hg _ ?_⟩
      rw [Nat.mod_eq_of_lt (show n + m - j < n by omega)]
      rw [show n - (n + m - j) + m = j by omega, Nat.mod_eq_of_lt hj]
theorem order_pure (B : Pat) (H : List Pat) (t : Nat) (h0 : 0 < H.length) (h64 : H.length < 64) : gcheck ⟨B, rotL H t (H.length + 1)⟩ = gcheck ⟨B, H⟩ ∧ (⟨B, rotL H t (H.length + 1)⟩ : Reg).simp = (⟨B, H⟩ : Reg).simp := by
  constructor
  · unfold gcheck
    have e : (rotL H t (H.length + 1)).all (fun h => decide (check h = 0)) = H.all (fun h => decide (check h = 0)) := by
      rw [Bool.eq_iff_iff, List.all_eq_true, List.all_eq_true]
      exact ⟨fun h x hx => h x ((rot_mem t h0 x).2 hx), fun h x hx => h x ((rot_mem t h0 x).1 hx)⟩
    show (if check B = 0 then (if (rotL H t (H.length + 1)).all (fun h => decide (check h = 0)) then (if (rotL H t (H.length + 1)).length ≤ 64 then 0 else 52) else 51) else 50) = (if check B = 0 then (if H.all (fun h => decide (check h = 0)) then (if H.length ≤ 64 then 0 else 52) else 51) else 50)
    rw [e, rotL_len, if_pos (show H.length + 1 ≤ 64 by omega), if_pos (show H.length ≤ 64 by omega)]
  · have h := ((simpL_is B (rotL H t (H.length + 1))).same (H' := H) (rot_mem t h0)).eq
    show (⟨B, simpL B (rotL H t (H.length + 1))⟩ : Reg) = ⟨B, simpL B H⟩
    rw [h]
end Go.Proofs.YtembmegllpkmfaaDoor.Pt.Rg
