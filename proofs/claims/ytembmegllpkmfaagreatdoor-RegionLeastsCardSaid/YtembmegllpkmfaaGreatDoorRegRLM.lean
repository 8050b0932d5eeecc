/- The mathematics of the reference's Least: the holes that are alive, and what remains of a path at a place. -/
import Derived.Test.YtembmegllpkmfaaGreatDoorRegMathAll
namespace Go.Proofs.YtembmegllpkmfaaGreatDoor.Pt.Rg
set_option linter.unusedVariables false
/-- The holes that a text at a place leaves. -/
def aft (n i : Nat) (x : List UInt8) (ms : List Pat) : List Pat := ms.filter fun h => fits h n && (decide (h.parts.length ≤ i) || pm (partAt h i) x)
def aftOk (B : Pat) (n i : Nat) (x : List UInt8) (ms : List Pat) : Bool := !(aft n i x ms).any fun h => covers B h (i + 1) n
/-- What remains of the least path from a place on. -/
def restGo (B : Pat) (n : Nat) : Nat → Nat → List Pat → Option (List (List UInt8))
  | _, 0, _ => some []
  | i, k + 1, ms => match star (partAt B i) with
    | none => (restGo B n (i + 1) k (if aftOk B n i (partAt B i) ms then aft n i (partAt B i) ms else [])).map fun l => partAt B i :: l
    | some s => match (firsts.map fun c => c :: s).find? (fun x => aftOk B n i x ms) with
      | none => none
      | some x => (restGo B n (i + 1) k (aft n i x ms)).map fun l => x :: l
theorem filter_and {α : Type} (f g : α → Bool) : ∀ l : List α, l.filter (fun x => f x && g x) = (l.filter f).filter g
  | [] => rfl
  | x :: l => by
    rw [List.filter_cons, List.filter_cons, filter_and f g l]
    cases h : f x with
    | false => simp
    | true => simp [List.filter_cons]
theorem aft_fits {n i : Nat} {x : List UInt8} {ms : List Pat} : ∀ h ∈ aft n i x ms, h ∈ ms ∧ fits h n = true := by
  intro h hh
  unfold aft at hh
  rw [List.mem_filter, Bool.and_eq_true] at hh
  exact ⟨hh.1, hh.2.1⟩
theorem aft_two {n i : Nat} {x : List UInt8} {ms : List Pat} (hx : Pm.comp x = true) : aft n i x ms = (ms.filter fun h => fits h n).filter fun h => pm (partAt h i) x := by
  unfold aft
  rw [filter_and]
  apply List.filter_congr
  intro h _
  by_cases hl : h.parts.length ≤ i
  · rw [decide_eq_true hl, Bool.true_or, partAt_far hl]
    have hs : star [42] = some [] := rfl
    exact ((pm_star hs).2 ⟨x, by simp, hx⟩).symm
  · rw [decide_eq_false hl, Bool.false_or]
theorem aft_self {n i : Nat} {x : List UInt8} {ms : List Pat} : (aft n i x ms).filter (fun h => fits h n) = aft n i x ms := by
  rw [List.filter_eq_self]
  exact fun h hh => (aft_fits h hh).2
theorem good_aft {B : Pat} {n i : Nat} {x : List UInt8} {ms : List Pat} (hB : check B = 0) (hBf : fits B n = true) (hi : i < n) (hx : Pm.comp x = true) :
    good ((full B n).drop (i + 1)) ((ms.filter fun h => fits h n).map fun h => (full h n).drop i) x = aftOk B n i x ms := by
  unfold aftOk
  rw [aft_two hx]
  have hLf : ∀ h ∈ ms.filter (fun h => fits h n), fits h n = true := fun h hh => (List.mem_filter.1 hh).2
  generalize ms.filter (fun h => fits h n) = L at hLf
  unfold good
  rw [List.all_map, List.all_eq_not_any_not, List.any_filter]
  congr 1
  refine any_congr' fun h hh => ?_
  have hf : fits h n = true := hLf h hh
  simp only [Function.comp]
  rw [full_cons hi (fits_le hf)]
  simp only [Bool.not_not]
  rw [covers_iff hB hf hBf]
theorem keep_aft {n i : Nat} {x : List UInt8} {ms : List Pat} (hi : i < n) (hx : Pm.comp x = true) :
    keep ((ms.filter fun h => fits h n).map fun h => (full h n).drop i) x = ((aft n i x ms).filter fun h => fits h n).map fun h => (full h n).drop (i + 1) := by
  rw [aft_self, aft_two hx]
  exact keep_map (y := fun h => partAt h i) (fun h hh => full_cons hi (fits_le (List.mem_filter.1 hh).2)) fun h hh => rfl
theorem aftOk_iff {B : Pat} {n i : Nat} {x : List UInt8} {ms : List Pat} (hB : check B = 0) (hBf : fits B n = true) (h : aftOk B n i x ms = true) : ∀ h ∈ aft n i x ms, fits h n = true → allIn ((full B n).drop (i + 1)) ((full h n).drop (i + 1)) = false := by
  intro y hy hf
  unfold aftOk at h
  rw [Bool.not_eq_true', List.any_eq_false] at h
  have := h y hy
  rw [covers_iff hB hf hBf] at this
  simpa using this
theorem restGo_greedy {B : Pat} {n : Nat} (hB : check B = 0) (hBf : fits B n = true) : ∀ (k i : Nat) (ms : List Pat), i + k = n → (∀ h ∈ ms, check h = 0) → (∀ h ∈ ms, fits h n = true → allIn ((full B n).drop i) ((full h n).drop i) = false) →
    restGo B n i k ms = greedy ((full B n).drop i) ((ms.filter fun h => fits h n).map fun h => (full h n).drop i)
  | 0, i, ms, hk, _, _ => by
    have : (full B n).drop i = [] := List.drop_eq_nil_of_le (by rw [full_len hBf]; omega)
    rw [this]
    rfl
  | k + 1, i, ms, hk, hm, hc => by
    have hi : i < n := by omega
    have hpb := partAt_part hB i
    have hcov := hc
    rw [full_cons hi (fits_le hBf)]
    unfold restGo greedy
    cases hs : star (partAt B i) with
    | none =>
      have hcomp : Pm.comp (partAt B i) = true := by
        rcases part_cases hpb with ⟨s, h1, _⟩ | ⟨_, h2⟩
        · rw [hs] at h1; cases h1
        · exact h2
      have hg : aftOk B n i (partAt B i) ms = true := by
        unfold aftOk
        rw [Bool.not_eq_true', List.any_eq_false]
        intro y hy
        have hy2 := aft_fits y hy
        have h3 := hcov y hy2.1 hy2.2
        rw [full_cons hi (fits_le hBf), full_cons hi (fits_le hy2.2), allIn_cons] at h3
        rw [covers_iff hB hy2.2 hBf]
        rw [aft_two hcomp] at hy
        have hp := (List.mem_filter.1 hy).2
        have hin : inside (partAt B i) (partAt y i) = true := by
          cases ht : star (partAt y i) with
          | none =>
            have := (pm_comp ht).1 hp
            rw [this]
            exact inside_self _
          | some t => rw [inside_star hs ht]; exact hp
        rw [hin, Bool.true_and] at h3
        rw [h3]
        decide
      have hcd : cands (partAt B i) = [partAt B i] := by unfold cands; rw [hs]
      simp only
      rw [hcd, List.find?_cons, good_aft hB hBf hi hcomp, hg, if_pos rfl]
      dsimp only
      rw [keep_aft hi hcomp, restGo_greedy hB hBf k (i + 1) _ (by omega) (fun h hh => hm h (aft_fits h hh).1) (aftOk_iff hB hBf hg)]
    | some s =>
      have hcd : cands (partAt B i) = firsts.map fun c => c :: s := by unfold cands; rw [hs]
      simp only
      rw [hcd]
      have hfc : (firsts.map fun c => c :: s).find? (fun x => aftOk B n i x ms) = (firsts.map fun c => c :: s).find? (good ((full B n).drop (i + 1)) ((ms.filter fun h => fits h n).map fun h => (full h n).drop i)) :=
        find_congr' fun x hx => (good_aft hB hBf hi (cands_comp hpb (by rw [hcd]; exact hx)).1).symm
      rw [hfc]
      cases hf : (firsts.map fun c => c :: s).find? (good ((full B n).drop (i + 1)) ((ms.filter fun h => fits h n).map fun h => (full h n).drop i)) with
      | none => rfl
      | some x =>
        have hx : x ∈ cands (partAt B i) := by rw [hcd]; exact List.mem_of_find?_eq_some hf
        have hcomp := (cands_comp hpb hx).1
        have hg : aftOk B n i x ms = true := by
          rw [← good_aft hB hBf hi hcomp]
          exact List.find?_some hf
        simp only
        rw [keep_aft hi hcomp, restGo_greedy hB hBf k (i + 1) _ (by omega) (fun h hh => hm h (aft_fits h hh).1) (aftOk_iff hB hBf hg)]
theorem lenN_at {B : Pat} {H : List Pat} {n : Nat} (h : lenN B H = some n) : fits B n = true ∧ fullAt B H n = false := by
  unfold lenN findN at h
  have hm := List.mem_of_find?_eq_some h
  have hp := List.find?_some h
  refine ⟨?_, by simpa using hp⟩
  rw [List.mem_range'_1] at hm
  unfold firstN at hm
  cases hr : B.rest with
  | true =>
    rw [hr] at hm
    simp only [if_true] at hm
    exact (fits_far hr).2 (by omega)
  | false =>
    rw [hr] at hm
    simp only [Bool.false_eq_true, if_false] at hm
    exact (fits_one hr).2 (by omega)
/-- The reference's least path. -/
def leastF (g : Reg) : Option (List (List UInt8)) := (lenN g.base g.holes).bind fun n => restGo g.base n 0 n g.holes
theorem leastF_is {g : Reg} (hg : gcheck g = 0) : leastF g = leastO g.base g.holes := by
  obtain ⟨h1, h2, h3⟩ := gcheck_zero.1 hg
  unfold leastF leastO
  cases hn : lenN g.base g.holes with
  | none => rfl
  | some n =>
    obtain ⟨hf, hu⟩ := lenN_at hn
    simp only [Option.bind_some]
    rw [restGo_greedy h1 hf n 0 g.holes (by omega) h2 fun h hh hfh => ?_]
    · rfl
    · exact fullAt_false.1 hu _ (holesAt_mem.2 ⟨h, hh, hfh, rfl⟩)
theorem leastO_simp {g : Reg} (hg : gcheck g = 0) : leastO g.simp.base g.simp.holes = leastO g.base g.holes := by
  obtain ⟨h1, h2, h3⟩ := gcheck_zero.1 hg
  obtain ⟨k1, k2, k3⟩ := gcheck_zero.1 (simp_gcheck (g := g) h1 (Nat.le_trans (simp_len (simpL_is g.base g.holes)) h3))
  exact (leastO_is k1 k2 k3).one (leastO_is h1 h2 h3) fun s => has_simp (simpL_is g.base g.holes) s
end Go.Proofs.YtembmegllpkmfaaGreatDoor.Pt.Rg
