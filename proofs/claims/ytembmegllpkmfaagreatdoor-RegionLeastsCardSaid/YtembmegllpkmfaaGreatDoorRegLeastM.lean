/- The program's least path is the least one: its names, and how long they are. -/
import Derived.Test.YtembmegllpkmfaaGreatDoorRegFnA
namespace Go.Proofs.YtembmegllpkmfaaGreatDoor
open Go.RowKit
namespace Pt.Rg
theorem star_len {b s : List UInt8} (h : Pt.star b = some s) : s.length ≤ b.length := by
  cases b with
  | nil => cases h
  | cons c r =>
    rw [Pt.star_cons] at h
    split at h
    · injection h with h
      subst h
      simp
    · cases h
theorem cands_len {b x : List UInt8} {K : Nat} (hb : b.length ≤ K) (hx : x ∈ cands b) : x.length ≤ K + 1 := by
  unfold cands at hx
  cases hs : Pt.star b with
  | none =>
    rw [hs] at hx
    rw [List.mem_singleton.1 hx]
    omega
  | some s =>
    rw [hs] at hx
    obtain ⟨c, _, rfl⟩ := List.mem_map.1 hx
    have := star_len hs
    simp
    omega
theorem greedy_len {K : Nat} : ∀ (bs : List (List UInt8)) (HS : List (List (List UInt8))) (l : List (List UInt8)), greedy bs HS = some l → (∀ b ∈ bs, b.length ≤ K) → ∀ x ∈ l, x.length ≤ K + 1
  | [], HS, l, h, _, x, hx => by
    rw [greedy] at h
    injection h with h
    subst h
    cases hx
  | b :: bs, HS, l, h, hb, x, hx => by
    rw [greedy] at h
    split at h
    · cases h
    · rename_i y hy
      obtain ⟨l', hl', rfl⟩ := Option.map_eq_some_iff.1 h
      rcases List.mem_cons.1 hx with rfl | hx
      · exact cands_len (hb b (by simp)) (List.mem_of_find?_eq_some hy)
      · exact greedy_len bs _ l' hl' (fun z hz => hb z (List.mem_cons_of_mem _ hz)) x hx
theorem findN_le {B : Pat} {H : List Pat} {last n : Nat} (h : findN B H last = some n) : n ≤ last := by
  unfold findN at h
  have := List.mem_of_find?_eq_some h
  rw [List.mem_range'_1] at this
  omega
theorem full_le {B : Pat} {n K : Nat} (hK : ∀ p ∈ B.parts, p.length ≤ K) (h1 : 1 ≤ K) : ∀ b ∈ full B n, b.length ≤ K := by
  intro b hb
  unfold full at hb
  rcases List.mem_append.1 hb with hb | hb
  · exact hK b hb
  · rw [List.eq_of_mem_replicate hb]
    exact h1
/-- The names of the walk, where there are any. -/
theorem names_least {B : Pat} {H : List Pat} {n K : Nat} (hB : check B = 0) (hH : ∀ h ∈ H, check h = 0 ∧ within h B = true) (h64 : H.length ≤ 64) (hK : ∀ p ∈ B.parts, p.length ≤ K) (h1 : 1 ≤ K) (hn : lenN B H = some n) :
    ∃ l, namesGo B 0 n (H.filter fun h => fits h n) = some l ∧ leastO B H = some l ∧ l.length = n ∧ 2 ≤ n ∧ n ≤ 13 ∧ (∀ c ∈ l, Pm.comp c = true) ∧ ∀ x ∈ l, x.length ≤ K + 1 := by
  have h12 : B.parts.length ≤ 12 := (check_ok.1 hB).2
  obtain ⟨f1, f2⟩ := findN_ok (B := B) (H := H) (last := if B.rest then 13 else B.parts.length) hB (fun hr => by rw [hr]; rfl) (fun hr => by
    rw [hr]
    exact ⟨by show _ < 13; omega, fun h hh => by have := (check_ok.1 (hH h hh).1).2; show _ < 13; omega⟩)
  obtain ⟨g1, g2, _⟩ := f1 n hn
  have hle : n ≤ 13 := by
    have := findN_le hn
    split at this <;> omega
  have h2 := fits_two hB g1
  obtain ⟨l, hl, hlen, hc, _, _⟩ := hasN_greedy hB (fun h hh => (hH h hh).1) h64 g1 g2
  have hBn : B.parts.length ≤ n := by
    unfold fits at g1
    split at g1
    · exact Nat.le_of_lt (of_decide_eq_true g1)
    · exact Nat.le_of_eq (of_decide_eq_true g1).symm
  have hg := namesGo_greedy hB hBn n 0 (H.filter fun h => fits h n) (by omega) (fun h hh => by
    obtain ⟨q1, q2⟩ := List.mem_filter.1 hh
    refine ⟨(hH h q1).2, q2, ?_⟩
    refine Nat.pos_of_ne_zero fun e => ?_
    have := (fullAt_covers hB g1 (H := H))
    rw [g2] at this
    have h4 := this.symm
    rw [List.any_eq_false] at h4
    refine h4 h q1 ?_
    rw [covers_alike (hH h q1).2 0 n, q2]
    simp [e])
  have he : namesGo B 0 n (H.filter fun h => fits h n) = some l := by
    rw [hg, List.drop_zero, ← hl]
    congr 1
  exact ⟨l, he, by unfold leastO; rw [hn]; exact hl, hlen, h2, hle, hc, greedy_len _ _ _ hl (full_le hK h1)⟩
end Pt.Rg
end Go.Proofs.YtembmegllpkmfaaGreatDoor
