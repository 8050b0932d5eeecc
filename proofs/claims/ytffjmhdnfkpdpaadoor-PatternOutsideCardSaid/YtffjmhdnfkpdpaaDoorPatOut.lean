/- Plain mathematics for PatternOutside: how long the witnesses are, and what all of them say. No program. -/
import Derived.Test.YtffjmhdnfkpdpaaDoorPatGo8
import Derived.Test.YtffjmhdnfkpdpaaDoorPatFn12
import Derived.Test.YtffjmhdnfkpdpaaDoorPatHeld
namespace Go.Proofs.YtffjmhdnfkpdpaaDoor
open Go.RowKit

theorem witPart_len (x : List UInt8) (y : Option (List UInt8)) : (Pt.witPart x y).length ≤ x.length + 1 := by
  unfold Pt.witPart
  split
  · split <;> simp
  · omega
theorem witOf_lens : ∀ (ps qs : List (List UInt8)), ∀ c ∈ Pt.witOf ps qs, ∃ x ∈ ps, c.length ≤ x.length + 1
  | [], _, c, h => by cases h
  | x :: ps, [], c, h => by
    rcases List.mem_cons.1 h with rfl | h
    · exact ⟨x, by simp, witPart_len x _⟩
    · obtain ⟨z, hz, hl⟩ := witOf_lens ps [] c h
      exact ⟨z, List.mem_cons_of_mem _ hz, hl⟩
  | x :: ps, y :: qs, c, h => by
    rcases List.mem_cons.1 h with rfl | h
    · exact ⟨x, by simp, witPart_len x _⟩
    · obtain ⟨z, hz, hl⟩ := witOf_lens ps qs c h
      exact ⟨z, List.mem_cons_of_mem _ hz, hl⟩
theorem wit_bound (p q : Pt.Pat) (r : Nat) (hp : ∀ x ∈ p.parts, x.length ≤ 400) (hl : p.parts.length ≤ 20) (hr : r ≤ 13) : (Pm.join (Pt.witComps p q r)).length ≤ 20000 := by
  have h1 : ∀ c ∈ Pt.witComps p q r, c.length ≤ 401 := fun c hc => by
    obtain ⟨x, hx, hl⟩ := witOf_lens _ _ c hc
    rcases List.mem_append.1 hx with h | h
    · have := hp x h; omega
    · rw [(List.mem_replicate.1 h).2] at hl; simp at hl; omega
  have h2 := lib_join_len 401 _ h1
  rw [Pt.wit_len] at h2
  unfold Pm.join
  simp only [List.length_cons]
  have h3 : (p.parts.length + r) * 402 ≤ 33 * 402 := Nat.mul_le_mul_right 402 (by omega)
  omega
theorem all_say {p q : Pt.Pat} (hp : Pt.check p = 0) (hq : Pt.check q = 0) :
    Pt.within p q = true ↔ ∀ n, (if p.rest then 1 else 0) ≤ n → n < (if p.rest then 14 else 1) → (Pt.matchP q (Pm.join (Pt.witComps p q n))).isSome = true := by
  cases hr : p.rest with
  | false =>
    simp only [Bool.false_eq_true, if_false]
    rw [Pt.outside_plain hp hq hr]
    constructor
    · intro h n _ hn
      obtain rfl : n = 0 := by omega
      exact h
    · intro h
      exact h 0 (by omega) (by omega)
  | true =>
    simp only [if_true]
    obtain ⟨h1, h2⟩ := Pt.outside_rest hp hq hr
    exact ⟨fun h n hn _ => h1 h n hn, fun h => h2 (h 1 (by omega) (by omega)) (h 2 (by omega) (by omega))⟩
end Go.Proofs.YtffjmhdnfkpdpaaDoor
