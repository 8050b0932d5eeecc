/- What the frames of layer 3's cards share: a pattern, a slice of strings, out of an argument's reading. -/
import Derived.Test.YtffjmhdnfkpdpaaDoorPathLawD
import Derived.Test.YtffjmhdnfkpdpaaDoorPathOwn
import Derived.Test.YtffjmhdnfkpdpaaDoorPatFn2
import Derived.Lib.SmallJoins
import Derived.SliceStrings
import Derived.ChangeOld
namespace Go.Proofs.YtffjmhdnfkpdpaaDoor
open Go.RowKit Go.ChangeShapes Go.WideShapes Go.Joins

theorem laidOutW : laidOutB Tryd.prog = true := by kernel_rfl
theorem strs_rd {w : World} {a : Option Addr} {len : Nat} {ss : List ByteArray} (h : ∃ x : Addr, a = some x ∧ len ≤ ss.length ∧ ∀ i, i < ss.length → w.cell? (x.add i) = some (.string (ss.getD i ByteArray.empty))) :
    RdS w w.heap.size a (ss.take len) := by
  obtain ⟨x, rfl, hl, hc⟩ := h
  by_cases h0 : len = 0
  · left; rw [h0]; simp
  · obtain ⟨g, o, spot⟩ := x
    have hc0 := hc 0 (by omega)
    have hspot : spot = none := by simpa [Addr.add] using World.cell?_spot hc0
    subst hspot
    refine .inr ⟨g, o, rfl, World.block_lt_of_cell? w _ hc0, fun j hj => ?_⟩
    simp only [List.length_take] at hj
    have hj1 := hc j (by omega)
    rw [add_plain] at hj1
    rw [hj1, List.getElem_take]
    simp [List.getD, List.getElem?_eq_getElem (show j < ss.length by omega)]
section
variable {H : Type} {enc : TypeId × Value → H} {W : World} {d : DataW H} {p : List MemPlace} {v : Value} {b0 : Nat}
/-- A slice of strings out of its cell's reading. -/
theorem open_strs {n : Nat} {x : DataW H × List MemPlace} (h : DataW.trod enc Tryd.prog W 0 (fun _ => true) true n 23 [v] = some x) :
    ∃ (A : Option Addr) (xs : List ByteArray) (c : Nat), v = .slice A xs.length c ∧ xs.length ≤ c ∧ c ≤ maxLen ∧ (A = none → c = 0) ∧ RdS W W.heap.size A xs ∧ ∀ x ∈ xs, x.size ≤ maxLen := by
  rcases open_strings Tryd.underlying23 Tryd.underlying9 (by kernel_rfl) h with ⟨hcs, _⟩ | ⟨x, l, c, ss, hcs, _, hl, hm, hz, _, hcell, hws⟩
  · simp only [List.cons.injEq, and_true] at hcs
    subst hcs
    exact ⟨none, [], 0, rfl, by simp, by simp, fun _ => rfl, .inl rfl, by simp⟩
  · simp only [List.cons.injEq, and_true] at hcs
    subst hcs
    simp only [if_true] at hz
    have he : (ss.take l).length = l := by simp; omega
    exact ⟨some x, ss.take l, c, by rw [he], by omega, hm, by simp, strs_rd ⟨x, rfl, by omega, hcell⟩, fun s hs => hws s (List.mem_of_mem_take hs)⟩
set_option maxRecDepth 1000000 in
theorem open_pat (hv : Value.okWide Tryd.prog W .any b0 25 v) (h : DataW.Trod enc Tryd.prog W 0 (fun _ => true) true 25 v d p) :
    ∃ (A : Option Addr) (xs : List ByteArray) (c : Nat) (b : Bool), v = patV A xs.length c b ∧ PatR W A xs c b ⟨bs xs, b⟩ := by
  obtain ⟨v0, v1, y0, y1, n, rfl, _, _, h0, h1⟩ := open_agg2 Tryd.underlying25 (by kernel_rfl) (by kernel_rfl) hv h
  obtain ⟨A, xs, c, rfl, hl, hm, hn, hr, hx⟩ := open_strs h0
  obtain ⟨b, hb, _⟩ := DataW.trod_bool Tryd.underlying4 h1
  simp only [List.cons.injEq, and_true] at hb
  subst hb
  exact ⟨A, xs, c, b, rfl, ⟨hr, rfl, rfl, hl, hm, hn, hx⟩⟩
set_option maxRecDepth 1000000 in
theorem open_list (hv : Value.okWide Tryd.prog W .any b0 23 v) (h : DataW.Trod enc Tryd.prog W 0 (fun _ => true) true 23 v d p) :
    ∃ (A : Option Addr) (xs : List ByteArray) (c : Nat), v = .slice A xs.length c ∧ xs.length ≤ c ∧ c ≤ maxLen ∧ (A = none → c = 0) ∧ RdS W W.heap.size A xs ∧ ∀ x ∈ xs, x.size ≤ maxLen := by
  obtain ⟨a0, len0, cap0, rfl⟩ := okWide_slice Tryd.underlying23 hv
  obtain ⟨fuel, hf⟩ := h
  exact open_strs (n := fuel) (by simpa [Value.cells] using hf)
end
end Go.Proofs.YtffjmhdnfkpdpaaDoor
