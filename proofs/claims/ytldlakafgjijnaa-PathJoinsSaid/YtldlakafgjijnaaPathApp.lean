/- append([]string(nil), xs...): a new row of the same strings. -/
import Derived.Test.YtldlakafgjijnaaPathMem
import Derived.OwnWalk
import Derived.Laws.OwnMore
import Derived.Laws.MakeOwn
import Derived.Laws.AppendOwnNone
namespace Go.Proofs.Ytldlakafgjijnaa
open Go.RowKit

def svs (xs : List ByteArray) : List Value := xs.map Value.string
theorem svs_length (xs : List ByteArray) : (svs xs).length = xs.length := by simp [svs]
theorem svs_one {xs : List ByteArray} : ∀ u ∈ svs xs, u.oneCell' = true := by
  intro u hu
  simp only [svs, List.mem_map] at hu
  obtain ⟨b, _, rfl⟩ := hu
  rfl
theorem add_plain (g o j : Nat) : (⟨g, o, none⟩ : Addr).add j = ⟨g, o + j, none⟩ := by unfold Addr.add; split <;> simp_all
theorem owns_form {w : World} {base e : Nat} {v : Value} {xs : List ByteArray} (h : w.ownsRow base e 1 v xs.length (svs xs)) :
    ∃ A c, v = .slice A xs.length c ∧ xs.length ≤ c ∧ c ≤ maxLen ∧ RdS w w.heap.size A xs := by
  rcases h.2 with ⟨hv, hn⟩ | ⟨g, cap, cur, hv, hb, hg, hnc, hcm, hcs, ht⟩
  · have : xs = [] := List.eq_nil_of_length_eq_zero hn
    subst this
    exact ⟨none, 0, hv, by simp, by simp, .inl rfl⟩
  · refine ⟨some ⟨g, 0, none⟩, cap, hv, hnc, hcm, .inr ⟨g, 0, rfl, (Array.getElem?_eq_some_iff.1 hg).1, fun j hj => ?_⟩⟩
    have hc := World.ownsRow.cells (show w.ownsRow base e 1 v xs.length (svs xs) from h) (g := g) (by rw [hv]; rfl) j (.string xs[j]) (by simp [svs, List.getElem?_eq_getElem hj])
    rw [add_plain] at hc
    exact hc

/-- What the reading of a slice of strings tells. -/
theorem strs_rd {w : World} {a : Option Addr} {len : Nat} {ss : List ByteArray} (h : ∃ x : Addr, a = some x ∧ len ≤ ss.length ∧ ∀ i, i < ss.length → w.cell? (x.add i) = some (.string (ss.getD i ByteArray.empty))) :
    RdS w w.heap.size a (ss.take len) := by
  obtain ⟨x, rfl, hl, hc⟩ := h
  by_cases h0 : len = 0
  · left; rw [h0]; simp
  · obtain ⟨g, o, spot⟩ := x
    have hc0 := hc 0 (by omega)
    have hspot : spot = none := by simpa [Addr.add] using World.cell?_spot hc0
    subst hspot
    refine .inr ⟨g, o, rfl, World.block_lt_of_cell? w _ hc0, fun j hj => ?_⟩
    simp only [List.length_take] at hj
    have hj1 := hc j (by omega)
    rw [add_plain] at hj1
    rw [hj1, List.getElem_take]
    simp [List.getD, List.getElem?_eq_getElem (show j < ss.length by omega)]

theorem strInfo : (Try.prog.info? 9).map (fun i => (i.zero, i.size, i.bytes)) = some (some (.string ⟨#[]⟩), 1, 16) := by kernel_rfl
theorem strParts : ∃ i, Try.prog.info? 9 = some i ∧ i.zero = some (.string ⟨#[]⟩) ∧ i.size = 1 ∧ i.bytes = 16 := by
  have hi := strInfo
  cases hx : Try.prog.info? 9 with
  | none => rw [hx] at hi; simp at hi
  | some i =>
    rw [hx] at hi
    simp only [Option.map_some, Option.some.injEq, Prod.mk.injEq] at hi
    exact ⟨i, rfl, hi.1, hi.2.1, hi.2.2⟩

section
variable {w : World} {ops : Array Oper} {rest : List Oper} {o : Oper} {a : Act} {Q : Exit → Act → World → Prop}

theorem wpList_append_strs (hgd : o.guard = none) (s x : Operand)
    (ho : o.op = .call { callee := .builtin .append, args := #[s, x], argTypes := #[22, 22] })
    (hs : a.eval s = .slice none 0 0) (A : Option Addr) (xs : List ByteArray) (c : Nat) (hx : a.eval x = .slice A xs.length c) (hr : RdS w w.heap.size A xs) (hnil : A = none → c = 0)
    (hN : xs.length ≤ 1000000)
    (h : ∀ A' c' w', RdS w' w'.heap.size A' xs → xs.length ≤ c' → c' ≤ maxLen → Below w.heap.size w w' → wpList Try.prog ops Q rest (a.put o.dst (.slice A' xs.length c')) w') : wpList Try.prog ops Q (o :: rest) a w := by
  obtain ⟨i, hi, hz, hz1, hz2⟩ := strParts
  have hown0 := World.ownsRow_nil w w.heap.size 9 1
  cases A with
  | none =>
    obtain rfl := hnil rfl
    have hx0 : xs = [] := by
      rcases hr with h | ⟨g, o', hA, _⟩
      · exact h
      · cases hA
    subst hx0
    refine wpList_append_own_none hgd s x _ ho w.heap.size 9 i 1 Try.underlying22 hi (.slice none 0 0) 0 [] hs hown0 hx ?_
    exact h none 0 w (.inl rfl) (by simp) (by simp) (Below.refl _ _)
  | some ad =>
    have hc : ∀ j u, (svs xs)[j]? = some u → w.cell? (ad.add j) = some u := by
      intro j u hu
      rcases hr with rfl | ⟨g, o', hA, _, hcell⟩
      · simp [svs] at hu
      · injection hA with hA
        subst hA
        obtain ⟨hj, rfl⟩ := List.getElem?_eq_some_iff.1 hu
        rw [svs_length] at hj
        rw [add_plain, hcell j hj]
        simp [svs]
    refine wpList_append_own w hgd s x _ ho w.heap.size 9 i _ 1 16 Try.underlying22 hi hz hz1 hz2 rfl (by omega) (.slice none 0 0) 0 [] hs hown0 ad xs.length c (svs xs) hx (by simp [svs_length]) hc svs_one
      (by simp only [maxLen]; omega) (by omega) (Nat.le_refl _) ?_
    intro v' w' hown' hg _
    have hown2 : w'.ownsRow w.heap.size 9 1 v' xs.length (svs xs) := by simpa using hown'
    obtain ⟨A', c', rfl, h1, h2, h3⟩ := owns_form hown2
    refine h A' c' w' h3 h1 h2 ⟨hg.os, hg.tape, hg.output, hg.size, fun k hk => hg.block k (by omega) (fun e2 => ?_)⟩
    have := (World.ownsRow.lt hown0 k e2.symm).1
    omega
end
end Go.Proofs.Ytldlakafgjijnaa
