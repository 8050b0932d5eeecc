/- What the law of Minus asks of its answer. -/
import Derived.Test.YtembmegllpkmfaaGreatDoorRegMinus
namespace Go.Proofs.YtembmegllpkmfaaGreatDoor
open Go.RowKit
set_option linter.unusedVariables false
theorem SzG.more2 {K M : Nat} {g : Pt.Rg.Reg} (h : SzG K g) (hm : K ≤ M) : SzG M g := ⟨h.1.more hm, fun x hx => (h.2 x hx).more hm⟩
theorem minusGo_sz {K : Nat} {a : Pt.Rg.Reg} (ha : SzG K a) : ∀ (l pre : List Pt.Pat), (∀ x ∈ l, Pt.szs K x) → (∀ x ∈ pre, Pt.szs K x) → ∀ y ∈ Pt.Rg.minusGo a pre l, SzG K y ∧ Pt.check y.base = 0
  | [], pre, _, _, y, hy => by cases hy
  | h :: l, pre, h1, h2, y, hy => by
    unfold Pt.Rg.minusGo at hy
    rcases List.mem_append.1 hy with hy | hy
    · cases hm : Pt.meet a.base h with
      | none => rw [hm] at hy; cases hy
      | some B =>
        rw [hm] at hy
        rw [List.mem_singleton.1 hy]
        refine ⟨⟨Pt.meet_sizes ha.1 (h1 h (List.mem_cons_self ..)) hm, fun x hx => ?_⟩, Pt.meet_ok hm⟩
        rcases List.mem_append.1 hx with hx | hx
        · exact ha.2 x hx
        · exact h2 x hx
    · exact minusGo_sz ha l (pre ++ [h]) (fun x hx => h1 x (List.mem_cons_of_mem _ hx)) (fun x hx => by
        rcases List.mem_append.1 hx with hx | hx
        · exact h2 x hx
        · rw [List.mem_singleton.1 hx]; exact h1 h (List.mem_cons_self ..)) y hy
theorem minusL_sz {K : Nat} {a b : Pt.Rg.Reg} (ha : SzG K a) (hb : SzG K b) (ca : Pt.check a.base = 0) : ∀ y ∈ Pt.Rg.minusL a b, SzG K y ∧ Pt.check y.base = 0 := by
  intro y hy
  unfold Pt.Rg.minusL at hy
  rcases List.mem_cons.1 hy with hy | hy
  · rw [hy]
    refine ⟨⟨ha.1, fun x hx => ?_⟩, ca⟩
    rcases List.mem_append.1 hx with hx | hx
    · exact ha.2 x hx
    · rw [List.mem_singleton.1 hx]; exact hb.1
  · exact minusGo_sz ha _ [] hb.simp.2 (fun x hx => by cases hx) y hy
theorem minus_pure (a b : Pt.Rg.Reg) (s : List UInt8) (ha : SzG 100000 a) (hb : SzG 100000 b) :
    (∃ n, Pt.Rg.minusR a b = (none, n) ∧ n ≠ 0) ∨ ∃ r, Pt.Rg.minusR a b = (some r, 0) ∧ Pt.Rg.gcheck a = 0 ∧ Pt.Rg.gcheck b = 0 ∧ (∀ x ∈ r, Pt.Rg.gcheck x = 0 ∧ (decide (Pt.Rg.gcheck x = 0) && (Pt.Rg.lenN x.simp.base x.simp.holes).isNone) = false ∧ ShortG x) ∧ (r.filter fun g => g.has s).length = if a.has s && !b.has s then 1 else 0 := by
  by_cases h1 : Pt.Rg.gcheck a = 0
  · by_cases h2 : Pt.Rg.gcheck b = 0
    · have hm : Pt.Rg.minusR a b = match Pt.Rg.withP (Pt.Rg.minusL a b) with
        | none => (none, 52)
        | some l => (some l, 0) := by
        unfold Pt.Rg.minusR
        rw [if_pos h1, if_pos h2]
        cases Pt.Rg.withP (Pt.Rg.minusL a b) <;> rfl
      have hsz := minusL_sz ha hb (Pt.Rg.gcheck_zero.1 h1).1
      cases hw : Pt.Rg.withP (Pt.Rg.minusL a b) with
      | none =>
        rw [hw] at hm
        exact .inl ⟨52, hm, by decide⟩
      | some r =>
        rw [hw] at hm
        refine .inr ⟨r, hm, h1, h2, fun x hx => ?_, ?_⟩
        · obtain ⟨x1, x2, x3, y, hy, x4⟩ := Pt.Rg.withP_mem hw (fun g hg => (hsz g hg).2) x hx
          refine ⟨x1, ?_, ?_⟩
          · rw [decide_eq_true x1, Bool.true_and, x3]
            exact x2
          · rw [x4]
            exact (hsz y hy).1.simp.short (by decide)
        · have h := Pt.Rg.withP_count hw (fun g hg => (hsz g hg).2) s
          rw [Pt.Rg.minusL_count] at h
          exact h
    · refine .inl ⟨Pt.Rg.gcheck b, ?_, h2⟩
      unfold Pt.Rg.minusR
      rw [if_pos h1, if_neg h2]
  · refine .inl ⟨Pt.Rg.gcheck a, ?_, h1⟩
    unfold Pt.Rg.minusR
    rw [if_neg h1]
theorem take_count {α : Type} (l : List α) (f : α → Bool) (k : Nat) (hk : k < l.length) : ((l.take (k + 1)).filter f).length = ((l.take k).filter f).length + if f l[k] then 1 else 0 := by
  rw [List.take_succ_eq_append_getElem hk, List.filter_append, List.length_append]
  cases h : f l[k] <;> simp [h]
end Go.Proofs.YtembmegllpkmfaaGreatDoor
