/- An own row of patterns: exchanged cells; and insertion, sorted to a place. -/
import Derived.Test.YtembmegllpkmfaaGreatDoorRegDel
namespace Go.Proofs.YtembmegllpkmfaaGreatDoor
open Go.RowKit
set_option linter.unusedVariables false
theorem own_setX {w : World} {base g cap : Nat} {m : List BindV} {i : Nat} {x : BindV} (h : OwnP w base (.slice (some ⟨g, 0, none⟩) m.length cap) m) (hi : i < m.length) (hp : PatR w x.A x.xs x.c x.b x.pat)
    (ha : ∀ z ∈ adr x.A x.xs, ∀ a, z = some a → (Value.slice (some ⟨g, 0, none⟩) m.length cap).ownBlock ≠ some a.block ∧ a.block < w.heap.size) :
    OwnP ((w.setCell ⟨g, i * 2, none⟩ (.slice x.A x.xs.length x.c)).setCell ⟨g, i * 2 + 1, none⟩ (.bool x.b)) base (.slice (some ⟨g, 0, none⟩) m.length cap) (m.set i x) ∧
    w.grownBy ((w.setCell ⟨g, i * 2, none⟩ (.slice x.A x.xs.length x.c)).setCell ⟨g, i * 2 + 1, none⟩ (.bool x.b)) (some g) := by
  obtain ⟨h1, h2⟩ := World.ownsRow.stored h.row (i * 2) (.slice x.A x.xs.length x.c)
  obtain ⟨h3, h4⟩ := World.ownsRow.stored h1 (i * 2 + 1) (.bool x.b)
  have hg := h2.trans h4
  have hap : ∀ y ∈ m.set i x, PatR w y.A y.xs y.c y.b y.pat ∧ ∀ z ∈ adr y.A y.xs, ∀ a, z = some a → (Value.slice (some ⟨g, 0, none⟩) m.length cap).ownBlock ≠ some a.block ∧ a.block < w.heap.size := fun y hy => by
    rcases List.mem_or_eq_of_mem_set hy with hy | hy
    · exact ⟨h.parts y hy, h.apart y hy⟩
    · rw [hy]; exact ⟨hp, ha⟩
  refine ⟨⟨?_, fun y hy => (hap y hy).1.grownA hg fun z hz a e => (hap y hy).2 z hz a e, fun y hy z hz a e => ⟨((hap y hy).2 z hz a e).1, Nat.lt_of_lt_of_le ((hap y hy).2 z hz a e).2 hg.size⟩⟩, hg⟩
  rw [List.length_set, cellsP_set _ _ _ hi]
  exact h3
theorem own_swap {w : World} {base g cap : Nat} {m : List BindV} {i j : Nat} (h : OwnP w base (.slice (some ⟨g, 0, none⟩) m.length cap) m) (hi : i < m.length) (hj : j < m.length) :
    OwnP ((((w.setCell ⟨g, i * 2, none⟩ (.slice m[j].A m[j].xs.length m[j].c)).setCell ⟨g, i * 2 + 1, none⟩ (.bool m[j].b)).setCell ⟨g, j * 2, none⟩ (.slice m[i].A m[i].xs.length m[i].c)).setCell ⟨g, j * 2 + 1, none⟩ (.bool m[i].b)) base (.slice (some ⟨g, 0, none⟩) m.length cap) ((m.set i m[j]).set j m[i]) ∧
    w.grownBy ((((w.setCell ⟨g, i * 2, none⟩ (.slice m[j].A m[j].xs.length m[j].c)).setCell ⟨g, i * 2 + 1, none⟩ (.bool m[j].b)).setCell ⟨g, j * 2, none⟩ (.slice m[i].A m[i].xs.length m[i].c)).setCell ⟨g, j * 2 + 1, none⟩ (.bool m[i].b)) (some g) := by
  obtain ⟨h1, h2⟩ := own_setX h hi (h.parts _ (List.getElem_mem hj)) (h.apart _ (List.getElem_mem hj))
  have hl : (m.set i m[j]).length = m.length := List.length_set
  have h1' : OwnP ((w.setCell ⟨g, i * 2, none⟩ (.slice m[j].A m[j].xs.length m[j].c)).setCell ⟨g, i * 2 + 1, none⟩ (.bool m[j].b)) base (.slice (some ⟨g, 0, none⟩) (m.set i m[j]).length cap) (m.set i m[j]) := by rw [hl]; exact h1
  obtain ⟨h3, h4⟩ := own_setX (x := m[i]) h1' (by rw [hl]; exact hj) ((h.parts _ (List.getElem_mem hi)).grownA h2 fun z hz a e => h.apart _ (List.getElem_mem hi) z hz a e)
    (fun z hz a e => ⟨(h.apart _ (List.getElem_mem hi) z hz a e).1, Nat.lt_of_lt_of_le (h.apart _ (List.getElem_mem hi) z hz a e).2 h2.size⟩)
  rw [hl] at h3
  exact ⟨h3, h2.trans h4⟩
def cbp (x y : BindV) : Int := Lib.compareBytes (Pt.text x.pat) (Pt.text y.pat)
theorem cbp_trans {x y z : BindV} (h1 : cbp x y ≤ 0) (h2 : cbp y z ≤ 0) : cbp x z ≤ 0 := Pt.Rg.cb_le_trans h1 h2
theorem cbp_turn {x y : BindV} (h : ¬ cbp x y < 0) : cbp y x ≤ 0 := by
  unfold cbp at h ⊢
  rw [Pt.Rg.cb_neg]
  omega
/-- Sorted to the place i, but for what stands at k. -/
def SB (m : List BindV) (k i : Nat) : Prop := ∀ (a b : Nat) (ha : a < m.length) (hb : b < m.length), a < b → b ≤ i → b ≠ k → cbp m[a] m[b] ≤ 0
/-- Sorted to the place i. -/
def SS (m : List BindV) (i : Nat) : Prop := ∀ (a b : Nat) (ha : a < m.length) (hb : b < m.length), a < b → b < i → cbp m[a] m[b] ≤ 0
theorem SS.start {m : List BindV} {i : Nat} (h : SS m i) : SB m i i := fun a b ha hb hab hbi hne => h a b ha hb hab (by omega)
theorem SB.zero {m : List BindV} {i : Nat} (h : SB m 0 i) : SS m (i + 1) := fun a b ha hb hab hbi => h a b ha hb hab (by omega) (by omega)
theorem SB.stop {m : List BindV} {k i : Nat} (h : SB m k i) (hk : 0 < k) (hkm : k < m.length) (hki : k ≤ i) (hc : ¬ cbp (m[k]'hkm) (m[k - 1]'(by omega)) < 0) : SS m (i + 1) := by
  intro a b ha hb hab hbi
  by_cases e : b = k
  · subst e
    have h1 := cbp_turn hc
    by_cases e2 : a = b - 1
    · subst e2; exact h1
    · exact cbp_trans (h a (b - 1) ha (by omega) (by omega) (by omega) (by omega)) h1
  · exact h a b ha hb hab (by omega) e
theorem swap_at {m : List BindV} {i j a : Nat} (hi : i < m.length) (hj : j < m.length) (ha : a < ((m.set i m[j]).set j m[i]).length) (ha' : a < m.length) : ((m.set i m[j]).set j m[i])[a] = if j = a then m[i] else if i = a then m[j] else m[a] := by
  rw [List.getElem_set, List.getElem_set]
theorem SB.swap {m : List BindV} {k i : Nat} (h : SB m k i) (hk : 0 < k) (hkm : k < m.length) (hki : k ≤ i) (hc : cbp (m[k]'hkm) (m[k - 1]'(by omega)) < 0) : SB ((m.set k (m[k - 1]'(by omega))).set (k - 1) m[k]) (k - 1) i := by
  intro a b ha hb hab hbi hne
  have hl : ((m.set k (m[k - 1]'(by omega))).set (k - 1) m[k]).length = m.length := by simp
  rw [hl] at ha hb
  rw [swap_at hkm (by omega) _ ha, swap_at hkm (by omega) _ hb]
  rw [if_neg (by omega : ¬ k - 1 = b)]
  by_cases e : k = b
  · rw [if_pos e]
    by_cases e2 : k - 1 = a
    · rw [if_pos e2]; omega
    · rw [if_neg e2, if_neg (by omega)]
      exact h a (k - 1) ha (by omega) (by omega) (by omega) (by omega)
  · rw [if_neg e]
    by_cases e2 : k - 1 = a
    · rw [if_pos e2]
      exact h k b hkm hb (by omega) hbi (by omega)
    · rw [if_neg e2]
      by_cases e3 : k = a
      · rw [if_pos e3]
        exact h (k - 1) b (by omega) hb (by omega) hbi (by omega)
      · rw [if_neg e3]
        exact h a b ha hb hab hbi (by omega)
theorem SS.pw {m : List BindV} (h : SS m m.length) : (m.map BindV.pat).Pairwise fun a b => Lib.compareBytes (Pt.text a) (Pt.text b) ≤ 0 := by
  rw [List.pairwise_map, List.pairwise_iff_getElem]
  exact fun a b ha hb hab => h a b ha hb hab hb
theorem swap_perm {m : List BindV} {i j : Nat} (hi : i < m.length) (hj : j < m.length) : ((m.set i m[j]).set j m[i]).Perm m := List.set_set_perm hi hj
/-- The reference's way of keeping. -/
theorem keptAt_range (M : List Pt.Pat) (i : Nat) : Pt.Rg.keptAt M i = (List.range M.length).all fun j => !(decide (i ≠ j) && Pt.within (M.getD i Pt.none_) (M.getD j Pt.none_) && (decide (j < i) || !decide (M.getD i Pt.none_ = M.getD j Pt.none_))) := rfl
end Go.Proofs.YtembmegllpkmfaaGreatDoor
