/- A small region: how long its patterns are. -/
import Derived.Test.YtembmegllpkmfaaGreatDoorRegSmall
import Derived.Test.YtembmegllpkmfaaGreatDoorRegLeast
namespace Go.Proofs.YtembmegllpkmfaaGreatDoor
open Go.RowKit
set_option linter.unusedVariables false
/-- No part is longer. -/
def SzG (K : Nat) (g : Pt.Rg.Reg) : Prop := Pt.szs K g.base ∧ ∀ h ∈ g.holes, Pt.szs K h
theorem SzG.short {K : Nat} {g : Pt.Rg.Reg} (h : SzG K g) (hK : K ≤ 100000) : ShortG g := by
  intro x hx m hm
  unfold shortP
  have hs : Pt.szs K m := Pt.meet_sizes h.1 (h.2 x hx) hm
  have hl : m.parts.length ≤ 12 := (Pt.check_ok.1 (Pt.meet_ok hm)).2
  have h1 := lib_join_len K m.parts hs
  have h2 : m.parts.length * (K + 1) ≤ 12 * (100000 + 1) := Nat.mul_le_mul hl (by omega)
  omega
theorem SzG.simp {K : Nat} {g : Pt.Rg.Reg} (h : SzG K g) : SzG K g.simp := by
  refine ⟨h.1, fun x hx => ?_⟩
  obtain ⟨y, hy, hm⟩ := Pt.Rg.met_mem.1 (((Pt.Rg.simpL_is g.base g.holes).mem x).1 hx).1
  exact Pt.meet_sizes h.1 (h.2 y hy) hm
theorem SzG.base {K : Nat} {g : Pt.Rg.Reg} (h : SzG K g) (hK : K ≤ 10000) : ∀ p ∈ g.base.parts, p.length ≤ 10000 := fun p hp => Nat.le_trans (h.1 p hp) hK
theorem okP_szs {xs : List ByteArray} {b : Bool} (h : okP xs = true) : Pt.szs 60 ⟨bs xs, b⟩ := by
  intro x hx
  obtain ⟨y, hy, rfl⟩ := List.mem_map.1 hx
  unfold okP at h
  have h1 := of_decide_eq_true (List.all_eq_true.1 h y hy)
  rw [Lib.size_eq] at h1
  exact h1
theorem smallG_facts {xs : List ByteArray} {bl : List BindV} (h : smallG xs bl = true) : okP xs = true ∧ (∀ x ∈ bl, okP x.xs = true) ∧ xs.length + sumP bl ≤ 400 ∧ bl.length ≤ 70 ∧ xs.length ≤ 20 := by
  unfold smallG at h
  simp only [Bool.and_eq_true, decide_eq_true_eq, List.all_eq_true] at h
  obtain ⟨⟨⟨⟨h1, h2⟩, h3⟩, h4⟩, h5⟩ := h
  exact ⟨h2, h1, h3, h4, h5⟩
theorem small_szG {xs : List ByteArray} {b : Bool} {bl : List BindV} (h : smallG xs bl = true) : SzG 60 ⟨⟨bs xs, b⟩, bl.map BindV.pat⟩ := by
  obtain ⟨h1, h2, _⟩ := smallG_facts h
  refine ⟨okP_szs h1, fun x hx => ?_⟩
  obtain ⟨y, hy, rfl⟩ := List.mem_map.1 hx
  exact okP_szs (h2 y hy)
theorem simp_simp (g : Pt.Rg.Reg) : g.simp.simp = g.simp := by
  have h := (Pt.Rg.simp_twice (Pt.Rg.simpL_is g.base g.holes)).eq
  unfold Pt.Rg.Reg.simp
  simp only
  rw [← h]
theorem simp_check {g : Pt.Rg.Reg} (h : Pt.Rg.gcheck g = 0) : Pt.Rg.gcheck g.simp = 0 := by
  obtain ⟨h1, h2, h3⟩ := Pt.Rg.gcheck_zero.1 h
  exact Pt.Rg.simp_gcheck h1 (Nat.le_trans (Pt.Rg.simp_len (Pt.Rg.simpL_is g.base g.holes)) h3)
theorem simp_holes_len (g : Pt.Rg.Reg) : g.simp.holes.length ≤ g.holes.length := Pt.Rg.simp_len (Pt.Rg.simpL_is g.base g.holes)
end Go.Proofs.YtembmegllpkmfaaGreatDoor
