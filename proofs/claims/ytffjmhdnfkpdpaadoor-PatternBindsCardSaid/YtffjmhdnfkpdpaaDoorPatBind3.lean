/- Words for the law on bindings. -/
import Derived.Test.YtffjmhdnfkpdpaaDoorPatFn13
namespace Go.Proofs.YtffjmhdnfkpdpaaDoor
open Go.RowKit

theorem GivesBd.any {w w' : World} {o : Option (List Pt.Pat)} {e : Ending} (h : GivesBd w o e w') : ∃ v bl, e = .returned (.tuple #[v, .bool o.isSome]) ∧ OwnB w' w.heap.size v bl ∧ bl.map BindV.pat = o.getD [] ∧ Below w.heap.size w w' := by
  cases o with
  | none => exact ⟨_, [], h.1, OwnB.empty _ _, rfl, h.2⟩
  | some l =>
    obtain ⟨v, bl, h1, h2, h3, h4⟩ := h
    exact ⟨v, bl, h1, h2, h3, h4⟩
theorem OwnB.at {w : World} {base : Nat} {A : Option Addr} {n e : Nat} {bl : List BindV} (h : OwnB w base (.slice A n e) bl) {k : Nat} (hk : k < bl.length) : ∃ g, A = some ⟨g, 0, none⟩ ∧ g < w.heap.size ∧ w.cell? ⟨g, k * 2, none⟩ = some (.slice bl[k].A bl[k].xs.length bl[k].c) ∧ w.cell? ⟨g, k * 2 + 1, none⟩ = some (.bool bl[k].b) := by
  have hg := bcells_get bl k hk
  rcases h.row.2 with ⟨hv, hn⟩ | ⟨g, cap, cur, hv, hbg, hgg, r⟩
  · omega
  · injection hv with hA hn hc
    subst hA
    have c0 := World.ownsRow.cells h.row (g := g) rfl _ _ hg.1
    have c1 := World.ownsRow.cells h.row (g := g) rfl _ _ hg.2
    rw [add_plain] at c0 c1
    rw [Nat.zero_add, Nat.mul_comm] at c0
    rw [Nat.zero_add, Nat.mul_comm] at c1
    exact ⟨g, rfl, (Array.getElem?_eq_some_iff.1 hgg).1, c0, c1⟩
structure InE (wr w' : World) : Prop where
  below : Below wr.heap.size wr w'
theorem InE.next {wr w1 w' : World} (h : InE wr w1) (hb : Below w1.heap.size w1 w') : InE wr w' := ⟨h.below.trans (hb.mono h.below.size)⟩
theorem InE.drew {wr w' : World} (h : InE wr w') : InE wr w'.drew := ⟨h.below.trans (below_drew (Below.refl _ _))⟩
abbrev SE (wr : World) (g1 g2 k : Nat) (v0 v1 u0 u1 : Value) (w' : World) : Prop :=
  w'.cell? ⟨g1, k * 2, none⟩ = some v0 ∧ w'.cell? ⟨g1, k * 2 + 1, none⟩ = some v1 ∧ w'.cell? ⟨g2, k * 2, none⟩ = some u0 ∧ w'.cell? ⟨g2, k * 2 + 1, none⟩ = some u1 ∧ InE wr w'
theorem SE.held {wr : World} {g1 g2 k : Nat} {v0 v1 u0 u1 : Value} (h1 : g1 < wr.heap.size) (h2 : g2 < wr.heap.size) (c0 : wr.cell? ⟨g1, k * 2, none⟩ = some v0) (c1 : wr.cell? ⟨g1, k * 2 + 1, none⟩ = some v1) (c2 : wr.cell? ⟨g2, k * 2, none⟩ = some u0) (c3 : wr.cell? ⟨g2, k * 2 + 1, none⟩ = some u1) (w' : World) (h : InE wr w') : SE wr g1 g2 k v0 v1 u0 u1 w' :=
  ⟨(h.below.cell (p := ⟨g1, k * 2, none⟩) h1).trans c0, (h.below.cell (p := ⟨g1, k * 2 + 1, none⟩) h1).trans c1, (h.below.cell (p := ⟨g2, k * 2, none⟩) h2).trans c2, (h.below.cell (p := ⟨g2, k * 2 + 1, none⟩) h2).trans c3, h⟩
theorem binds_same {l m : List BindV} {k : Nat} (h : l.map BindV.pat = m.map BindV.pat) (h1 : k < l.length) (h2 : k < m.length) : m[k].xs = l[k].xs ∧ m[k].b = l[k].b := by
  have e : (l.map BindV.pat)[k]? = (m.map BindV.pat)[k]? := by rw [h]
  rw [List.getElem?_map, List.getElem?_map, List.getElem?_eq_getElem h1, List.getElem?_eq_getElem h2] at e
  simp only [Option.map_some, Option.some.injEq, BindV.pat, Pt.Pat.mk.injEq] at e
  exact ⟨(bs_inj e.1).symm, e.2.symm⟩
end Go.Proofs.YtffjmhdnfkpdpaaDoor
