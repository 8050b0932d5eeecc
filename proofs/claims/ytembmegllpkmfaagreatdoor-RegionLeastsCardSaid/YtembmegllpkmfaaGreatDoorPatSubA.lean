/- Words for slices of bindings; a slice of bindings that is read; Same of equal patterns. -/
import Derived.Test.YtembmegllpkmfaaGreatDoorPatBd
import Derived.Test.YtembmegllpkmfaaGreatDoorMathAll
import Derived.Test.YtembmegllpkmfaaGreatDoorPatGoC
import Derived.Deep.RegionHeld3
import Derived.Deep.RegionLaw
import Derived.Test.YtembmegllpkmfaaGreatDoorPatFnB
import Derived.Test.YtembmegllpkmfaaGreatDoorPatHeld
import Derived.Test.YtembmegllpkmfaaGreatDoorPatAwake2
namespace Go.Proofs.YtembmegllpkmfaaGreatDoor
open Go.RowKit

theorem step_append_nil {w : World} {ops : Array Oper} {o : Oper} {a : Act} {K : Act → World → Prop} {Q : Exit → Act → World → Prop} {E : Prop} (hgd : o.guard = none) (s x : Operand)
    (ho : o.op = .call { callee := .builtin .append, args := #[s, x], argTypes := #[22, 22] })
    (hs : a.eval s = .slice none 0 0)
    (A : Option Addr) (xs : List ByteArray) (n c : Nat) (hn : n = xs.length) (hx : a.eval x = .slice A n c) (hr : RdS w w.heap.size A xs) (hnil : A = none → c = 0)
    (hN : n ≤ 1000000)
    (h : ∀ C cz w', RdS w' w'.heap.size C xs → n ≤ cz → cz ≤ maxLen → (C = none → cz = 0) → (∀ a, C = some a → w.heap.size ≤ a.block ∧ a.block < w'.heap.size) → Below w.heap.size w w' → K (a.put o.dst (.slice C n cz)) w') : if Region.wanted o (yielded ops a.tmps) = true then Oper.wp Tryz.prog o a w K Q else E := by
  refine step_append_ss hgd s x ho w.heap.size (.slice none 0 0) [] hs (World.ownsRow_nil w w.heap.size _ 1) A xs n c hn hx hr hnil (by simp; omega) (Nat.le_refl _) ?_
  intro v' w' hown hb
  rw [List.nil_append] at hown
  obtain ⟨C, cz, rfl, h1, h2, h3, h4⟩ := hown.form
  rw [← hn] at hown h1 ⊢
  refine h C cz w' h3 h1 h2 h4 (fun a ha => ?_) hb
  subst ha
  exact World.ownsRow.lt hown _ rfl
theorem GivesBd.any {w w' : World} {o : Option (List Pt.Pat)} {e : Ending} (h : GivesBd w o e w') : ∃ v bl, e = .returned (.tuple #[v, .bool o.isSome]) ∧ OwnB w' w.heap.size v bl ∧ bl.map BindV.pat = o.getD [] ∧ Below w.heap.size w w' := by
  cases o with
  | none => exact ⟨_, [], h.1, OwnB.empty _ _, rfl, h.2⟩
  | some l =>
    obtain ⟨v, bl, h1, h2, h3, h4⟩ := h
    exact ⟨v, bl, h1, h2, h3, h4⟩
theorem OwnB.at {w : World} {base : Nat} {A : Option Addr} {n e : Nat} {bl : List BindV} (h : OwnB w base (.slice A n e) bl) {k : Nat} (hk : k < bl.length) : ∃ g, A = some ⟨g, 0, none⟩ ∧ g < w.heap.size ∧ w.cell? ⟨g, k * 2, none⟩ = some (.slice bl[k].A bl[k].xs.length bl[k].c) ∧ w.cell? ⟨g, k * 2 + 1, none⟩ = some (.bool bl[k].b) := by
  have hg := bcells_get bl k hk
  rcases h.row.2 with ⟨hv, hn⟩ | ⟨g, cap, cur, hv, hbg, hgg, r⟩
  · omega
  · injection hv with hA hn hc
    subst hA
    have c0 := World.ownsRow.cells h.row (g := g) rfl _ _ hg.1
    have c1 := World.ownsRow.cells h.row (g := g) rfl _ _ hg.2
    rw [add_plain] at c0 c1
    rw [Nat.zero_add, Nat.mul_comm] at c0
    rw [Nat.zero_add, Nat.mul_comm] at c1
    exact ⟨g, rfl, (Array.getElem?_eq_some_iff.1 hgg).1, c0, c1⟩
structure InE (wr w' : World) : Prop where
  below : Below wr.heap.size wr w'
theorem InE.next {wr w1 w' : World} (h : InE wr w1) (hb : Below w1.heap.size w1 w') : InE wr w' := ⟨h.below.trans (hb.mono h.below.size)⟩
theorem InE.drew {wr w' : World} (h : InE wr w') : InE wr w'.drew := ⟨h.below.trans (below_drew (Below.refl _ _))⟩
abbrev SE (wr : World) (g1 g2 k : Nat) (v0 v1 u0 u1 : Value) (w' : World) : Prop :=
  w'.cell? ⟨g1, k * 2, none⟩ = some v0 ∧ w'.cell? ⟨g1, k * 2 + 1, none⟩ = some v1 ∧ w'.cell? ⟨g2, k * 2, none⟩ = some u0 ∧ w'.cell? ⟨g2, k * 2 + 1, none⟩ = some u1 ∧ InE wr w'
theorem SE.held {wr : World} {g1 g2 k : Nat} {v0 v1 u0 u1 : Value} (h1 : g1 < wr.heap.size) (h2 : g2 < wr.heap.size) (c0 : wr.cell? ⟨g1, k * 2, none⟩ = some v0) (c1 : wr.cell? ⟨g1, k * 2 + 1, none⟩ = some v1) (c2 : wr.cell? ⟨g2, k * 2, none⟩ = some u0) (c3 : wr.cell? ⟨g2, k * 2 + 1, none⟩ = some u1) (w' : World) (h : InE wr w') : SE wr g1 g2 k v0 v1 u0 u1 w' :=
  ⟨(h.below.cell (p := ⟨g1, k * 2, none⟩) h1).trans c0, (h.below.cell (p := ⟨g1, k * 2 + 1, none⟩) h1).trans c1, (h.below.cell (p := ⟨g2, k * 2, none⟩) h2).trans c2, (h.below.cell (p := ⟨g2, k * 2 + 1, none⟩) h2).trans c3, h⟩
theorem binds_same {l m : List BindV} {k : Nat} (h : l.map BindV.pat = m.map BindV.pat) (h1 : k < l.length) (h2 : k < m.length) : m[k].xs = l[k].xs ∧ m[k].b = l[k].b := by
  have e : (l.map BindV.pat)[k]? = (m.map BindV.pat)[k]? := by rw [h]
  rw [List.getElem?_map, List.getElem?_map, List.getElem?_eq_getElem h1, List.getElem?_eq_getElem h2] at e
  simp only [Option.map_some, Option.some.injEq, BindV.pat, Pt.Pat.mk.injEq] at e
  exact ⟨(bs_inj e.1).symm, e.2.symm⟩
end Go.Proofs.YtembmegllpkmfaaGreatDoor

namespace Go.Proofs.YtembmegllpkmfaaGreatDoor
open Go.RowKit

/-- A slice that reads as these bindings. -/
structure RdB (w : World) (A : Option Addr) (bl : List BindV) (c : Nat) : Prop where
  cells : bl = [] ∨ ∃ g o, A = some ⟨g, o, none⟩ ∧ g < w.heap.size ∧ ∀ k (h : k < bl.length), w.cell? ⟨g, o + k * 2, none⟩ = some (.slice bl[k].A bl[k].xs.length bl[k].c) ∧ w.cell? ⟨g, o + k * 2 + 1, none⟩ = some (.bool bl[k].b)
  parts : ∀ x ∈ bl, PatR w x.A x.xs x.c x.b x.pat
  le : bl.length ≤ c
  cm : c ≤ maxLen
  nil : A = none → c = 0
theorem RdB.keep {w w' : World} {A : Option Addr} {bl : List BindV} {c : Nat} (h : RdB w A bl c) (hb : Below w.heap.size w w') : RdB w' A bl c := by
  refine ⟨?_, fun x hx => (h.parts x hx).keep hb, h.le, h.cm, h.nil⟩
  rcases h.cells with h0 | ⟨g, o, hA, hg, hc⟩
  · exact .inl h0
  · exact .inr ⟨g, o, hA, Nat.lt_of_lt_of_le hg hb.size, fun k hk => ⟨(hb.cell (p := ⟨g, o + k * 2, none⟩) hg).trans (hc k hk).1, (hb.cell (p := ⟨g, o + k * 2 + 1, none⟩) hg).trans (hc k hk).2⟩⟩
theorem RdB.at {w : World} {A : Option Addr} {bl : List BindV} {c : Nat} (h : RdB w A bl c) (hl : 0 < bl.length) : ∃ g o, A = some ⟨g, o, none⟩ ∧ g < w.heap.size ∧ ∀ k (h : k < bl.length), w.cell? ⟨g, o + k * 2, none⟩ = some (.slice bl[k].A bl[k].xs.length bl[k].c) ∧ w.cell? ⟨g, o + k * 2 + 1, none⟩ = some (.bool bl[k].b) := by
  rcases h.cells with h0 | h1
  · subst h0; simp at hl
  · exact h1
theorem OwnB.rd {w : World} {base : Nat} {v : Value} {bl : List BindV} (h : OwnB w base v bl) : ∃ A c, v = .slice A bl.length c ∧ RdB w A bl c := by
  have hat := fun A n e (h2 : OwnB w base (.slice A n e) bl) k (hk : k < bl.length) => h2.at hk
  rcases h.row.2 with ⟨hv, hn⟩ | ⟨g, cap, cur, hv, hbg, hg, hnc, hcm, _⟩
  · exact ⟨none, 0, by rw [hv, hn], .inl (List.eq_nil_of_length_eq_zero hn), h.parts, by omega, Nat.zero_le _, fun _ => rfl⟩
  · refine ⟨some ⟨g, 0, none⟩, cap, hv, .inr ⟨g, 0, rfl, (Array.getElem?_eq_some_iff.1 hg).1, fun k hk => ?_⟩, h.parts, hnc, hcm, fun h => by cases h⟩
    rw [hv] at h
    obtain ⟨g', hA, _, c0, c1⟩ := hat _ _ _ h k hk
    injection hA with hA
    injection hA with hA
    subst hA
    rw [Nat.zero_add]
    exact ⟨c0, c1⟩
end Go.Proofs.YtembmegllpkmfaaGreatDoor

namespace Go.Proofs.YtembmegllpkmfaaGreatDoor
open Go.RowKit

theorem same_pats (A B : Option Addr) (xs ys : List ByteArray) (c d : Nat) (b f : Bool) (p : Pt.Pat) (w : World) (hp : PatR w A xs c b p) (hq : PatR w B ys d f p) :
    Calls Tryz.prog 45 #[patV A xs.length c b, patV B ys.length d f] w (GivesBB w true) := by
  have h := rsame_any A B xs ys c d w.heap.size w.heap.size b f w hp.rd hq.rd (Nat.le_refl _) (Nat.le_refl _) (Nat.le_trans hp.le hp.cm) hp.le hq.le (Nat.le_trans hq.le hq.cm)
  have e1 : xs = ys := bs_inj (hp.parts.trans hq.parts.symm)
  have e2 : b = f := hp.rest.trans hq.rest.symm
  have e : samePat b f xs ys = true := by
    unfold samePat
    rw [e1, e2]
    simp
  rw [e] at h
  exact h
end Go.Proofs.YtembmegllpkmfaaGreatDoor
