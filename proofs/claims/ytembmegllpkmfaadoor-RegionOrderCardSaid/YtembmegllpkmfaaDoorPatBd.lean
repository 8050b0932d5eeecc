/- Words for PatternMeets: the two copies that it makes first. Words for slices of bindings (structs of a slice of strings and a bool) of the call's own, and append onto them. The contract of the program's Bind. -/
import Derived.Test.YtembmegllpkmfaaDoorPatHeld2
import Derived.Test.YtembmegllpkmfaaDoorPatFnC
import Derived.Test.YtembmegllpkmfaaDoorPatGoD
import Derived.Test.YtembmegllpkmfaaDoorPatFnA
import Derived.Test.YtembmegllpkmfaaDoorPathOwnAll
import Derived.Maps.AppendAt
import Derived.RegionTactic
namespace Go.Proofs.YtembmegllpkmfaaDoor
open Go.RowKit

/-- Two copies in two new boxes. -/
structure Copies (w wx : World) (pv qv : Value) (g h : Nat) (A0 A1 A B : Option Addr) (xs ys : List ByteArray) (c0 c1 c d : Nat) (b f : Bool) : Prop where
  pv : pv = .pointer (some ⟨g, 0, none⟩)
  qv : qv = .pointer (some ⟨h, 0, none⟩)
  e0 : wx.cell? ⟨g, 0, none⟩ = some (.slice A xs.length c)
  e1 : wx.cell? ⟨g, 1, none⟩ = some (.bool b)
  e2 : wx.cell? ⟨h, 0, none⟩ = some (.slice B ys.length d)
  e3 : wx.cell? ⟨h, 1, none⟩ = some (.bool f)
  hg : g < wx.heap.size
  hh : h < wx.heap.size
  pa : PatR wx A xs c b ⟨bs xs, b⟩
  pb : PatR wx B ys d f ⟨bs ys, f⟩
  bx : In2 w (.slice A0 xs.length c0) (.bool b) (.slice A1 ys.length c1) (.bool f) 24 wx

abbrev zeroPat : Obj := .cells #[.slice none 0 0, .bool false] 24
/-- A box that holds the zero pattern. -/
structure ZBox (w : World) (g : Nat) : Prop where
  c0 : w.cell? ⟨g, 0, none⟩ = some (.slice none 0 0)
  c1 : w.cell? ⟨g, 1, none⟩ = some (.bool false)
  f0 : w.frozen? ⟨g, 0, none⟩ = false
  f1 : w.frozen? ⟨g, 1, none⟩ = false
  lt : g < w.heap.size
theorem ZBox.next {w w' : World} {g : Nat} (h : ZBox w g) (hb : Below w.heap.size w w') : ZBox w' g :=
  ⟨(hb.cell (p := ⟨g, 0, none⟩) h.lt).trans h.c0, (hb.cell (p := ⟨g, 1, none⟩) h.lt).trans h.c1, (hb.frozen (p := ⟨g, 0, none⟩) h.lt).trans h.f0, (hb.frozen (p := ⟨g, 1, none⟩) h.lt).trans h.f1, Nat.lt_of_lt_of_le h.lt hb.size⟩
theorem ZBox.nextA {w w' : World} {g : Nat} (h : ZBox w g) (hb : Below (w.alloc zeroPat).heap.size (w.alloc zeroPat) w') : ZBox w' g :=
  h.next (((Below.refl _ _).alloc (Nat.le_refl _) _).trans (hb.mono (by simp)))
theorem ZBox.one {w w' : World} (hb : Below (w.alloc zeroPat).heap.size (w.alloc zeroPat) w') : ZBox w' w.heap.size := by
  obtain ⟨a, b⟩ := box_cells hb
  exact ⟨a, b, box_free hb 0, box_free hb 1, by have := hb.size; simp at this; omega⟩
theorem ZBox.two {w w' : World} (hb : Below ((w.alloc zeroPat).alloc zeroPat).heap.size ((w.alloc zeroPat).alloc zeroPat) w') : ZBox w' w.heap.size ∧ ZBox w' (w.heap.size + 1) := by
  have h1 : Below (w.alloc zeroPat).heap.size (w.alloc zeroPat) w' := ((Below.refl _ _).alloc (Nat.le_refl _) _).trans (hb.mono (by simp))
  have h2 := ZBox.one hb
  rw [show (w.alloc zeroPat).heap.size = w.heap.size + 1 by simp] at h2
  exact ⟨ZBox.one h1, h2⟩
theorem ZBox.oneD {w w' : World} (hb : Below (w.alloc zeroPat).drew.heap.size (w.alloc zeroPat).drew w') : ZBox w' w.heap.size := ZBox.one ((below_drew (Below.refl _ _)).trans hb)
theorem ZBox.twoD {w w' : World} (hb : Below ((w.alloc zeroPat).alloc zeroPat).drew.heap.size ((w.alloc zeroPat).alloc zeroPat).drew w') : ZBox w' w.heap.size ∧ ZBox w' (w.heap.size + 1) := ZBox.two ((below_drew (Below.refl _ _)).trans hb)
theorem PatR.allocd {w : World} {A : Option Addr} {xs : List ByteArray} {c : Nat} {b : Bool} {p : Pt.Pat} (h : PatR w A xs c b p) (o : Obj) : PatR (w.alloc o) A xs c b p := h.keep ((Below.refl _ _).alloc (Nat.le_refl _) _)
theorem PatR.stored {w : World} {A : Option Addr} {xs : List ByteArray} {c : Nat} {b : Bool} {p : Pt.Pat} (h : PatR w A xs c b p) (a : Addr) (u v : Value) (hv : w.cell? a = some v) (hne : ∀ s, v ≠ .string s) : PatR (w.setCell a u) A xs c b p :=
  ⟨(h.rd.store a u v hv hne).more (by simp [World.setCell]), h.parts, h.rest, h.le, h.cm, h.nil, h.sz⟩
theorem PatR.stS {w : World} {A : Option Addr} {xs : List ByteArray} {c : Nat} {b : Bool} {p : Pt.Pat} (h : PatR w A xs c b p) (g : Nat) (u : Value) (hv : w.cell? ⟨g, 0, none⟩ = some (.slice none 0 0)) : PatR (w.setCell ⟨g, 0, none⟩ u) A xs c b p := h.stored _ u _ hv (fun _ h => by cases h)
theorem PatR.stB {w : World} {A : Option Addr} {xs : List ByteArray} {c : Nat} {b : Bool} {p : Pt.Pat} (h : PatR w A xs c b p) (g : Nat) (u : Value) (hv : w.cell? ⟨g, 1, none⟩ = some (.bool false)) : PatR (w.setCell ⟨g, 1, none⟩ u) A xs c b p := h.stored _ u _ hv (fun _ h => by cases h)
theorem In2.allocd {w w' : World} {v0 v1 u0 u1 : Value} {t : TypeId} (h : In2 w v0 v1 u0 u1 t w') (o : Obj) : In2 w v0 v1 u0 u1 t (w'.alloc o) := h.next ((Below.refl _ _).alloc (Nat.le_refl _) _)
theorem In2.stored {w w' : World} {v0 v1 u0 u1 : Value} {t : TypeId} (h : In2 w v0 v1 u0 u1 t w') (p : Addr) (hp : ((w.alloc (.cells #[v0, v1] t)).alloc (.cells #[u0, u1] t)).heap.size ≤ p.block) (u : Value) : In2 w v0 v1 u0 u1 t (w'.setCell p u) := ⟨h.below.setCell hp u⟩
theorem In2.st {w w' : World} {v0 v1 u0 u1 : Value} {t : TypeId} (h : In2 w v0 v1 u0 u1 t w') (g k : Nat) (hg : w.heap.size + 1 + 1 ≤ g) (u : Value) : In2 w v0 v1 u0 u1 t (w'.setCell ⟨g, k, none⟩ u) := h.stored ⟨g, k, none⟩ (by simpa using hg) u
theorem In2.size {w w' : World} {v0 v1 u0 u1 : Value} {t : TypeId} (h : In2 w v0 v1 u0 u1 t w') : w.heap.size + 1 + 1 ≤ w'.heap.size := by have := h.below.size; simp at this; omega
end Go.Proofs.YtembmegllpkmfaaDoor

namespace Go.Proofs.YtembmegllpkmfaaDoor
open Go.RowKit

/-- A binding as it lies in memory. -/
structure BindV where
  A : Option Addr
  xs : List ByteArray
  c : Nat
  b : Bool
def BindV.pat (v : BindV) : Pt.Pat := ⟨bs v.xs, v.b⟩
def bcells (l : List BindV) : List Value := l.flatMap fun v => [.slice v.A v.xs.length v.c, .bool v.b]
theorem bcells_length : ∀ l : List BindV, (bcells l).length = l.length * 2
  | [] => rfl
  | v :: l => by
    have := bcells_length l
    simp only [bcells, List.flatMap_cons, List.length_append, List.length_cons, List.length_nil] at this ⊢
    omega
theorem bcells_append (l m : List BindV) : bcells (l ++ m) = bcells l ++ bcells m := by simp [bcells]
theorem bcells_get : ∀ (l : List BindV) (k : Nat) (h : k < l.length), (bcells l)[2 * k]? = some (.slice l[k].A l[k].xs.length l[k].c) ∧ (bcells l)[2 * k + 1]? = some (.bool l[k].b)
  | [], _, h => by simp at h
  | v :: l, 0, _ => by simp [bcells]
  | v :: l, k + 1, h => by
    have ih := bcells_get l k (by simpa using h)
    have e : bcells (v :: l) = [.slice v.A v.xs.length v.c, .bool v.b] ++ bcells l := by simp [bcells]
    rw [e]
    refine ⟨?_, ?_⟩
    · rw [List.getElem?_append_right (by simp; omega)]
      simp only [List.length_cons, List.length_nil, List.getElem_cons_succ]
      rw [show 2 * (k + 1) - (0 + 1 + 1) = 2 * k by omega]
      exact ih.1
    · rw [List.getElem?_append_right (by simp; omega)]
      simp only [List.length_cons, List.length_nil, List.getElem_cons_succ]
      rw [show 2 * (k + 1) + 1 - (0 + 1 + 1) = 2 * k + 1 by omega]
      exact ih.2
/-- What grows one block keeps what lies in the others. -/
theorem PatR.grown {w w' : World} {k : Option Nat} {A : Option Addr} {xs : List ByteArray} {c : Nat} {b : Bool} {p : Pt.Pat} (h : PatR w A xs c b p) (hg : w.grownBy w' k) (ha : ∀ a, A = some a → k ≠ some a.block) : PatR w' A xs c b p := by
  refine ⟨?_, h.parts, h.rest, h.le, h.cm, h.nil, h.sz⟩
  rcases h.rd with h0 | ⟨g, o, hA, hlt, hc⟩
  · exact .inl h0
  · refine .inr ⟨g, o, hA, Nat.lt_of_lt_of_le hlt hg.size, fun j hj => ?_⟩
    rw [← hc j hj]
    have hb := hg.block g hlt (fun e => ha _ hA e.symm)
    unfold World.cell?
    simp only [hb]

section
variable {w : World} {ops : Array Oper} {rest : List Oper} {o : Oper} {a : Act} {Q : Exit → Act → World → Prop}
end
end Go.Proofs.YtembmegllpkmfaaDoor

namespace Go.Proofs.YtembmegllpkmfaaDoor
open Go.RowKit

/-- slices.Clone of any slice of strings: a slice of the call's own. -/
theorem clone_all (A : Option Addr) (xs : List ByteArray) (c : Nat) (w : World) (hr : RdS w w.heap.size A xs) (h2 : xs.length ≤ 1000000) :
    Calls Tryd.prog 26 #[.slice A xs.length c] w fun e w' => ∃ C cz, e = .returned (.slice C xs.length cz) ∧ RdS w' w'.heap.size C xs ∧ xs.length ≤ cz ∧ cz ≤ maxLen ∧ (C = none → cz = 0) ∧ (∀ a, C = some a → w.heap.size ≤ a.block ∧ a.block < w'.heap.size) ∧ Below w.heap.size w w' := by
  by_cases h1 : 1 ≤ xs.length
  · refine (clone_any A xs c w hr h1 h2).mono ?_
    rintro e w' ⟨g, cap, rfl, hown, hg, hg2, hc1, hc2, hb⟩
    obtain ⟨A', c', hv, _, _, hrd, _⟩ := hown.form
    injection hv with hA _ hc
    subst hA
    refine ⟨_, cap, rfl, hrd, hc1, hc2, (fun h => by cases h), fun a ha => ?_, hb⟩
    injection ha with ha
    subst ha
    exact ⟨hg, hg2⟩
  · have hx : xs = [] := List.eq_nil_of_length_eq_zero (by omega)
    subst hx
    cases A with
    | none =>
      refine (Tryd.slices_Clone_string_nil 0 c w).mono ?_
      rintro e w' ⟨rfl, rfl⟩
      exact ⟨none, 0, rfl, .inl rfl, Nat.le_refl _, Nat.zero_le _, (fun _ => rfl), (fun a h => by cases h), Below.refl _ _⟩
    | some a =>
      refine (Tryd.slices_Clone_string_zero a c w).mono ?_
      rintro e w' ⟨v, rfl, hown, hnn, hb⟩
      rcases hown.2 with ⟨hv, _⟩ | ⟨g2, cap, cur, hv, hbg, hg2, hnc, hcm, _, _⟩
      · exact absurd hv hnn
      · subst hv
        refine ⟨_, cap, rfl, .inl rfl, Nat.zero_le _, hcm, (fun h => by cases h), fun a ha => ?_, hb⟩
        injection ha with ha
        subst ha
        exact ⟨hbg, (Array.getElem?_eq_some_iff.1 hg2).1⟩
theorem S2.alloc {w w' : World} {v0 v1 u0 u1 : Value} {t : TypeId} (h : S2 w v0 v1 u0 u1 t w') (o : Obj) : S2 w v0 v1 u0 u1 t (w'.alloc o) := S2.nxt ((Below.refl _ _).alloc (Nat.le_refl _) _) h
theorem S2.nxtM {w w1 w' : World} {v0 v1 u0 u1 : Value} {t : TypeId} {m : Nat} (hb : Below m w1 w') (hm : ((w.alloc (.cells #[v0, v1] t)).alloc (.cells #[u0, u1] t)).heap.size ≤ m) (h : S2 w v0 v1 u0 u1 t w1) : S2 w v0 v1 u0 u1 t w' := In2.held ⟨h.2.2.2.2.below.trans (hb.mono hm)⟩
theorem In2.nextM {w w1 w' : World} {v0 v1 u0 u1 : Value} {t : TypeId} {m : Nat} (hb : Below m w1 w') (hm : ((w.alloc (.cells #[v0, v1] t)).alloc (.cells #[u0, u1] t)).heap.size ≤ m) (h : In2 w v0 v1 u0 u1 t w1) : In2 w v0 v1 u0 u1 t w' := ⟨h.below.trans (hb.mono hm)⟩
theorem bind_stars (p q : Pt.Pat) : Pt.bind p q = (if Pt.check p = 0 ∧ Pt.check q = 0 then Pt.narr p q else none).map fun l => (l.map fun u => ⟨[u], false⟩) ++ if p.rest then [⟨q.parts.drop p.parts.length, q.rest⟩] else [] := by
  by_cases h : Pt.check p = 0 ∧ Pt.check q = 0
  · rw [if_pos h, Pt.bind_narr h.1 h.2]
  · rw [if_neg h]
    unfold Pt.bind
    have : Pt.within q p = false := by
      cases hw : Pt.within q p with
      | false => rfl
      | true =>
        obtain ⟨h1, h2, _⟩ := Pt.within_parts hw
        exact absurd ⟨h2, h1⟩ h
    rw [this]
    rfl
theorem narrs_sizes : ∀ {ps qs r : List (List UInt8)}, Pt.narrsOf ps qs = some r → ∀ u ∈ r, ∃ y ∈ qs, u.length ≤ y.length
  | [], _, r, h, u, hu => by
    simp only [Pt.narrsOf, Option.some.injEq] at h
    subst h
    cases hu
  | _ :: _, [], r, h, u, hu => by cases h
  | x :: ps, y :: qs, r, h, u, hu => by
    rw [Pt.narrsOf_cons] at h
    cases hn : Pt.narrO x y with
    | none => rw [hn] at h; cases h
    | some z =>
      rw [hn] at h
      simp only [Option.map_eq_some_iff] at h
      obtain ⟨r', hr', rfl⟩ := h
      have hz : z.length ≤ y.length := by
        unfold Pt.narrO at hn
        split at hn
        · split at hn
          · injection hn with hn; subst hn; simp
          · cases hn
        · split at hn
          · injection hn with hn; subst hn; simp
          · cases hn
      have hm : u = z ∨ u ∈ r' := by
        split at hu
        · exact .inr hu
        · exact List.mem_cons.1 hu
      rcases hm with rfl | h2
      · exact ⟨y, by simp, hz⟩
      · obtain ⟨y', hy', hl⟩ := narrs_sizes hr' u h2
        exact ⟨y', List.mem_cons_of_mem _ hy', hl⟩
theorem narr_bound {p q : Pt.Pat} {l : List (List UInt8)} (h : (if Pt.check p = 0 ∧ Pt.check q = 0 then Pt.narr p q else none) = some l) : l.length ≤ 12 ∧ p.parts.length ≤ q.parts.length ∧ q.parts.length ≤ 12 ∧ ∀ u ∈ l, ∃ y ∈ q.parts, u.length ≤ y.length := by
  split at h
  · rename_i hc
    have h1 := narr_len h
    have h2 := (Pt.check_ok.1 hc.1).2
    have h3 := (Pt.check_ok.1 hc.2).2
    unfold Pt.narr at h
    split at h
    · rename_i hct
      unfold Pt.counts at hct
      rw [Bool.and_eq_true, decide_eq_true_eq] at hct
      exact ⟨by omega, hct.1, h3, narrs_sizes h⟩
    · cases h
  · cases h

end Go.Proofs.YtembmegllpkmfaaDoor
