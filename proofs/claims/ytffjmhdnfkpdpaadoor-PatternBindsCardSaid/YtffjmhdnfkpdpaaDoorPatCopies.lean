/- Words for PatternMeets: the two copies that it makes first. -/
import Derived.Test.YtffjmhdnfkpdpaaDoorPatHeld2
import Derived.Test.YtffjmhdnfkpdpaaDoorPatFn10
import Derived.Test.YtffjmhdnfkpdpaaDoorPatGo8
namespace Go.Proofs.YtffjmhdnfkpdpaaDoor
open Go.RowKit

/-- Two copies in two new boxes. -/
structure Copies (w wx : World) (pv qv : Value) (g h : Nat) (A0 A1 A B : Option Addr) (xs ys : List ByteArray) (c0 c1 c d : Nat) (b f : Bool) : Prop where
  pv : pv = .pointer (some ⟨g, 0, none⟩)
  qv : qv = .pointer (some ⟨h, 0, none⟩)
  e0 : wx.cell? ⟨g, 0, none⟩ = some (.slice A xs.length c)
  e1 : wx.cell? ⟨g, 1, none⟩ = some (.bool b)
  e2 : wx.cell? ⟨h, 0, none⟩ = some (.slice B ys.length d)
  e3 : wx.cell? ⟨h, 1, none⟩ = some (.bool f)
  hg : g < wx.heap.size
  hh : h < wx.heap.size
  pa : PatR wx A xs c b ⟨bs xs, b⟩
  pb : PatR wx B ys d f ⟨bs ys, f⟩
  bx : In2 w (.slice A0 xs.length c0) (.bool b) (.slice A1 ys.length c1) (.bool f) 25 wx

abbrev zeroPat : Obj := .cells #[.slice none 0 0, .bool false] 25
/-- A box that holds the zero pattern. -/
structure ZBox (w : World) (g : Nat) : Prop where
  c0 : w.cell? ⟨g, 0, none⟩ = some (.slice none 0 0)
  c1 : w.cell? ⟨g, 1, none⟩ = some (.bool false)
  f0 : w.frozen? ⟨g, 0, none⟩ = false
  f1 : w.frozen? ⟨g, 1, none⟩ = false
  lt : g < w.heap.size
theorem ZBox.next {w w' : World} {g : Nat} (h : ZBox w g) (hb : Below w.heap.size w w') : ZBox w' g :=
  ⟨(hb.cell (p := ⟨g, 0, none⟩) h.lt).trans h.c0, (hb.cell (p := ⟨g, 1, none⟩) h.lt).trans h.c1, (hb.frozen (p := ⟨g, 0, none⟩) h.lt).trans h.f0, (hb.frozen (p := ⟨g, 1, none⟩) h.lt).trans h.f1, Nat.lt_of_lt_of_le h.lt hb.size⟩
theorem ZBox.nextA {w w' : World} {g : Nat} (h : ZBox w g) (hb : Below (w.alloc zeroPat).heap.size (w.alloc zeroPat) w') : ZBox w' g :=
  h.next (((Below.refl _ _).alloc (Nat.le_refl _) _).trans (hb.mono (by simp)))
theorem ZBox.one {w w' : World} (hb : Below (w.alloc zeroPat).heap.size (w.alloc zeroPat) w') : ZBox w' w.heap.size := by
  obtain ⟨a, b⟩ := box_cells hb
  exact ⟨a, b, box_free hb 0, box_free hb 1, by have := hb.size; simp at this; omega⟩
theorem ZBox.two {w w' : World} (hb : Below ((w.alloc zeroPat).alloc zeroPat).heap.size ((w.alloc zeroPat).alloc zeroPat) w') : ZBox w' w.heap.size ∧ ZBox w' (w.heap.size + 1) := by
  have h1 : Below (w.alloc zeroPat).heap.size (w.alloc zeroPat) w' := ((Below.refl _ _).alloc (Nat.le_refl _) _).trans (hb.mono (by simp))
  have h2 := ZBox.one hb
  rw [show (w.alloc zeroPat).heap.size = w.heap.size + 1 by simp] at h2
  exact ⟨ZBox.one h1, h2⟩
theorem ZBox.oneD {w w' : World} (hb : Below (w.alloc zeroPat).drew.heap.size (w.alloc zeroPat).drew w') : ZBox w' w.heap.size := ZBox.one ((below_drew (Below.refl _ _)).trans hb)
theorem ZBox.twoD {w w' : World} (hb : Below ((w.alloc zeroPat).alloc zeroPat).drew.heap.size ((w.alloc zeroPat).alloc zeroPat).drew w') : ZBox w' w.heap.size ∧ ZBox w' (w.heap.size + 1) := ZBox.two ((below_drew (Below.refl _ _)).trans hb)
theorem PatR.allocd {w : World} {A : Option Addr} {xs : List ByteArray} {c : Nat} {b : Bool} {p : Pt.Pat} (h : PatR w A xs c b p) (o : Obj) : PatR (w.alloc o) A xs c b p := h.keep ((Below.refl _ _).alloc (Nat.le_refl _) _)
theorem PatR.stored {w : World} {A : Option Addr} {xs : List ByteArray} {c : Nat} {b : Bool} {p : Pt.Pat} (h : PatR w A xs c b p) (a : Addr) (u v : Value) (hv : w.cell? a = some v) (hne : ∀ s, v ≠ .string s) : PatR (w.setCell a u) A xs c b p :=
  ⟨(h.rd.store a u v hv hne).more (by simp [World.setCell]), h.parts, h.rest, h.le, h.cm, h.nil, h.sz⟩
theorem PatR.stS {w : World} {A : Option Addr} {xs : List ByteArray} {c : Nat} {b : Bool} {p : Pt.Pat} (h : PatR w A xs c b p) (g : Nat) (u : Value) (hv : w.cell? ⟨g, 0, none⟩ = some (.slice none 0 0)) : PatR (w.setCell ⟨g, 0, none⟩ u) A xs c b p := h.stored _ u _ hv (fun _ h => by cases h)
theorem PatR.stB {w : World} {A : Option Addr} {xs : List ByteArray} {c : Nat} {b : Bool} {p : Pt.Pat} (h : PatR w A xs c b p) (g : Nat) (u : Value) (hv : w.cell? ⟨g, 1, none⟩ = some (.bool false)) : PatR (w.setCell ⟨g, 1, none⟩ u) A xs c b p := h.stored _ u _ hv (fun _ h => by cases h)
theorem In2.allocd {w w' : World} {v0 v1 u0 u1 : Value} {t : TypeId} (h : In2 w v0 v1 u0 u1 t w') (o : Obj) : In2 w v0 v1 u0 u1 t (w'.alloc o) := h.next ((Below.refl _ _).alloc (Nat.le_refl _) _)
theorem In2.stored {w w' : World} {v0 v1 u0 u1 : Value} {t : TypeId} (h : In2 w v0 v1 u0 u1 t w') (p : Addr) (hp : ((w.alloc (.cells #[v0, v1] t)).alloc (.cells #[u0, u1] t)).heap.size ≤ p.block) (u : Value) : In2 w v0 v1 u0 u1 t (w'.setCell p u) := ⟨h.below.setCell hp u⟩
theorem In2.st {w w' : World} {v0 v1 u0 u1 : Value} {t : TypeId} (h : In2 w v0 v1 u0 u1 t w') (g k : Nat) (hg : w.heap.size + 1 + 1 ≤ g) (u : Value) : In2 w v0 v1 u0 u1 t (w'.setCell ⟨g, k, none⟩ u) := h.stored ⟨g, k, none⟩ (by simpa using hg) u
theorem In2.size {w w' : World} {v0 v1 u0 u1 : Value} {t : TypeId} (h : In2 w v0 v1 u0 u1 t w') : w.heap.size + 1 + 1 ≤ w'.heap.size := by have := h.below.size; simp at this; omega
end Go.Proofs.YtffjmhdnfkpdpaaDoor
