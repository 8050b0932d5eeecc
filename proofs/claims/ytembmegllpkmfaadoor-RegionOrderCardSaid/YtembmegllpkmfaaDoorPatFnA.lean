/- The contracts of the reference's Star, Part, Capture, Inside. Words for patterns in memory; the contracts of the reference's Check and Text. The contracts of the reference's Text, Same, Kinds, wildcards; of small and equal. The contracts of small, of the reference's Kinds, wildcards, Same. -/
import Derived.Test.YtembmegllpkmfaaDoorPathAll
import Derived.Test.YtembmegllpkmfaaDoorMathAll
namespace Go.Proofs.YtembmegllpkmfaaDoor
open Go.RowKit

def StarRes (w : World) (o : Option (List UInt8)) (e : Ending) (w' : World) : Prop := e = .returned (.tuple #[.string ⟨(o.getD []).toArray⟩, .bool o.isSome]) ∧ w = w'
theorem star_head {s : ByteArray} (h : 0 < s.size) : Pt.star s.data.toList = if s[0] = 42 ∧ (s.data.toList.drop 1).all Pm.nb = true then some (s.data.toList.drop 1) else none := by
  have hl : 0 < s.data.toList.length := by rw [← Lib.size_eq]; exact h
  have hg : s.data.toList[0] = s[0] := list_get s 0 h
  cases hs : s.data.toList with
  | nil => rw [hs] at hl; simp at hl
  | cons c r =>
    have : c = s[0] := by rw [← hg]; simp [hs]
    rw [Pt.star_cons, this]
    rfl
/-- What Capture hands back: the capture (some text where there is none), and whether there is one. -/
def CapRes (w : World) (o : Option (List UInt8)) (e : Ending) (w' : World) : Prop :=
  ∃ l : List UInt8, e = .returned (.tuple #[.string ⟨l.toArray⟩, .bool o.isSome]) ∧ (∀ y, o = some y → l = y) ∧ w = w'
end Go.Proofs.YtembmegllpkmfaaDoor

namespace Go.Proofs.YtembmegllpkmfaaDoor
open Go.RowKit

/-- The value of a pattern. -/
abbrev patV (A : Option Addr) (n c : Nat) (b : Bool) : Value := .agg #[.slice A n c, .bool b]
/-- A pattern in memory: its parts are these strings. -/
structure PatR (w : World) (A : Option Addr) (xs : List ByteArray) (c : Nat) (b : Bool) (p : Pt.Pat) : Prop where
  rd : RdS w w.heap.size A xs
  parts : bs xs = p.parts
  rest : b = p.rest
  le : xs.length ≤ c
  cm : c ≤ maxLen
  nil : A = none → c = 0
  sz : ∀ x ∈ xs, x.size ≤ maxLen
theorem PatR.keep {w w' : World} {A : Option Addr} {xs : List ByteArray} {c : Nat} {b : Bool} {p : Pt.Pat} (h : PatR w A xs c b p) (hb : Below w.heap.size w w') : PatR w' A xs c b p :=
  ⟨(h.rd.keep hb).more hb.size, h.parts, h.rest, h.le, h.cm, h.nil, h.sz⟩
theorem PatR.len {w : World} {A : Option Addr} {xs : List ByteArray} {c : Nat} {b : Bool} {p : Pt.Pat} (h : PatR w A xs c b p) : p.parts.length = xs.length := by rw [← h.parts, bs_length]
def GivesN (w : World) (n : Nat) (e : Ending) (w' : World) : Prop := e = .returned (.int .i64 (n : Int)) ∧ Below w.heap.size w w'

theorem tail_all (xs : List ByteArray) : ((bs xs).drop 1).all Pt.part = ((bs xs).tail).all Pt.part := by simp
theorem part_drop {xs : List ByteArray} {k : Nat} (h : k < xs.length) : ((bs xs).drop k).all Pt.part = (Pt.part xs[k].data.toList && ((bs xs).drop (k + 1)).all Pt.part) := by
  rw [List.drop_eq_getElem_cons (by rw [bs_length]; exact h), List.all_cons, bs_get xs k h]
theorem bs_head {xs : List ByteArray} (h : 0 < xs.length) : (bs xs).headD [] = xs[0].data.toList := by
  cases xs with
  | nil => simp at h
  | cons x r => rfl

end Go.Proofs.YtembmegllpkmfaaDoor

namespace Go.Proofs.YtembmegllpkmfaaDoor
open Go.RowKit

theorem below_drewN {B : Nat} {a w : World} (h : Below B a w) (n : Nat) : Below B a (w.drewN n) := ⟨h.os, h.tape, h.output, h.size, h.block⟩
theorem dots4 (l : List UInt8) : (ByteArray.mk #[47, 47]) ++ (ByteArray.mk l.toArray) ++ (ByteArray.mk #[47, 46, 46, 46]) = ⟨(47 :: 47 :: (l ++ [47, 46, 46, 46])).toArray⟩ := by
  apply ba_ext
  simp [ByteArray.data_append]
/-- How much a row of strings holds. -/
def lens (l : List (List UInt8)) : Nat := (l.map List.length).sum
def smallB (l : List (List UInt8)) : Bool := decide (l.length ≤ 20) && decide (lens l ≤ 400)
theorem lens_take {l : List (List UInt8)} {k : Nat} (h : k < l.length) : lens (l.take (k + 1)) = lens (l.take k) + l[k].length := by
  unfold lens
  rw [List.take_succ_eq_append_getElem h, List.map_append, List.sum_append]
  simp
theorem lens_le {l : List (List UInt8)} {b : Nat} (h : ∀ x ∈ l, x.length ≤ b) : lens l ≤ l.length * b := by
  unfold lens
  induction l with
  | nil => simp
  | cons x r ih =>
    have h1 := h x (by simp)
    have h2 := ih fun y hy => h y (by simp [hy])
    simp only [List.map_cons, List.sum_cons, List.length_cons, Nat.succ_mul]
    omega
end Go.Proofs.YtembmegllpkmfaaDoor

namespace Go.Proofs.YtembmegllpkmfaaDoor
open Go.RowKit

/-- A bool, and new memory at most. -/
def GivesBB (w : World) (v : Bool) (e : Ending) (w' : World) : Prop := e = .returned (.bool v) ∧ Below w.heap.size w w'
def GivesNB (w : World) (n : Nat) (b : Bool) (e : Ending) (w' : World) : Prop := e = .returned (.tuple #[.int .i64 (n : Int), .bool b]) ∧ Below w.heap.size w w'
theorem stars_take {l : List (List UInt8)} {k : Nat} (h : k < l.length) : Pt.stars (l.take (k + 1)) = Pt.stars (l.take k) + if (Pt.star l[k]).isSome then 1 else 0 := by
  unfold Pt.stars
  rw [List.take_succ_eq_append_getElem h, List.filter_append, List.length_append]
  show _ = (List.filter Pt.isStar (List.take k l)).length + if Pt.isStar l[k] = true then 1 else 0
  by_cases hs : Pt.isStar l[k] = true
  · rw [List.filter_cons_of_pos hs, if_pos hs]; rfl
  · rw [List.filter_cons_of_neg hs, if_neg hs]; rfl
theorem stars_le (l : List (List UInt8)) : Pt.stars l ≤ l.length := List.length_filter_le _ _
end Go.Proofs.YtembmegllpkmfaaDoor
