/- The contract of the reference's Parse. -/
import Derived.Test.YthgcnlhlhipllaaGreatDoorPatFn7
namespace Go.Proofs.YthgcnlhlhipllaaGreatDoor
open Go.RowKit

def GivesPat (w : World) (p : Pt.Pat) (n : Nat) (e : Ending) (w' : World) : Prop :=
  ∃ A xs c b, e = .returned (.tuple #[patV A (List.length xs) c b, .int .i64 (n : Int)]) ∧ PatR w' A xs c b p ∧ Below w.heap.size w w'
theorem patR_zero (w : World) : PatR w none [] 0 false ⟨[], false⟩ := ⟨.inl rfl, rfl, rfl, by simp, by simp, fun _ => rfl, by simp⟩
theorem box_free {w w' : World} {v0 v1 : Value} {t : TypeId} (h : Below (w.alloc (.cells #[v0, v1] t)).heap.size (w.alloc (.cells #[v0, v1] t)) w') (k : Nat) : w'.frozen? ⟨w.heap.size, k, none⟩ = false := by
  rw [h.frozen (p := ⟨w.heap.size, k, none⟩) (by simp)]
  exact frozen_of_row _ _ _ _ _ (heap_alloc_new w _)
theorem RdS.store {w : World} {B : Nat} {A : Option Addr} {xs : List ByteArray} (h : RdS w B A xs) (a : Addr) (u v : Value) (hv : w.cell? a = some v) (hne : ∀ s, v ≠ .string s) : RdS (w.setCell a u) B A xs := by
  rcases h with h | ⟨g, o, hA, hg, hc⟩
  · exact .inl h
  · refine .inr ⟨g, o, hA, hg, fun j hj => ?_⟩
    have hp : a ≠ ⟨g, o + j, none⟩ := by
      rintro rfl
      rw [hc j hj] at hv
      injection hv with hv
      exact hne _ hv.symm
    exact (World.cell?_setCell_other _ _ _ _ hp).trans (hc j hj)
theorem bs_takeN (xs : List ByteArray) (k : Nat) : bs (xs.take k) = (bs xs).take k := by simp [bs]
theorem bs_last {xs : List ByteArray} {n : Nat} (hn : xs.length = n + 1) : (bs xs).getLast? = some (xs[n]'(by omega)).data.toList := by
  have e : (bs xs)[(bs xs).length - 1]? = (bs xs)[n]? := by
    congr 1
    rw [bs_length]
    omega
  rw [List.getLast?_eq_getElem?, e, List.getElem?_eq_getElem (by rw [bs_length]; omega), bs_get xs n (by omega)]
theorem PatR.store2 {w : World} {A : Option Addr} {xs : List ByteArray} {c : Nat} {b : Bool} {p : Pt.Pat} (h : PatR w A xs c b p) (r : Nat) (u0 u1 v0 v1 : Value) (e0 : w.cell? ⟨r, 0, none⟩ = some v0) (e1 : w.cell? ⟨r, 1, none⟩ = some v1)
    (h0 : ∀ s, v0 ≠ .string s) (h1 : ∀ s, v1 ≠ .string s) : PatR ((w.setCell ⟨r, 0, none⟩ u0).setCell ⟨r, 1, none⟩ u1) A xs c b p := by
  refine ⟨?_, h.parts, h.rest, h.le, h.cm, h.nil, h.sz⟩
  have hr := (h.rd.store ⟨r, 0, none⟩ u0 v0 e0 h0).store ⟨r, 1, none⟩ u1 v1 ((World.cell?_setCell_other _ _ _ _ (by simp)).trans e1) h1
  exact hr.more (by simp [World.setCell])
end Go.Proofs.YthgcnlhlhipllaaGreatDoor
