/- Words for slices of strings in memory; the contracts of strings.Join, the reference's Join, path.Join, same. -/
import Derived.Test.YtihboibebhokbaaDoorPathLaw
import Derived.WalkSpells
namespace Go.Proofs.YtihboibebhokbaaDoor
open Go.RowKit

/-- The bytes of strings. -/
def bs (xs : List ByteArray) : List (List UInt8) := xs.map fun x => x.data.toList
theorem bs_length (xs : List ByteArray) : (bs xs).length = xs.length := by simp [bs]
theorem bs_get (xs : List ByteArray) (k : Nat) (h : k < xs.length) : (bs xs)[k]'(by rw [bs_length]; exact h) = xs[k].data.toList := by simp [bs]
theorem bs_inj {xs ys : List ByteArray} (h : bs xs = bs ys) : xs = ys := by
  apply List.ext_getElem
  · rw [← bs_length xs, h, bs_length]
  · intro i h1 h2
    apply ba_ext
    rw [← bs_get xs i h1, ← bs_get ys i h2]
    simp only [h]

/-- The cells from the address on are these strings, in a block ahead of block B. -/
def RdS (w : World) (B : Nat) (A : Option Addr) (xs : List ByteArray) : Prop :=
  xs = [] ∨ ∃ g o, A = some ⟨g, o, none⟩ ∧ g < B ∧ ∀ j (h : j < xs.length), w.cell? ⟨g, o + j, none⟩ = some (.string xs[j])
theorem RdS.keep {w w' : World} {B : Nat} {A : Option Addr} {xs : List ByteArray} (h : RdS w B A xs) (hb : Below B w w') : RdS w' B A xs := by
  rcases h with h | ⟨g, o, hA, hg, hc⟩
  · exact .inl h
  · exact .inr ⟨g, o, hA, hg, fun j hj => (hb.cell (p := ⟨g, o + j, none⟩) hg).trans (hc j hj)⟩
theorem RdS.more {w : World} {B B' : Nat} {A : Option Addr} {xs : List ByteArray} (h : RdS w B A xs) (hB : B ≤ B') : RdS w B' A xs := by
  rcases h with h | ⟨g, o, hA, hg, hc⟩
  · exact .inl h
  · exact .inr ⟨g, o, hA, by omega, hc⟩
theorem RdS.take {w : World} {B : Nat} {A : Option Addr} {xs : List ByteArray} (h : RdS w B A xs) (k : Nat) : RdS w B A (xs.take k) := by
  rcases h with rfl | ⟨g, o, hA, hg, hc⟩
  · left; simp
  · refine .inr ⟨g, o, hA, hg, fun j hj => ?_⟩
    simp only [List.length_take] at hj
    rw [List.getElem_take]
    exact hc j (by omega)
theorem RdS.cells {w : World} {B : Nat} {A : Option Addr} {xs : List ByteArray} (h : RdS w B A xs) (hl : 0 < xs.length) : ∃ g o, A = some ⟨g, o, none⟩ ∧ g < B ∧ ∀ j (h : j < xs.length), w.cell? ⟨g, o + j, none⟩ = some (.string xs[j]) := by
  rcases h with rfl | h
  · simp at hl
  · exact h

/-- A string, and new memory at most. -/
def GivesS (w : World) (l : List UInt8) (e : Ending) (w' : World) : Prop := e = .returned (.string ⟨l.toArray⟩) ∧ Below w.heap.size w w'
def GivesS2 (w : World) (l : List UInt8) (n : Nat) (e : Ending) (w' : World) : Prop := e = .returned (.tuple #[.string ⟨l.toArray⟩, .int .i64 (n : Int)]) ∧ Below w.heap.size w w'

theorem sjoin_any (A : Option Addr) (xs : List ByteArray) (c : Nat) (sep : ByteArray) (w : World) (hr : RdS w w.heap.size A xs) (hc : xs.length ≤ c) (hsep : sep.data.toList = [47])
    (hlen : (Lib.join (bs xs) [47]).length ≤ 140737488355328) (hN : xs.length ≤ 140737488355328) :
    Calls Tryd.prog 67 #[.slice A xs.length c, .string sep] w (GivesS w (Lib.join (bs xs) [47])) := by
  rcases hr with rfl | ⟨g, o, rfl, hg, hcell⟩
  · refine (Tryd.strings_Join_none A c sep w).mono ?_
    rintro e w' ⟨rfl, rfl⟩
    exact ⟨rfl, Below.refl _ _⟩
  · refine (Tryd.strings_Join g o c xs sep w ?_ hg hN hc (by rw [hsep]; exact hlen)).mono ?_
    · intro j x hx
      obtain ⟨hj, rfl⟩ := List.getElem?_eq_some_iff.1 hx
      exact hcell j hj
    · rintro e w' ⟨rfl, hb⟩
      rw [hsep]
      exact ⟨rfl, hb⟩

theorem slash2 (l : List UInt8) : (ByteArray.mk #[47, 47]) ++ (ByteArray.mk l.toArray) = ⟨(47 :: 47 :: l).toArray⟩ := by
  apply ba_ext
  simp [ByteArray.data_append]
theorem ret_str {a b : ByteArray} (h : a = b) : Ending.returned (.string a) = .returned (.string b) := by rw [h]
theorem ret_str2 {a b : ByteArray} {x y : Int} (h : a = b) (h2 : x = y) : Ending.returned (.tuple #[.string a, .int .i64 x]) = .returned (.tuple #[.string b, .int .i64 y]) := by rw [h, h2]

theorem rjoin_any (A : Option Addr) (xs : List ByteArray) (c : Nat) (w : World) (hr : RdS w w.heap.size A xs) (hc : xs.length ≤ c) (hlen : (Lib.join (bs xs) [47]).length ≤ 140737488355000) (hN : xs.length ≤ 140737488355328) :
    Calls Tryd.prog 77 #[.slice A xs.length c] w (GivesS w (Pm.join (bs xs))) := by
  have HJ := Lib.hid (sjoin_any A xs c ⟨#[47]⟩ w hr hc rfl (by omega) hN)
  have hj : Pm.join (bs xs) = 47 :: 47 :: Lib.join (bs xs) [47] := rfl
  rw [hj]
  clear hj hr hc
  generalize Lib.join (bs xs) [47] = l at HJ hlen
  generalize xs.length = n at HJ hN
  go_enter Tryd.func77, Tryd.ntmps77
  go_wp2_with fail
  with_reducible refine HJ.out.mono ?_
  rintro e w1 ⟨rfl, hb⟩
  go_wp2
  go_ret
  exact ⟨ret_str (slash2 l), hb⟩

def joinOk (l : List (List UInt8)) : Bool := decide (2 ≤ l.length) && l.all Pm.comp
/-- .. and path.Join: no path. -/
def NoPath (w : World) (n : Nat) (e : Ending) (w' : World) : Prop := e = .returned (.tuple #[.string ⟨#[]⟩, .int .i64 (n : Int)]) ∧ w = w'
theorem bs_drop {xs : List ByteArray} {k : Nat} (h : k < xs.length) : ((bs xs).drop k).all Pm.comp = (Pm.comp xs[k].data.toList && ((bs xs).drop (k + 1)).all Pm.comp) := by
  rw [List.drop_eq_getElem_cons (by rw [bs_length]; exact h), List.all_cons, bs_get xs k h]

/-- What path.Join hands back. -/
def JoinRes (w : World) (ok : Bool) (l : List UInt8) (e : Ending) (w' : World) : Prop :=
  e = .returned (.tuple #[.string (if ok then ⟨l.toArray⟩ else ⟨#[]⟩), .int .i64 ((if ok then 0 else 21 : Nat) : Int)]) ∧ Below w.heap.size w w'

theorem take_eq_succ {xs ys : List ByteArray} {k : Nat} (h1 : k < xs.length) (h2 : k < ys.length) (h : xs.take k = ys.take k) : xs.take (k + 1) = ys.take (k + 1) ↔ xs[k] = ys[k] := by
  rw [List.take_succ_eq_append_getElem h1, List.take_succ_eq_append_getElem h2, h]
  simp only [List.append_cancel_left_eq, List.cons.injEq, and_true]

end Go.Proofs.YtihboibebhokbaaDoor
