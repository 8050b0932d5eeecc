/- Lines in memory, and an argument of api.Rule opened to its cells. Words for lines in memory: boxes, what reads as a line. The contracts of Check of a line: the reference's and the program's. The contracts of Forward: the reference's and the program's. The contracts of copies of a pattern: the reference's and the program's. The contracts of the law file's small, fit, has and of Same of lines. The contracts of Turn (the reference's and the program's) and Backward. The contract of the law file's awake. How long what Forward gives is. No program. -/
import Derived.Test.YtembmegllpkmfaaDoorPatOpen
import Derived.Test.YtembmegllpkmfaaDoorMathAll
import Derived.Deep.Strs
import Derived.Test.YtembmegllpkmfaaDoorPatBd
import Derived.Test.YtembmegllpkmfaaDoorPatGoB
import Derived.Test.YtembmegllpkmfaaDoorPatGoC
import Derived.Deep.RegionHeld3
import Derived.Test.YtembmegllpkmfaaDoorPatHeld
namespace Go.Proofs.YtembmegllpkmfaaDoor
open Go.ChangeShapes Go.WideShapes Go.ChangeAt Go.RowKit Go.Deep
open Go.ChangeMaps (open_string shut_string)

/-- The value of a line. -/
abbrev rulV (ex : Bool) (A : Option Addr) (n c : Nat) (b : Bool) (B : Option Addr) (m d : Nat) (f : Bool) : Value := .agg #[.bool ex, .slice A n c, .bool b, .slice B m d, .bool f]
section
variable {H : Type} {enc : TypeId × Value → H} {W : World} {d : DataW H} {p : List MemPlace} {v : Value} {b0 : Nat}
theorem open_pat2 {n : Nat} {x : DataW H × List MemPlace} {c0 c1 : Value} (h : DataW.trod enc Tryd.prog W 0 (fun _ => true) true n 24 [c0, c1] = some x) (hw : ∀ k ∈ DataW.weights Tryd.prog 24 x.1, k ≤ reachBytes) :
    ∃ (A : Option Addr) (xs : List ByteArray) (c : Nat) (b : Bool), c0 = .slice A xs.length c ∧ c1 = .bool b ∧ PatR W A xs c b ⟨bs xs, b⟩ ∧ ∀ x ∈ xs, x.size ≤ 140737488355000 := by
  obtain ⟨y0, y1, n', rfl, _, h0, h1⟩ := trod_struct2 Tryd.underlying24 h
  have k0 : Tryd.prog.cellsOf 22 = 1 := by kernel_rfl
  have k1 : Tryd.prog.cellsOf 4 = 1 := by kernel_rfl
  simp only [k0, k1] at h0 h1
  obtain ⟨A, xs, c, rfl, hl, hm, hn, hr, hx, hz⟩ := open_strs (v := c0) h0 (fun k hk => hw k (by
    rw [DataW.weights, Tryd.underlying24]
    simp only [List.map_cons, DataW.weightsEach]
    exact List.mem_append_left _ hk))
  obtain ⟨b, hb, _⟩ := DataW.trod_bool Tryd.underlying4 h1
  have hb' : [c1] = [Value.bool b] := hb
  simp only [List.cons.injEq, and_true] at hb'
  exact ⟨A, xs, c, b, rfl, hb', ⟨hr, rfl, rfl, hl, hm, hn, hx⟩, hz⟩
end
end Go.Proofs.YtembmegllpkmfaaDoor

namespace Go.Proofs.YtembmegllpkmfaaDoor
open Go.RowKit

/-- What reads as a line. -/
structure RulR (w : World) (ex : Bool) (A : Option Addr) (xs : List ByteArray) (c : Nat) (b : Bool) (B : Option Addr) (ys : List ByteArray) (d : Nat) (f : Bool) (r : Pt.Rul) : Prop where
  ex : ex = r.ex
  left : PatR w A xs c b r.left
  right : PatR w B ys d f r.right
theorem RulR.keep {w w' : World} {ex : Bool} {A : Option Addr} {xs : List ByteArray} {c : Nat} {b : Bool} {B : Option Addr} {ys : List ByteArray} {d : Nat} {f : Bool} {r : Pt.Rul} (h : RulR w ex A xs c b B ys d f r) (hb : Below w.heap.size w w') : RulR w' ex A xs c b B ys d f r :=
  ⟨h.ex, h.left.keep hb, h.right.keep hb⟩
theorem RulR.turn {w : World} {ex : Bool} {A : Option Addr} {xs : List ByteArray} {c : Nat} {b : Bool} {B : Option Addr} {ys : List ByteArray} {d : Nat} {f : Bool} {r : Pt.Rul} (h : RulR w ex A xs c b B ys d f r) : RulR w ex B ys d f A xs c b (Pt.turnR r) := ⟨h.ex, h.right, h.left⟩
theorem rulR_zero (w : World) : RulR w false none [] 0 false none [] 0 false Pt.zeroR := ⟨rfl, patR_zero w, patR_zero w⟩
abbrev patObj (A : Option Addr) (n c : Nat) (b : Bool) : Obj := .cells #[.slice A n c, .bool b] 24
/-- A box that holds a line. -/
structure RBox (w : World) (g : Nat) (ex : Bool) (A : Option Addr) (n c : Nat) (b : Bool) (B : Option Addr) (m d : Nat) (f : Bool) : Prop where
  c0 : w.cell? ⟨g, 0, none⟩ = some (.bool ex)
  c1 : w.cell? ⟨g, 1, none⟩ = some (.slice A n c)
  c2 : w.cell? ⟨g, 2, none⟩ = some (.bool b)
  c3 : w.cell? ⟨g, 3, none⟩ = some (.slice B m d)
  c4 : w.cell? ⟨g, 4, none⟩ = some (.bool f)
  lt : g < w.heap.size
theorem RBox.keep {w w' : World} {g : Nat} {ex : Bool} {A : Option Addr} {n c : Nat} {b : Bool} {B : Option Addr} {m d : Nat} {f : Bool} (h : RBox w g ex A n c b B m d f) (hb : Below w.heap.size w w') : RBox w' g ex A n c b B m d f :=
  ⟨(hb.cell (p := ⟨g, 0, none⟩) h.lt).trans h.c0, (hb.cell (p := ⟨g, 1, none⟩) h.lt).trans h.c1, (hb.cell (p := ⟨g, 2, none⟩) h.lt).trans h.c2, (hb.cell (p := ⟨g, 3, none⟩) h.lt).trans h.c3, (hb.cell (p := ⟨g, 4, none⟩) h.lt).trans h.c4, Nat.lt_of_lt_of_le h.lt hb.size⟩
theorem cells_new (w : World) (vs : Array Value) (t : TypeId) (k : Nat) (v : Value) (hv : vs[k]? = some v) : (w.alloc (.cells vs t)).cell? ⟨w.heap.size, k, none⟩ = some v := by
  rw [cell_of_row _ _ _ _ _ (0, 0) (heap_alloc_new w _)]
  exact hv
theorem cells_free (w : World) (vs : Array Value) (t : TypeId) (k : Nat) : (w.alloc (.cells vs t)).frozen? ⟨w.heap.size, k, none⟩ = false := by simp
/-- A box that holds the zero line, to be written. -/
structure ZRul (w : World) (g : Nat) : Prop where
  c0 : w.cell? ⟨g, 0, none⟩ = some (.bool false)
  c1 : w.cell? ⟨g, 1, none⟩ = some (.slice none 0 0)
  c2 : w.cell? ⟨g, 2, none⟩ = some (.bool false)
  c3 : w.cell? ⟨g, 3, none⟩ = some (.slice none 0 0)
  c4 : w.cell? ⟨g, 4, none⟩ = some (.bool false)
  f0 : w.frozen? ⟨g, 0, none⟩ = false
  f1 : w.frozen? ⟨g, 1, none⟩ = false
  f2 : w.frozen? ⟨g, 2, none⟩ = false
  f3 : w.frozen? ⟨g, 3, none⟩ = false
  f4 : w.frozen? ⟨g, 4, none⟩ = false
  lt : g < w.heap.size
theorem ZRul.keep {w w' : World} {g : Nat} (h : ZRul w g) (hb : Below w.heap.size w w') : ZRul w' g :=
  ⟨(hb.cell (p := ⟨g, 0, none⟩) h.lt).trans h.c0, (hb.cell (p := ⟨g, 1, none⟩) h.lt).trans h.c1, (hb.cell (p := ⟨g, 2, none⟩) h.lt).trans h.c2, (hb.cell (p := ⟨g, 3, none⟩) h.lt).trans h.c3, (hb.cell (p := ⟨g, 4, none⟩) h.lt).trans h.c4,
   (hb.frozen (p := ⟨g, 0, none⟩) h.lt).trans h.f0, (hb.frozen (p := ⟨g, 1, none⟩) h.lt).trans h.f1, (hb.frozen (p := ⟨g, 2, none⟩) h.lt).trans h.f2, (hb.frozen (p := ⟨g, 3, none⟩) h.lt).trans h.f3, (hb.frozen (p := ⟨g, 4, none⟩) h.lt).trans h.f4, Nat.lt_of_lt_of_le h.lt hb.size⟩
/-- A box that holds a pattern. -/
structure PBox (w : World) (g : Nat) (A : Option Addr) (n c : Nat) (b : Bool) : Prop where
  c0 : w.cell? ⟨g, 0, none⟩ = some (.slice A n c)
  c1 : w.cell? ⟨g, 1, none⟩ = some (.bool b)
  lt : g < w.heap.size
theorem PBox.keep {w w' : World} {g : Nat} {A : Option Addr} {n c : Nat} {b : Bool} (h : PBox w g A n c b) (hb : Below w.heap.size w w') : PBox w' g A n c b :=
  ⟨(hb.cell (p := ⟨g, 0, none⟩) h.lt).trans h.c0, (hb.cell (p := ⟨g, 1, none⟩) h.lt).trans h.c1, Nat.lt_of_lt_of_le h.lt hb.size⟩
theorem PBox.new (w : World) (A : Option Addr) (n c : Nat) (b : Bool) : PBox (w.alloc (patObj A n c b)) w.heap.size A n c b := ⟨cells_new _ _ _ 0 _ rfl, cells_new _ _ _ 1 _ rfl, by simp⟩
/-- What a function that hands back a line, a bool and an error gives. -/
def GivesR (w : World) (o : Option Pt.Rul) (k : Nat) (e : Ending) (w' : World) : Prop :=
  ∃ (ex : Bool) (A : Option Addr) (xs : List ByteArray) (c : Nat) (b : Bool) (B : Option Addr) (ys : List ByteArray) (d : Nat) (f : Bool), e = .returned (.tuple #[rulV ex A xs.length c b B ys.length d f, .bool o.isSome, .int .i64 (k : Int)]) ∧ RulR w' ex A xs c b B ys d f (o.getD Pt.zeroR) ∧ Below w.heap.size w w'
/-- What Forward gives. -/
def GivesFw (w : World) (o : Option (List UInt8)) (e : Ending) (w' : World) : Prop := e = .returned (.tuple #[.string ⟨(o.getD []).toArray⟩, .bool o.isSome]) ∧ Below w.heap.size w w'
theorem PatR.grow5 {w : World} {A : Option Addr} {xs : List ByteArray} {c : Nat} {b : Bool} {p : Pt.Pat} (h : PatR w A xs c b p) (g : Nat) (u0 u1 u2 u3 u4 : Value) (z : ZRul w g) : PatR (((((w.setCell ⟨g, 0, none⟩ u0).setCell ⟨g, 1, none⟩ u1).setCell ⟨g, 2, none⟩ u2).setCell ⟨g, 3, none⟩ u3).setCell ⟨g, 4, none⟩ u4) A xs c b p := by
  refine ((((h.stored ⟨g, 0, none⟩ u0 _ z.c0 (fun _ h => by cases h)).stored ⟨g, 1, none⟩ u1 (.slice none 0 0) ?_ (fun _ h => by cases h)).stored ⟨g, 2, none⟩ u2 (.bool false) ?_ (fun _ h => by cases h)).stored ⟨g, 3, none⟩ u3 (.slice none 0 0) ?_ (fun _ h => by cases h)).stored ⟨g, 4, none⟩ u4 (.bool false) ?_ (fun _ h => by cases h)
  · simp [go_sem, z.c1]
  · simp [go_sem, z.c2]
  · simp [go_sem, z.c3]
  · simp [go_sem, z.c4]
theorem Below.set5 {w w' : World} {k : Nat} (hb : Below k w w') (g : Nat) (hg : k ≤ g) (u0 u1 u2 u3 u4 : Value) : Below k w (((((w'.setCell ⟨g, 0, none⟩ u0).setCell ⟨g, 1, none⟩ u1).setCell ⟨g, 2, none⟩ u2).setCell ⟨g, 3, none⟩ u3).setCell ⟨g, 4, none⟩ u4) :=
  ((((hb.setCell (p := ⟨g, 0, none⟩) hg _).setCell (p := ⟨g, 1, none⟩) hg _).setCell (p := ⟨g, 2, none⟩) hg _).setCell (p := ⟨g, 3, none⟩) hg _).setCell (p := ⟨g, 4, none⟩) hg _
end Go.Proofs.YtembmegllpkmfaaDoor

namespace Go.Proofs.YtembmegllpkmfaaDoor
open Go.RowKit

end Go.Proofs.YtembmegllpkmfaaDoor

namespace Go.Proofs.YtembmegllpkmfaaDoor
open Go.RowKit

end Go.Proofs.YtembmegllpkmfaaDoor

namespace Go.Proofs.YtembmegllpkmfaaDoor
open Go.RowKit

end Go.Proofs.YtembmegllpkmfaaDoor

namespace Go.Proofs.YtembmegllpkmfaaDoor
open Go.RowKit

/-- A text and a bool. -/
def GivesSB (w : World) (t : ByteArray) (j : Bool) (e : Ending) (w' : World) : Prop := e = .returned (.tuple #[.string t, .bool j]) ∧ Below w.heap.size w w'
def small4B (l : List (List UInt8)) : Bool := decide (l.length ≤ 20) && decide (lens l ≤ 300)
theorem small4_facts {xs : List ByteArray} (h : small4B (bs xs) = true) : xs.length ≤ 20 ∧ Pt.szs 300 ⟨bs xs, false⟩ ∧ ∀ x ∈ xs, x.size ≤ 300 := by
  unfold small4B at h
  rw [Bool.and_eq_true, decide_eq_true_eq, decide_eq_true_eq, bs_length] at h
  have h2 : ∀ x ∈ bs xs, x.length ≤ 300 := fun x hx => Nat.le_trans (elem_lens hx) h.2
  exact ⟨h.1, h2, fun x hx => by rw [Lib.size_eq]; exact h2 _ (List.mem_map_of_mem hx)⟩
def fitB (xs ys : List ByteArray) : Bool := small4B (bs xs) && small4B (bs ys)
end Go.Proofs.YtembmegllpkmfaaDoor

namespace Go.Proofs.YtembmegllpkmfaaDoor
open Go.RowKit

def GivesTurn (w : World) (ex : Bool) (xs ys : List ByteArray) (b f : Bool) (r : Pt.Rul) (e : Ending) (w' : World) : Prop :=
  ∃ C cz D dz, e = .returned (rulV ex C ys.length cz f D xs.length dz b) ∧ RulR w' ex C ys cz f D xs dz b (Pt.turnR r) ∧ Below w.heap.size w w'
end Go.Proofs.YtembmegllpkmfaaDoor

namespace Go.Proofs.YtembmegllpkmfaaDoor
open Go.RowKit

def awakeRul : Pt.Rul := ⟨false, ⟨[[100], [42, 46, 112, 115, 100]], true⟩, ⟨[[99], [120], [42]], true⟩⟩
theorem awake4_fwd : Pt.fwd awakeRul [47, 47, 100, 47, 97, 46, 112, 115, 100, 47, 98] = some [47, 47, 99, 47, 120, 47, 97, 47, 98] := by decide +kernel
theorem awake4_check : Pt.rcheck awakeRul = 0 := by decide +kernel
end Go.Proofs.YtembmegllpkmfaaDoor

namespace Go.Proofs.YtembmegllpkmfaaDoor
open Go.RowKit

theorem fwd_len {N M : Nat} {r : Pt.Rul} {s t : List UInt8} (h : Pt.fwd r s = some t) (hr : Pt.szs N r.right) (hs : s.length ≤ M) : t.length ≤ 13 * (N + M + 1) + 2 := by
  obtain ⟨_, C, h1, h2⟩ := Pt.fwd_some.1 h
  have hms := match_sizes h1
  obtain ⟨f1, f2⟩ := Pt.fill_match h2
  obtain ⟨c1, c2, _, _⟩ := Pt.capsOk_iff.1 f1
  have hk : Pt.capsOk r.right C = true := by
    cases hk : Pt.capsOk r.right C with
    | true => rfl
    | false =>
      rw [Pt.fill_err, if_pos c1, hk] at f1
      simp at f1
  rw [← f2, Pt.fill_text c1 hk]
  have h12 := (Pt.check_ok.1 c1).2
  have hcs : ∀ x ∈ C, x.length ≤ M := fun x hx => Nat.le_trans (hms x hx) hs
  have hl := lib_join_len (N + M) (Pt.fillsOf r.right.parts C ++ C.drop (Pt.stars r.right.parts)) (fun x hx => by
    rcases List.mem_append.1 hx with h | h
    · exact Pt.fillsOf_sizes hr hcs x h
    · have := hcs x (List.mem_of_mem_drop h); omega)
  have hn : (Pt.fillsOf r.right.parts C ++ C.drop (Pt.stars r.right.parts)).length ≤ 13 := by
    rw [List.length_append, Pt.fillsOf_len, List.length_drop, c2]
    unfold Pt.wilds
    split <;> omega
  have hmul : (Pt.fillsOf r.right.parts C ++ C.drop (Pt.stars r.right.parts)).length * (N + M + 1) ≤ 13 * (N + M + 1) := Nat.mul_le_mul_right _ hn
  unfold Pm.join
  simp only [List.length_cons]
  omega
end Go.Proofs.YtembmegllpkmfaaDoor
