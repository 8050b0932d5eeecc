/- Lines in memory, and an argument of api.Rule opened to its cells. Words for lines in memory: boxes, what reads as a line. The contracts of Check of a line: the reference's and the program's. The contracts of Forward: the reference's and the program's. The contracts of copies of a pattern: the reference's and the program's. The contracts of the law file's small, fit, has and of Same of lines. The contracts of Turn (the reference's and the program's) and Backward. The contract of the law file's awake. How long what Forward gives is. No program. -/
import Derived.Test.YtembmegllpkmfaaGreatDoorPatOpen
import Derived.Test.YtembmegllpkmfaaGreatDoorMathAll
import Derived.Deep.Strs
import Derived.Test.YtembmegllpkmfaaGreatDoorPatBd
import Derived.Test.YtembmegllpkmfaaGreatDoorPatGoB
import Derived.Test.YtembmegllpkmfaaGreatDoorPatGoC
import Derived.Deep.RegionHeld3
import Derived.Test.YtembmegllpkmfaaGreatDoorPatHeld
namespace Go.Proofs.YtembmegllpkmfaaGreatDoor
open Go.ChangeShapes Go.WideShapes Go.ChangeAt Go.RowKit Go.Deep
open Go.ChangeMaps (open_string shut_string)

/-- The value of a line. -/
abbrev rulV (ex : Bool) (A : Option Addr) (n c : Nat) (b : Bool) (B : Option Addr) (m d : Nat) (f : Bool) : Value := .agg #[.bool ex, .slice A n c, .bool b, .slice B m d, .bool f]
section
variable {H : Type} {enc : TypeId × Value → H} {W : World} {d : DataW H} {p : List MemPlace} {v : Value} {b0 : Nat}
theorem open_pat2 {n : Nat} {x : DataW H × List MemPlace} {c0 c1 : Value} (h : DataW.trod enc Tryz.prog W 0 (fun _ => true) true n 24 [c0, c1] = some x) (hw : ∀ k ∈ DataW.weights Tryz.prog 24 x.1, k ≤ reachBytes) :
    ∃ (A : Option Addr) (xs : List ByteArray) (c : Nat) (b : Bool), c0 = .slice A xs.length c ∧ c1 = .bool b ∧ PatR W A xs c b ⟨bs xs, b⟩ ∧ ∀ x ∈ xs, x.size ≤ 140737488355000 := by
  obtain ⟨y0, y1, n', rfl, _, h0, h1⟩ := trod_struct2 Tryz.underlying24 h
  have k0 : Tryz.prog.cellsOf 22 = 1 := by kernel_rfl
  have k1 : Tryz.prog.cellsOf 4 = 1 := by kernel_rfl
  simp only [k0, k1] at h0 h1
  obtain ⟨A, xs, c, rfl, hl, hm, hn, hr, hx, hz⟩ := open_strs (v := c0) h0 (fun k hk => hw k (by
    rw [DataW.weights, Tryz.underlying24]
    simp only [List.map_cons, DataW.weightsEach]
    exact List.mem_append_left _ hk))
  obtain ⟨b, hb, _⟩ := DataW.trod_bool Tryz.underlying4 h1
  have hb' : [c1] = [Value.bool b] := hb
  simp only [List.cons.injEq, and_true] at hb'
  exact ⟨A, xs, c, b, rfl, hb', ⟨hr, rfl, rfl, hl, hm, hn, hx⟩, hz⟩
set_option maxRecDepth 1000000 in
theorem open_rul (hv : Value.okWide Tryz.prog W .any b0 75 v) (h : DataW.Trod enc Tryz.prog W 0 (fun _ => true) true 75 v d p) (hw : ∀ k ∈ DataW.weights Tryz.prog 75 d, k ≤ reachBytes) :
    ∃ (ex : Bool) (A : Option Addr) (xs : List ByteArray) (c : Nat) (b : Bool) (B : Option Addr) (ys : List ByteArray) (e : Nat) (f : Bool), v = rulV ex A xs.length c b B ys.length e f ∧ PatR W A xs c b ⟨bs xs, b⟩ ∧ PatR W B ys e f ⟨bs ys, f⟩ ∧ (∀ x ∈ xs, x.size ≤ 140737488355000) ∧ ∀ x ∈ ys, x.size ≤ 140737488355000 := by
  have hC : Tryz.prog.cellsOf 75 = 5 := by kernel_rfl
  have k0 : Tryz.prog.cellsOf 24 = 2 := by kernel_rfl
  have k1 : Tryz.prog.cellsOf 4 = 1 := by kernel_rfl
  obtain ⟨cs, rfl, hsz⟩ := okWide_struct Tryz.underlying75 hv
  obtain ⟨l⟩ := cs
  match l, hsz.trans hC with
  | [c0, c1, c2, c3, c4], _ =>
    obtain ⟨fuel, hf⟩ := h
    obtain ⟨y0, y1, y2, n, hdp, _, h0, h1, h2⟩ := trod_struct3 Tryz.underlying75 hf
    simp only [Prod.mk.injEq] at hdp
    obtain ⟨rfl, rfl⟩ := hdp
    simp only [k0, k1] at h0 h1 h2
    obtain ⟨ex, hb, _⟩ := DataW.trod_bool Tryz.underlying4 h0
    have hb' : [c0] = [Value.bool ex] := hb
    simp only [List.cons.injEq, and_true] at hb'
    obtain ⟨A, xs, c, b, e1, e2, hp, hz⟩ := open_pat2 (c0 := c1) (c1 := c2) h1 (fun k hk => hw k (by
      rw [DataW.weights, Tryz.underlying75]
      simp only [List.map_cons, DataW.weightsEach]
      exact List.mem_append_right _ (List.mem_append_left _ hk)))
    obtain ⟨B, ys, e, f, e3, e4, hq, hy⟩ := open_pat2 (c0 := c3) (c1 := c4) h2 (fun k hk => hw k (by
      rw [DataW.weights, Tryz.underlying75]
      simp only [List.map_cons, DataW.weightsEach]
      exact List.mem_append_right _ (List.mem_append_right _ (List.mem_append_left _ hk))))
    subst hb' e1 e2 e3 e4
    exact ⟨ex, A, xs, c, b, B, ys, e, f, rfl, hp, hq, hz, hy⟩
end
end Go.Proofs.YtembmegllpkmfaaGreatDoor

namespace Go.Proofs.YtembmegllpkmfaaGreatDoor
open Go.RowKit

/-- What reads as a line. -/
structure RulR (w : World) (ex : Bool) (A : Option Addr) (xs : List ByteArray) (c : Nat) (b : Bool) (B : Option Addr) (ys : List ByteArray) (d : Nat) (f : Bool) (r : Pt.Rul) : Prop where
  ex : ex = r.ex
  left : PatR w A xs c b r.left
  right : PatR w B ys d f r.right
theorem RulR.keep {w w' : World} {ex : Bool} {A : Option Addr} {xs : List ByteArray} {c : Nat} {b : Bool} {B : Option Addr} {ys : List ByteArray} {d : Nat} {f : Bool} {r : Pt.Rul} (h : RulR w ex A xs c b B ys d f r) (hb : Below w.heap.size w w') : RulR w' ex A xs c b B ys d f r :=
  ⟨h.ex, h.left.keep hb, h.right.keep hb⟩
theorem RulR.turn {w : World} {ex : Bool} {A : Option Addr} {xs : List ByteArray} {c : Nat} {b : Bool} {B : Option Addr} {ys : List ByteArray} {d : Nat} {f : Bool} {r : Pt.Rul} (h : RulR w ex A xs c b B ys d f r) : RulR w ex B ys d f A xs c b (Pt.turnR r) := ⟨h.ex, h.right, h.left⟩
theorem rulR_zero (w : World) : RulR w false none [] 0 false none [] 0 false Pt.zeroR := ⟨rfl, patR_zero w, patR_zero w⟩
abbrev rulObj (ex : Bool) (A : Option Addr) (n c : Nat) (b : Bool) (B : Option Addr) (m d : Nat) (f : Bool) : Obj := .cells #[.bool ex, .slice A n c, .bool b, .slice B m d, .bool f] 75
abbrev zeroRul : Obj := .cells #[.bool false, .slice none 0 0, .bool false, .slice none 0 0, .bool false] 75
abbrev patObj (A : Option Addr) (n c : Nat) (b : Bool) : Obj := .cells #[.slice A n c, .bool b] 24
/-- A box that holds a line. -/
structure RBox (w : World) (g : Nat) (ex : Bool) (A : Option Addr) (n c : Nat) (b : Bool) (B : Option Addr) (m d : Nat) (f : Bool) : Prop where
  c0 : w.cell? ⟨g, 0, none⟩ = some (.bool ex)
  c1 : w.cell? ⟨g, 1, none⟩ = some (.slice A n c)
  c2 : w.cell? ⟨g, 2, none⟩ = some (.bool b)
  c3 : w.cell? ⟨g, 3, none⟩ = some (.slice B m d)
  c4 : w.cell? ⟨g, 4, none⟩ = some (.bool f)
  lt : g < w.heap.size
theorem RBox.keep {w w' : World} {g : Nat} {ex : Bool} {A : Option Addr} {n c : Nat} {b : Bool} {B : Option Addr} {m d : Nat} {f : Bool} (h : RBox w g ex A n c b B m d f) (hb : Below w.heap.size w w') : RBox w' g ex A n c b B m d f :=
  ⟨(hb.cell (p := ⟨g, 0, none⟩) h.lt).trans h.c0, (hb.cell (p := ⟨g, 1, none⟩) h.lt).trans h.c1, (hb.cell (p := ⟨g, 2, none⟩) h.lt).trans h.c2, (hb.cell (p := ⟨g, 3, none⟩) h.lt).trans h.c3, (hb.cell (p := ⟨g, 4, none⟩) h.lt).trans h.c4, Nat.lt_of_lt_of_le h.lt hb.size⟩
theorem cells_new (w : World) (vs : Array Value) (t : TypeId) (k : Nat) (v : Value) (hv : vs[k]? = some v) : (w.alloc (.cells vs t)).cell? ⟨w.heap.size, k, none⟩ = some v := by
  rw [cell_of_row _ _ _ _ _ (0, 0) (heap_alloc_new w _)]
  exact hv
theorem cells_free (w : World) (vs : Array Value) (t : TypeId) (k : Nat) : (w.alloc (.cells vs t)).frozen? ⟨w.heap.size, k, none⟩ = false := by simp
theorem RBox.new (w : World) (ex : Bool) (A : Option Addr) (n c : Nat) (b : Bool) (B : Option Addr) (m d : Nat) (f : Bool) : RBox (w.alloc (rulObj ex A n c b B m d f)) w.heap.size ex A n c b B m d f :=
  ⟨cells_new _ _ _ 0 _ rfl, cells_new _ _ _ 1 _ rfl, cells_new _ _ _ 2 _ rfl, cells_new _ _ _ 3 _ rfl, cells_new _ _ _ 4 _ rfl, by simp⟩
/-- A box that holds the zero line, to be written. -/
structure ZRul (w : World) (g : Nat) : Prop where
  c0 : w.cell? ⟨g, 0, none⟩ = some (.bool false)
  c1 : w.cell? ⟨g, 1, none⟩ = some (.slice none 0 0)
  c2 : w.cell? ⟨g, 2, none⟩ = some (.bool false)
  c3 : w.cell? ⟨g, 3, none⟩ = some (.slice none 0 0)
  c4 : w.cell? ⟨g, 4, none⟩ = some (.bool false)
  f0 : w.frozen? ⟨g, 0, none⟩ = false
  f1 : w.frozen? ⟨g, 1, none⟩ = false
  f2 : w.frozen? ⟨g, 2, none⟩ = false
  f3 : w.frozen? ⟨g, 3, none⟩ = false
  f4 : w.frozen? ⟨g, 4, none⟩ = false
  lt : g < w.heap.size
theorem ZRul.keep {w w' : World} {g : Nat} (h : ZRul w g) (hb : Below w.heap.size w w') : ZRul w' g :=
  ⟨(hb.cell (p := ⟨g, 0, none⟩) h.lt).trans h.c0, (hb.cell (p := ⟨g, 1, none⟩) h.lt).trans h.c1, (hb.cell (p := ⟨g, 2, none⟩) h.lt).trans h.c2, (hb.cell (p := ⟨g, 3, none⟩) h.lt).trans h.c3, (hb.cell (p := ⟨g, 4, none⟩) h.lt).trans h.c4,
   (hb.frozen (p := ⟨g, 0, none⟩) h.lt).trans h.f0, (hb.frozen (p := ⟨g, 1, none⟩) h.lt).trans h.f1, (hb.frozen (p := ⟨g, 2, none⟩) h.lt).trans h.f2, (hb.frozen (p := ⟨g, 3, none⟩) h.lt).trans h.f3, (hb.frozen (p := ⟨g, 4, none⟩) h.lt).trans h.f4, Nat.lt_of_lt_of_le h.lt hb.size⟩
theorem ZRul.new (w : World) : ZRul (w.alloc zeroRul) w.heap.size :=
  ⟨cells_new _ _ _ 0 _ rfl, cells_new _ _ _ 1 _ rfl, cells_new _ _ _ 2 _ rfl, cells_new _ _ _ 3 _ rfl, cells_new _ _ _ 4 _ rfl, cells_free _ _ _ 0, cells_free _ _ _ 1, cells_free _ _ _ 2, cells_free _ _ _ 3, cells_free _ _ _ 4, by simp⟩
/-- A box that holds a pattern. -/
structure PBox (w : World) (g : Nat) (A : Option Addr) (n c : Nat) (b : Bool) : Prop where
  c0 : w.cell? ⟨g, 0, none⟩ = some (.slice A n c)
  c1 : w.cell? ⟨g, 1, none⟩ = some (.bool b)
  lt : g < w.heap.size
theorem PBox.keep {w w' : World} {g : Nat} {A : Option Addr} {n c : Nat} {b : Bool} (h : PBox w g A n c b) (hb : Below w.heap.size w w') : PBox w' g A n c b :=
  ⟨(hb.cell (p := ⟨g, 0, none⟩) h.lt).trans h.c0, (hb.cell (p := ⟨g, 1, none⟩) h.lt).trans h.c1, Nat.lt_of_lt_of_le h.lt hb.size⟩
theorem PBox.new (w : World) (A : Option Addr) (n c : Nat) (b : Bool) : PBox (w.alloc (patObj A n c b)) w.heap.size A n c b := ⟨cells_new _ _ _ 0 _ rfl, cells_new _ _ _ 1 _ rfl, by simp⟩
/-- What a function that hands back a line, a bool and an error gives. -/
def GivesR (w : World) (o : Option Pt.Rul) (k : Nat) (e : Ending) (w' : World) : Prop :=
  ∃ (ex : Bool) (A : Option Addr) (xs : List ByteArray) (c : Nat) (b : Bool) (B : Option Addr) (ys : List ByteArray) (d : Nat) (f : Bool), e = .returned (.tuple #[rulV ex A xs.length c b B ys.length d f, .bool o.isSome, .int .i64 (k : Int)]) ∧ RulR w' ex A xs c b B ys d f (o.getD Pt.zeroR) ∧ Below w.heap.size w w'
/-- What Forward gives. -/
def GivesFw (w : World) (o : Option (List UInt8)) (e : Ending) (w' : World) : Prop := e = .returned (.tuple #[.string ⟨(o.getD []).toArray⟩, .bool o.isSome]) ∧ Below w.heap.size w w'
theorem PatR.grow5 {w : World} {A : Option Addr} {xs : List ByteArray} {c : Nat} {b : Bool} {p : Pt.Pat} (h : PatR w A xs c b p) (g : Nat) (u0 u1 u2 u3 u4 : Value) (z : ZRul w g) : PatR (((((w.setCell ⟨g, 0, none⟩ u0).setCell ⟨g, 1, none⟩ u1).setCell ⟨g, 2, none⟩ u2).setCell ⟨g, 3, none⟩ u3).setCell ⟨g, 4, none⟩ u4) A xs c b p := by
  refine ((((h.stored ⟨g, 0, none⟩ u0 _ z.c0 (fun _ h => by cases h)).stored ⟨g, 1, none⟩ u1 (.slice none 0 0) ?_ (fun _ h => by cases h)).stored ⟨g, 2, none⟩ u2 (.bool false) ?_ (fun _ h => by cases h)).stored ⟨g, 3, none⟩ u3 (.slice none 0 0) ?_ (fun _ h => by cases h)).stored ⟨g, 4, none⟩ u4 (.bool false) ?_ (fun _ h => by cases h)
  · simp [go_sem, z.c1]
  · simp [go_sem, z.c2]
  · simp [go_sem, z.c3]
  · simp [go_sem, z.c4]
theorem Below.set5 {w w' : World} {k : Nat} (hb : Below k w w') (g : Nat) (hg : k ≤ g) (u0 u1 u2 u3 u4 : Value) : Below k w (((((w'.setCell ⟨g, 0, none⟩ u0).setCell ⟨g, 1, none⟩ u1).setCell ⟨g, 2, none⟩ u2).setCell ⟨g, 3, none⟩ u3).setCell ⟨g, 4, none⟩ u4) :=
  ((((hb.setCell (p := ⟨g, 0, none⟩) hg _).setCell (p := ⟨g, 1, none⟩) hg _).setCell (p := ⟨g, 2, none⟩) hg _).setCell (p := ⟨g, 3, none⟩) hg _).setCell (p := ⟨g, 4, none⟩) hg _
end Go.Proofs.YtembmegllpkmfaaGreatDoor

namespace Go.Proofs.YtembmegllpkmfaaGreatDoor
open Go.RowKit

set_option maxHeartbeats 4000000 in
theorem qcheck_any (ex : Bool) (A : Option Addr) (xs : List ByteArray) (c : Nat) (b : Bool) (B : Option Addr) (ys : List ByteArray) (d : Nat) (f : Bool) (r : Pt.Rul) (w : World) (hr : RulR w ex A xs c b B ys d f r) :
    Calls Tryz.prog 99 #[rulV ex A xs.length c b B ys.length d f] w (GivesN w (Pt.rcheck r)) := by
  have hv : Pt.rcheck r = if Pt.check r.left = 0 then (if Pt.check r.right = 0 then (if Pt.stars r.left.parts = Pt.stars r.right.parts ∧ r.left.rest = r.right.rest then 0 else 42) else 41) else 40 := rfl
  generalize Pt.rcheck r = v at hv ⊢
  obtain ⟨W0, hW0⟩ : ∃ W0, W0 = (w.alloc (.cells #[.bool ex, .slice A xs.length c, .bool b, .slice B ys.length d, .bool f] 75)) := ⟨_, rfl⟩
  have hal : Below w.heap.size w W0 := by rw [hW0]; exact (Below.refl _ _).alloc (Nat.le_refl _) _
  have HX0 := Lib.hid (Below.refl W0.heap.size W0)
  have HAL := Lib.hid hal
  have hbx : RBox W0 w.heap.size ex A xs.length c b B ys.length d f := by rw [hW0]; exact RBox.new ..
  have HB := Lib.hid (fun (w' : World) (hb : Below W0.heap.size W0 w') => hbx.keep hb)
  have HCL := Lib.hid (fun (w' : World) (hb : Below W0.heap.size W0 w') => rcheck_any A xs c b r.left w' (hr.left.keep (hal.trans (hb.mono hal.size))))
  have HCR := Lib.hid (fun (w' : World) (hb : Below W0.heap.size W0 w') => rcheck_any B ys d f r.right w' (hr.right.keep (hal.trans (hb.mono hal.size))))
  have HKL := Lib.hid (fun (w' : World) (hb : Below W0.heap.size W0 w') => rkinds_any A xs c b r.left w' (hr.left.keep (hal.trans (hb.mono hal.size))))
  have HKR := Lib.hid (fun (w' : World) (hb : Below W0.heap.size W0 w') => rkinds_any B ys d f r.right w' (hr.right.keep (hal.trans (hb.mono hal.size))))
  generalize Pt.check r.left = k1 at hv HCL
  generalize Pt.check r.right = k2 at hv HCR
  generalize Pt.stars r.left.parts = n1 at hv HKL
  generalize Pt.stars r.right.parts = n2 at hv HKR
  generalize r.left.rest = r1 at hv HKL
  generalize r.right.rest = r2 at hv HKR
  generalize xs.length = n at *
  generalize ys.length = m at *
  clear hr hbx
  by_cases h1 : k1 = 0
  · subst h1
    rw [if_pos rfl] at hv
    by_cases h2 : k2 = 0
    · subst h2
      rw [if_pos rfl] at hv
      by_cases h3 : n1 = n2
      · subst h3
        have t3 : ((n1 : Int) == (n1 : Int)) = true := by simp
        have t4 : ((n1 : Int) != (n1 : Int)) = false := by simp
        cases r1 <;> cases r2
        all_goals
          simp only [true_and, if_true, Bool.false_eq_true, Bool.true_eq_false, and_false, if_false] at hv
          subst hv
          subst hW0
          clear hal
          go_enter Tryz.func99, Tryz.ntmps99
          go_wp2_with fail
          with_reducible refine (HCL.out _ HX0.out).mono ?_
          rintro e w1 ⟨rfl, hb1⟩
          have hX1 := HX0.out.trans (hb1.mono HX0.out.size)
          have HX1 := Lib.hid hX1
          obtain ⟨k0_1, k1_1, k2_1, k3_1, k4_1, kl_1⟩ := HB.out _ hX1
          have z1 := hX1.size
          simp only [World.alloc, Array.size_push] at z1
          clear hb1 hX1 
          go_wp2_with fail
          with_reducible refine (HCR.out _ HX1.out).mono ?_
          rintro e w2 ⟨rfl, hb2⟩
          have hX2 := HX1.out.trans (hb2.mono HX1.out.size)
          have HX2 := Lib.hid hX2
          obtain ⟨k0_2, k1_2, k2_2, k3_2, k4_2, kl_2⟩ := HB.out _ hX2
          have z2 := hX2.size
          simp only [World.alloc, Array.size_push] at z2
          clear hb2 hX2 k0_1 k1_1 k2_1 k3_1 k4_1 kl_1
          go_wp2_with fail
          with_reducible refine (HKL.out _ HX2.out).mono ?_
          rintro e w3 ⟨rfl, hb3⟩
          have hX3 := HX2.out.trans (hb3.mono HX2.out.size)
          have HX3 := Lib.hid hX3
          obtain ⟨k0_3, k1_3, k2_3, k3_3, k4_3, kl_3⟩ := HB.out _ hX3
          have z3 := hX3.size
          simp only [World.alloc, Array.size_push] at z3
          clear hb3 hX3 k0_2 k1_2 k2_2 k3_2 k4_2 kl_2
          go_wp2_with fail
          with_reducible refine (HKR.out _ HX3.out).mono ?_
          rintro e w4 ⟨rfl, hb4⟩
          have hX4 := HX3.out.trans (hb4.mono HX3.out.size)
          have HX4 := Lib.hid hX4
          obtain ⟨k0_4, k1_4, k2_4, k3_4, k4_4, kl_4⟩ := HB.out _ hX4
          have z4 := hX4.size
          simp only [World.alloc, Array.size_push] at z4
          clear hb4 hX4 k0_3 k1_3 k2_3 k3_3 k4_3 kl_3
          go_wp2
          go_ret
          exact ⟨rfl, HAL.out.trans (HX4.out.mono HAL.out.size)⟩
      · have t3 : ((n1 : Int) == (n2 : Int)) = false := by rw [beq_eq_false_iff_ne]; omega
        have t4 : ((n1 : Int) != (n2 : Int)) = true := by rw [bne, t3]; rfl
        rw [if_neg (fun h => h3 h.1)] at hv
        subst hv
        subst hW0
        clear hal
        go_enter Tryz.func99, Tryz.ntmps99
        go_wp2_with fail
        with_reducible refine (HCL.out _ HX0.out).mono ?_
        rintro e w1 ⟨rfl, hb1⟩
        have hX1 := HX0.out.trans (hb1.mono HX0.out.size)
        have HX1 := Lib.hid hX1
        obtain ⟨k0_1, k1_1, k2_1, k3_1, k4_1, kl_1⟩ := HB.out _ hX1
        have z1 := hX1.size
        simp only [World.alloc, Array.size_push] at z1
        clear hb1 hX1 
        go_wp2_with fail
        with_reducible refine (HCR.out _ HX1.out).mono ?_
        rintro e w2 ⟨rfl, hb2⟩
        have hX2 := HX1.out.trans (hb2.mono HX1.out.size)
        have HX2 := Lib.hid hX2
        obtain ⟨k0_2, k1_2, k2_2, k3_2, k4_2, kl_2⟩ := HB.out _ hX2
        have z2 := hX2.size
        simp only [World.alloc, Array.size_push] at z2
        clear hb2 hX2 k0_1 k1_1 k2_1 k3_1 k4_1 kl_1
        go_wp2_with fail
        with_reducible refine (HKL.out _ HX2.out).mono ?_
        rintro e w3 ⟨rfl, hb3⟩
        have hX3 := HX2.out.trans (hb3.mono HX2.out.size)
        have HX3 := Lib.hid hX3
        obtain ⟨k0_3, k1_3, k2_3, k3_3, k4_3, kl_3⟩ := HB.out _ hX3
        have z3 := hX3.size
        simp only [World.alloc, Array.size_push] at z3
        clear hb3 hX3 k0_2 k1_2 k2_2 k3_2 k4_2 kl_2
        go_wp2_with fail
        with_reducible refine (HKR.out _ HX3.out).mono ?_
        rintro e w4 ⟨rfl, hb4⟩
        have hX4 := HX3.out.trans (hb4.mono HX3.out.size)
        have HX4 := Lib.hid hX4
        obtain ⟨k0_4, k1_4, k2_4, k3_4, k4_4, kl_4⟩ := HB.out _ hX4
        have z4 := hX4.size
        simp only [World.alloc, Array.size_push] at z4
        clear hb4 hX4 k0_3 k1_3 k2_3 k3_3 k4_3 kl_3
        go_wp2
        go_ret
        exact ⟨rfl, HAL.out.trans (HX4.out.mono HAL.out.size)⟩
    · rw [if_neg h2] at hv
      subst hv
      have t1 : ((k2 : Int) == 0) = false := by rw [beq_eq_false_iff_ne]; omega
      have t2 : ((k2 : Int) != 0) = true := by simpa using (show (k2 : Int) ≠ 0 by omega)
      subst hW0
      clear hal
      go_enter Tryz.func99, Tryz.ntmps99
      go_wp2_with fail
      with_reducible refine (HCL.out _ HX0.out).mono ?_
      rintro e w1 ⟨rfl, hb1⟩
      have hX1 := HX0.out.trans (hb1.mono HX0.out.size)
      have HX1 := Lib.hid hX1
      obtain ⟨k0_1, k1_1, k2_1, k3_1, k4_1, kl_1⟩ := HB.out _ hX1
      have z1 := hX1.size
      simp only [World.alloc, Array.size_push] at z1
      clear hb1 hX1 
      go_wp2_with fail
      with_reducible refine (HCR.out _ HX1.out).mono ?_
      rintro e w2 ⟨rfl, hb2⟩
      have hX2 := HX1.out.trans (hb2.mono HX1.out.size)
      have HX2 := Lib.hid hX2
      obtain ⟨k0_2, k1_2, k2_2, k3_2, k4_2, kl_2⟩ := HB.out _ hX2
      have z2 := hX2.size
      simp only [World.alloc, Array.size_push] at z2
      clear hb2 hX2 k0_1 k1_1 k2_1 k3_1 k4_1 kl_1
      go_wp2
      go_ret
      exact ⟨rfl, HAL.out.trans (HX2.out.mono HAL.out.size)⟩
  · rw [if_neg h1] at hv
    subst hv
    have t1 : ((k1 : Int) == 0) = false := by rw [beq_eq_false_iff_ne]; omega
    have t2 : ((k1 : Int) != 0) = true := by simpa using (show (k1 : Int) ≠ 0 by omega)
    subst hW0
    clear hal
    go_enter Tryz.func99, Tryz.ntmps99
    go_wp2_with fail
    with_reducible refine (HCL.out _ HX0.out).mono ?_
    rintro e w1 ⟨rfl, hb1⟩
    have hX1 := HX0.out.trans (hb1.mono HX0.out.size)
    have HX1 := Lib.hid hX1
    obtain ⟨k0_1, k1_1, k2_1, k3_1, k4_1, kl_1⟩ := HB.out _ hX1
    have z1 := hX1.size
    simp only [World.alloc, Array.size_push] at z1
    clear hb1 hX1 
    go_wp2
    go_ret
    exact ⟨rfl, HAL.out.trans (HX1.out.mono HAL.out.size)⟩
set_option maxHeartbeats 4000000 in
theorem check4_any (ex : Bool) (A : Option Addr) (xs : List ByteArray) (c : Nat) (b : Bool) (B : Option Addr) (ys : List ByteArray) (d : Nat) (f : Bool) (r : Pt.Rul) (w : World) (hr : RulR w ex A xs c b B ys d f r) :
    Calls Tryz.prog 97 #[rulV ex A xs.length c b B ys.length d f] w (GivesN w (Pt.rcheck r)) := by
  have hv : Pt.rcheck r = if Pt.check r.left = 0 then (if Pt.check r.right = 0 then (if Pt.stars r.left.parts = Pt.stars r.right.parts ∧ r.left.rest = r.right.rest then 0 else 42) else 41) else 40 := rfl
  generalize Pt.rcheck r = v at hv ⊢
  obtain ⟨W0, hW0⟩ : ∃ W0, W0 = (w.alloc (.cells #[.bool ex, .slice A xs.length c, .bool b, .slice B ys.length d, .bool f] 75)) := ⟨_, rfl⟩
  have hal : Below w.heap.size w W0 := by rw [hW0]; exact (Below.refl _ _).alloc (Nat.le_refl _) _
  have HX0 := Lib.hid (Below.refl W0.heap.size W0)
  have HAL := Lib.hid hal
  have hbx : RBox W0 w.heap.size ex A xs.length c b B ys.length d f := by rw [hW0]; exact RBox.new ..
  have HB := Lib.hid (fun (w' : World) (hb : Below W0.heap.size W0 w') => hbx.keep hb)
  have HKL := Lib.hid (fun (w' : World) (hb : Below W0.heap.size W0 w') => kinds_any A xs c b r.left w' (hr.left.keep (hal.trans (hb.mono hal.size))))
  have HKR := Lib.hid (fun (w' : World) (hb : Below W0.heap.size W0 w') => kinds_any B ys d f r.right w' (hr.right.keep (hal.trans (hb.mono hal.size))))
  unfold kindsN kindsR at HKL HKR
  generalize Pt.check r.left = k1 at hv HKL
  generalize Pt.check r.right = k2 at hv HKR
  generalize Pt.stars r.left.parts = n1 at hv HKL
  generalize Pt.stars r.right.parts = n2 at hv HKR
  generalize r.left.rest = r1 at hv HKL
  generalize r.right.rest = r2 at hv HKR
  generalize xs.length = n at *
  generalize ys.length = m at *
  clear hr hbx
  by_cases h1 : k1 = 0
  · subst h1
    simp only [if_true] at HKL
    rw [if_pos rfl] at hv
    by_cases h2 : k2 = 0
    · subst h2
      simp only [if_true] at HKR
      rw [if_pos rfl] at hv
      by_cases h3 : n1 = n2
      · subst h3
        have t3 : ((n1 : Int) == (n1 : Int)) = true := by simp
        have t4 : ((n1 : Int) != (n1 : Int)) = false := by simp
        cases r1 <;> cases r2
        all_goals
          simp only [true_and, if_true, Bool.false_eq_true, Bool.true_eq_false, and_false, if_false] at hv
          subst hv
          subst hW0
          clear hal
          go_enter Tryz.func97, Tryz.ntmps97
          go_wp2_with fail
          with_reducible refine (HKL.out _ HX0.out).mono ?_
          rintro e w1 ⟨rfl, hb1⟩
          have hX1 := HX0.out.trans (hb1.mono HX0.out.size)
          have HX1 := Lib.hid hX1
          obtain ⟨k0_1, k1_1, k2_1, k3_1, k4_1, kl_1⟩ := HB.out _ hX1
          have z1 := hX1.size
          simp only [World.alloc, Array.size_push] at z1
          clear hb1 hX1 
          go_wp2_with fail
          with_reducible refine (HKR.out _ HX1.out).mono ?_
          rintro e w2 ⟨rfl, hb2⟩
          have hX2 := HX1.out.trans (hb2.mono HX1.out.size)
          have HX2 := Lib.hid hX2
          obtain ⟨k0_2, k1_2, k2_2, k3_2, k4_2, kl_2⟩ := HB.out _ hX2
          have z2 := hX2.size
          simp only [World.alloc, Array.size_push] at z2
          clear hb2 hX2 k0_1 k1_1 k2_1 k3_1 k4_1 kl_1
          go_wp2
          go_ret
          exact ⟨rfl, HAL.out.trans (HX2.out.mono HAL.out.size)⟩
      · have t3 : ((n1 : Int) == (n2 : Int)) = false := by rw [beq_eq_false_iff_ne]; omega
        have t4 : ((n1 : Int) != (n2 : Int)) = true := by rw [bne, t3]; rfl
        rw [if_neg (fun h => h3 h.1)] at hv
        subst hv
        subst hW0
        clear hal
        go_enter Tryz.func97, Tryz.ntmps97
        go_wp2_with fail
        with_reducible refine (HKL.out _ HX0.out).mono ?_
        rintro e w1 ⟨rfl, hb1⟩
        have hX1 := HX0.out.trans (hb1.mono HX0.out.size)
        have HX1 := Lib.hid hX1
        obtain ⟨k0_1, k1_1, k2_1, k3_1, k4_1, kl_1⟩ := HB.out _ hX1
        have z1 := hX1.size
        simp only [World.alloc, Array.size_push] at z1
        clear hb1 hX1 
        go_wp2_with fail
        with_reducible refine (HKR.out _ HX1.out).mono ?_
        rintro e w2 ⟨rfl, hb2⟩
        have hX2 := HX1.out.trans (hb2.mono HX1.out.size)
        have HX2 := Lib.hid hX2
        obtain ⟨k0_2, k1_2, k2_2, k3_2, k4_2, kl_2⟩ := HB.out _ hX2
        have z2 := hX2.size
        simp only [World.alloc, Array.size_push] at z2
        clear hb2 hX2 k0_1 k1_1 k2_1 k3_1 k4_1 kl_1
        go_wp2
        go_ret
        exact ⟨rfl, HAL.out.trans (HX2.out.mono HAL.out.size)⟩
    · rw [if_neg h2] at hv
      subst hv
      have t1 : ((k2 : Int) == 0) = false := by rw [beq_eq_false_iff_ne]; omega
      have t2 : ((k2 : Int) != 0) = true := by simpa using (show (k2 : Int) ≠ 0 by omega)
      simp only [if_neg h2] at HKR
      subst hW0
      clear hal
      go_enter Tryz.func97, Tryz.ntmps97
      go_wp2_with fail
      with_reducible refine (HKL.out _ HX0.out).mono ?_
      rintro e w1 ⟨rfl, hb1⟩
      have hX1 := HX0.out.trans (hb1.mono HX0.out.size)
      have HX1 := Lib.hid hX1
      obtain ⟨k0_1, k1_1, k2_1, k3_1, k4_1, kl_1⟩ := HB.out _ hX1
      have z1 := hX1.size
      simp only [World.alloc, Array.size_push] at z1
      clear hb1 hX1 
      go_wp2_with fail
      with_reducible refine (HKR.out _ HX1.out).mono ?_
      rintro e w2 ⟨rfl, hb2⟩
      have hX2 := HX1.out.trans (hb2.mono HX1.out.size)
      have HX2 := Lib.hid hX2
      obtain ⟨k0_2, k1_2, k2_2, k3_2, k4_2, kl_2⟩ := HB.out _ hX2
      have z2 := hX2.size
      simp only [World.alloc, Array.size_push] at z2
      clear hb2 hX2 k0_1 k1_1 k2_1 k3_1 k4_1 kl_1
      go_wp2
      go_ret
      exact ⟨rfl, HAL.out.trans (HX2.out.mono HAL.out.size)⟩
  · rw [if_neg h1] at hv
    subst hv
    have t1 : ((k1 : Int) == 0) = false := by rw [beq_eq_false_iff_ne]; omega
    have t2 : ((k1 : Int) != 0) = true := by simpa using (show (k1 : Int) ≠ 0 by omega)
    simp only [if_neg h1] at HKL
    subst hW0
    clear hal
    go_enter Tryz.func97, Tryz.ntmps97
    go_wp2_with fail
    with_reducible refine (HKL.out _ HX0.out).mono ?_
    rintro e w1 ⟨rfl, hb1⟩
    have hX1 := HX0.out.trans (hb1.mono HX0.out.size)
    have HX1 := Lib.hid hX1
    obtain ⟨k0_1, k1_1, k2_1, k3_1, k4_1, kl_1⟩ := HB.out _ hX1
    have z1 := hX1.size
    simp only [World.alloc, Array.size_push] at z1
    clear hb1 hX1 
    go_wp2
    go_ret
    exact ⟨rfl, HAL.out.trans (HX1.out.mono HAL.out.size)⟩
end Go.Proofs.YtembmegllpkmfaaGreatDoor

namespace Go.Proofs.YtembmegllpkmfaaGreatDoor
open Go.RowKit

set_option maxHeartbeats 4000000 in
theorem qfwd_any (ex : Bool) (A : Option Addr) (xs : List ByteArray) (c : Nat) (b : Bool) (B : Option Addr) (ys : List ByteArray) (d : Nat) (f : Bool) (r : Pt.Rul) (s : ByteArray) (w : World) (hr : RulR w ex A xs c b B ys d f r) (hsy : ∀ y ∈ ys, y.size ≤ 100000) (hs : s.size ≤ 100000) (hm : MaxL w) :
    Calls Tryz.prog 54 #[rulV ex A xs.length c b B ys.length d f, .string s] w (GivesFw w (Pt.fwd r s.data.toList)) := by
  have hv : Pt.fwd r s.data.toList = if Pt.rcheck r = 0 then (match Pt.matchP r.left s.data.toList with
      | none => none
      | some caps => if Pt.fillErr r.right caps = 0 then some (Pt.filled r.right caps) else none) else none := rfl
  have hfz : ∀ caps, Pt.fillErr r.right caps ≠ 0 → Pt.filled r.right caps = [] := fun caps h => by unfold Pt.filled; rw [if_neg h]
  have hms : ∀ caps, Pt.matchP r.left s.data.toList = some caps → ∀ x ∈ caps, x.length ≤ s.data.toList.length := fun caps h => match_sizes h
  generalize Pt.fwd r s.data.toList = v at hv ⊢
  obtain ⟨W0, hW0⟩ : ∃ W0, W0 = (w.alloc (.cells #[.bool ex, .slice A xs.length c, .bool b, .slice B ys.length d, .bool f] 75)) := ⟨_, rfl⟩
  have hal : Below w.heap.size w W0 := by rw [hW0]; exact (Below.refl _ _).alloc (Nat.le_refl _) _
  have HX0 := Lib.hid (Below.refl W0.heap.size W0)
  have HAL := Lib.hid hal
  have hbx : RBox W0 w.heap.size ex A xs.length c b B ys.length d f := by rw [hW0]; exact RBox.new ..
  have HB := Lib.hid (fun (w' : World) (hb : Below W0.heap.size W0 w') => hbx.keep hb)
  have hm0 := hm.keep hal hm.size
  have HMX := Lib.hid (fun (w' : World) (hb : Below W0.heap.size W0 w') => hm0.keep hb hm0.size)
  have HC := Lib.hid (fun (w' : World) (hb : Below W0.heap.size W0 w') => qcheck_any ex A xs c b B ys d f r w' (hr.keep (hal.trans (hb.mono hal.size))))
  have HM := Lib.hid (fun (w' : World) (hb : Below W0.heap.size W0 w') => rmatch_any A xs c b r.left s w' (hr.left.keep (hal.trans (hb.mono hal.size))) (by omega) (hm0.keep hb hm0.size))
  have HR := Lib.hid (fun (w' : World) (hb : Below W0.heap.size W0 w') => hr.right.keep (hal.trans (hb.mono hal.size)))
  have HSY := Lib.hid hsy
  generalize Pt.rcheck r = k1 at hv HC
  clear hr hbx hsy
  by_cases h1 : k1 = 0
  · subst h1
    rw [if_pos rfl] at hv
    cases hmt : Pt.matchP r.left s.data.toList with
    | none =>
      rw [hmt] at hv HM
      simp only at hv
      subst hv
      clear hmt hms hfz
      subst hW0
      clear hal
      go_enter Tryz.func54, Tryz.ntmps54
      go_wp2_with fail
      with_reducible refine (HC.out _ HX0.out).mono ?_
      rintro e w1 ⟨rfl, hb1⟩
      have hX1 := HX0.out.trans (hb1.mono HX0.out.size)
      have HX1 := Lib.hid hX1
      obtain ⟨k0_1, k1_1, k2_1, k3_1, k4_1, kl_1⟩ := HB.out _ hX1
      have z1 := hX1.size
      simp only [World.alloc, Array.size_push] at z1
      clear hb1 hX1 
      go_wp2_with fail
      with_reducible refine (HM.out _ HX1.out).mono ?_
      rintro e w2 ⟨rfl, hb2⟩
      have hX2 := HX1.out.trans (hb2.mono HX1.out.size)
      have HX2 := Lib.hid hX2
      obtain ⟨k0_2, k1_2, k2_2, k3_2, k4_2, kl_2⟩ := HB.out _ hX2
      have z2 := hX2.size
      simp only [World.alloc, Array.size_push] at z2
      clear hb2 hX2 k0_1 k1_1 k2_1 k3_1 k4_1 kl_1
      go_wp2
      go_ret2
      exact ⟨rfl, HAL.out.trans (HX2.out.mono HAL.out.size)⟩
    | some caps =>
      rw [hmt] at hv HM
      simp only at hv
      have HSZ := Lib.hid (hms caps hmt)
      have HV := Lib.hid hv
      have HFZ := Lib.hid hfz
      clear hmt hms hv hfz
      subst hW0
      clear hal
      go_enter Tryz.func54, Tryz.ntmps54
      go_wp2_with fail
      with_reducible refine (HC.out _ HX0.out).mono ?_
      rintro e w1 ⟨rfl, hb1⟩
      have hX1 := HX0.out.trans (hb1.mono HX0.out.size)
      have HX1 := Lib.hid hX1
      obtain ⟨k0_1, k1_1, k2_1, k3_1, k4_1, kl_1⟩ := HB.out _ hX1
      have z1 := hX1.size
      simp only [World.alloc, Array.size_push] at z1
      clear hb1 hX1 
      go_wp2_with fail
      with_reducible refine (HM.out _ HX1.out).mono ?_
      rintro e w2 ⟨_, rfl, A2, zs, c2, rfl, hbz, h2c, h2m, h2r, hb2⟩
      have hX2 := HX1.out.trans (hb2.mono HX1.out.size)
      have HX2 := Lib.hid hX2
      obtain ⟨k0_2, k1_2, k2_2, k3_2, k4_2, kl_2⟩ := HB.out _ hX2
      have z2 := hX2.size
      simp only [World.alloc, Array.size_push] at z2
      clear hb2 hX2 k0_1 k1_1 k2_1 k3_1 k4_1 kl_1
      have hzz : ∀ z ∈ zs, z.size ≤ 100000 := fun z hz => by
        have h5 := HSZ.out z.data.toList (by rw [← hbz]; exact List.mem_map_of_mem hz)
        rw [← Lib.size_eq, ← Lib.size_eq] at h5
        omega
      have HF := Lib.hid (rfill_any B A2 ys zs d c2 f r.right w2 (HR.out _ HX2.out) HSY.out h2r h2c h2m hzz (HMX.out _ HX2.out))
      rw [hbz] at HF
      clear hbz h2c h2m h2r hzz
      have hfz2 := HFZ.out caps
      have hv := HV.out
      clear HFZ HV
      generalize Pt.fillErr r.right caps = fe at *
      generalize Pt.filled r.right caps = fv at *
      generalize ys.length = m at *
      generalize zs.length = q at *
      by_cases hfe : fe = 0
      · subst hfe
        rw [if_pos rfl] at hv
        subst hv
        clear hfz2
        go_wp2_with fail
        with_reducible refine (HF.out).mono ?_
        rintro e w3 ⟨rfl, hb3⟩
        have hX3 := HX2.out.trans (hb3.mono HX2.out.size)
        have HX3 := Lib.hid hX3
        obtain ⟨k0_3, k1_3, k2_3, k3_3, k4_3, kl_3⟩ := HB.out _ hX3
        have z3 := hX3.size
        simp only [World.alloc, Array.size_push] at z3
        clear hb3 hX3 k0_2 k1_2 k2_2 k3_2 k4_2 kl_2
        go_wp2
        go_ret2
        exact ⟨rfl, HAL.out.trans (HX3.out.mono HAL.out.size)⟩
      · rw [if_neg hfe] at hv
        subst hv
        obtain rfl := hfz2 hfe
        have t1 : ((fe : Int) == 0) = false := by rw [beq_eq_false_iff_ne]; omega
        have t2 : ((fe : Int) != 0) = true := by rw [bne, t1]; rfl
        clear hfz2 hfe
        go_wp2_with fail
        with_reducible refine (HF.out).mono ?_
        rintro e w3 ⟨rfl, hb3⟩
        have hX3 := HX2.out.trans (hb3.mono HX2.out.size)
        have HX3 := Lib.hid hX3
        obtain ⟨k0_3, k1_3, k2_3, k3_3, k4_3, kl_3⟩ := HB.out _ hX3
        have z3 := hX3.size
        simp only [World.alloc, Array.size_push] at z3
        clear hb3 hX3 k0_2 k1_2 k2_2 k3_2 k4_2 kl_2
        go_wp2
        go_ret2
        exact ⟨rfl, HAL.out.trans (HX3.out.mono HAL.out.size)⟩
  · rw [if_neg h1] at hv
    subst hv
    have t1 : ((k1 : Int) == 0) = false := by rw [beq_eq_false_iff_ne]; omega
    have t2 : ((k1 : Int) != 0) = true := by rw [bne, t1]; rfl
    subst hW0
    clear hal
    go_enter Tryz.func54, Tryz.ntmps54
    go_wp2_with fail
    with_reducible refine (HC.out _ HX0.out).mono ?_
    rintro e w1 ⟨rfl, hb1⟩
    have hX1 := HX0.out.trans (hb1.mono HX0.out.size)
    have HX1 := Lib.hid hX1
    obtain ⟨k0_1, k1_1, k2_1, k3_1, k4_1, kl_1⟩ := HB.out _ hX1
    have z1 := hX1.size
    simp only [World.alloc, Array.size_push] at z1
    clear hb1 hX1 
    go_wp2
    go_ret2
    exact ⟨rfl, HAL.out.trans (HX1.out.mono HAL.out.size)⟩
set_option maxHeartbeats 4000000 in
theorem fwd_any (ex : Bool) (A : Option Addr) (xs : List ByteArray) (c : Nat) (b : Bool) (B : Option Addr) (ys : List ByteArray) (d : Nat) (f : Bool) (r : Pt.Rul) (s : ByteArray) (w : World) (hr : RulR w ex A xs c b B ys d f r) (hsy : ∀ y ∈ ys, y.size ≤ 100000) (hs : s.size ≤ 100000) (hm : MaxL w) :
    Calls Tryz.prog 55 #[rulV ex A xs.length c b B ys.length d f, .string s] w (GivesFw w (Pt.fwd r s.data.toList)) := by
  have hv : Pt.fwd r s.data.toList = if Pt.rcheck r = 0 then (match Pt.matchP r.left s.data.toList with
      | none => none
      | some caps => if Pt.fillErr r.right caps = 0 then some (Pt.filled r.right caps) else none) else none := rfl
  have hfz : ∀ caps, Pt.fillErr r.right caps ≠ 0 → Pt.filled r.right caps = [] := fun caps h => by unfold Pt.filled; rw [if_neg h]
  have hms : ∀ caps, Pt.matchP r.left s.data.toList = some caps → ∀ x ∈ caps, x.length ≤ s.data.toList.length := fun caps h => match_sizes h
  generalize Pt.fwd r s.data.toList = v at hv ⊢
  obtain ⟨W0, hW0⟩ : ∃ W0, W0 = (w.alloc (.cells #[.bool ex, .slice A xs.length c, .bool b, .slice B ys.length d, .bool f] 75)) := ⟨_, rfl⟩
  have hal : Below w.heap.size w W0 := by rw [hW0]; exact (Below.refl _ _).alloc (Nat.le_refl _) _
  have HX0 := Lib.hid (Below.refl W0.heap.size W0)
  have HAL := Lib.hid hal
  have hbx : RBox W0 w.heap.size ex A xs.length c b B ys.length d f := by rw [hW0]; exact RBox.new ..
  have HB := Lib.hid (fun (w' : World) (hb : Below W0.heap.size W0 w') => hbx.keep hb)
  have hm0 := hm.keep hal hm.size
  have HMX := Lib.hid (fun (w' : World) (hb : Below W0.heap.size W0 w') => hm0.keep hb hm0.size)
  have HC := Lib.hid (fun (w' : World) (hb : Below W0.heap.size W0 w') => check4_any ex A xs c b B ys d f r w' (hr.keep (hal.trans (hb.mono hal.size))))
  have HM := Lib.hid (fun (w' : World) (hb : Below W0.heap.size W0 w') => match_any2 A xs c b r.left s w' (hr.left.keep (hal.trans (hb.mono hal.size))) (by omega) (hm0.keep hb hm0.size))
  have HR := Lib.hid (fun (w' : World) (hb : Below W0.heap.size W0 w') => hr.right.keep (hal.trans (hb.mono hal.size)))
  have HSY := Lib.hid hsy
  generalize Pt.rcheck r = k1 at hv HC
  clear hr hbx hsy
  by_cases h1 : k1 = 0
  · subst h1
    rw [if_pos rfl] at hv
    cases hmt : Pt.matchP r.left s.data.toList with
    | none =>
      rw [hmt] at hv HM
      simp only at hv
      subst hv
      clear hmt hms hfz
      subst hW0
      clear hal
      go_enter Tryz.func55, Tryz.ntmps55
      go_wp2_with fail
      with_reducible refine (HC.out _ HX0.out).mono ?_
      rintro e w1 ⟨rfl, hb1⟩
      have hX1 := HX0.out.trans (hb1.mono HX0.out.size)
      have HX1 := Lib.hid hX1
      obtain ⟨k0_1, k1_1, k2_1, k3_1, k4_1, kl_1⟩ := HB.out _ hX1
      have z1 := hX1.size
      simp only [World.alloc, Array.size_push] at z1
      clear hb1 hX1 
      go_wp2_with fail
      with_reducible refine (HM.out _ HX1.out).mono ?_
      rintro e w2 ⟨rfl, hb2⟩
      have hX2 := HX1.out.trans (hb2.mono HX1.out.size)
      have HX2 := Lib.hid hX2
      obtain ⟨k0_2, k1_2, k2_2, k3_2, k4_2, kl_2⟩ := HB.out _ hX2
      have z2 := hX2.size
      simp only [World.alloc, Array.size_push] at z2
      clear hb2 hX2 k0_1 k1_1 k2_1 k3_1 k4_1 kl_1
      go_wp2
      go_ret2
      exact ⟨rfl, HAL.out.trans (HX2.out.mono HAL.out.size)⟩
    | some caps =>
      rw [hmt] at hv HM
      simp only at hv
      have HSZ := Lib.hid (hms caps hmt)
      have HV := Lib.hid hv
      have HFZ := Lib.hid hfz
      clear hmt hms hv hfz
      subst hW0
      clear hal
      go_enter Tryz.func55, Tryz.ntmps55
      go_wp2_with fail
      with_reducible refine (HC.out _ HX0.out).mono ?_
      rintro e w1 ⟨rfl, hb1⟩
      have hX1 := HX0.out.trans (hb1.mono HX0.out.size)
      have HX1 := Lib.hid hX1
      obtain ⟨k0_1, k1_1, k2_1, k3_1, k4_1, kl_1⟩ := HB.out _ hX1
      have z1 := hX1.size
      simp only [World.alloc, Array.size_push] at z1
      clear hb1 hX1 
      go_wp2_with fail
      with_reducible refine (HM.out _ HX1.out).mono ?_
      rintro e w2 ⟨A2, zs, c2, rfl, hbz, h2c, h2m, h2n, h2r, hb2⟩
      have hX2 := HX1.out.trans (hb2.mono HX1.out.size)
      have HX2 := Lib.hid hX2
      obtain ⟨k0_2, k1_2, k2_2, k3_2, k4_2, kl_2⟩ := HB.out _ hX2
      have z2 := hX2.size
      simp only [World.alloc, Array.size_push] at z2
      clear hb2 hX2 k0_1 k1_1 k2_1 k3_1 k4_1 kl_1
      have hzz : ∀ z ∈ zs, z.size ≤ 100000 := fun z hz => by
        have h5 := HSZ.out z.data.toList (by rw [← hbz]; exact List.mem_map_of_mem hz)
        rw [← Lib.size_eq, ← Lib.size_eq] at h5
        omega
      have HF := Lib.hid (fill_any B A2 ys zs d c2 f r.right w2 (HR.out _ HX2.out) HSY.out h2r h2c h2m h2n hzz (HMX.out _ HX2.out))
      rw [hbz] at HF
      clear hbz h2c h2m h2r hzz h2n
      have hfz2 := HFZ.out caps
      have hv := HV.out
      clear HFZ HV
      generalize Pt.fillErr r.right caps = fe at *
      generalize Pt.filled r.right caps = fv at *
      generalize ys.length = m at *
      generalize zs.length = q at *
      by_cases hfe : fe = 0
      · subst hfe
        rw [if_pos rfl] at hv
        subst hv
        clear hfz2
        go_wp2_with fail
        with_reducible refine (HF.out).mono ?_
        rintro e w3 ⟨rfl, hb3⟩
        have hX3 := HX2.out.trans (hb3.mono HX2.out.size)
        have HX3 := Lib.hid hX3
        obtain ⟨k0_3, k1_3, k2_3, k3_3, k4_3, kl_3⟩ := HB.out _ hX3
        have z3 := hX3.size
        simp only [World.alloc, Array.size_push] at z3
        clear hb3 hX3 k0_2 k1_2 k2_2 k3_2 k4_2 kl_2
        go_wp2
        go_ret2
        exact ⟨rfl, HAL.out.trans (HX3.out.mono HAL.out.size)⟩
      · rw [if_neg hfe] at hv
        subst hv
        obtain rfl := hfz2 hfe
        have t1 : ((fe : Int) == 0) = false := by rw [beq_eq_false_iff_ne]; omega
        have t2 : ((fe : Int) != 0) = true := by rw [bne, t1]; rfl
        clear hfz2 hfe
        go_wp2_with fail
        with_reducible refine (HF.out).mono ?_
        rintro e w3 ⟨rfl, hb3⟩
        have hX3 := HX2.out.trans (hb3.mono HX2.out.size)
        have HX3 := Lib.hid hX3
        obtain ⟨k0_3, k1_3, k2_3, k3_3, k4_3, kl_3⟩ := HB.out _ hX3
        have z3 := hX3.size
        simp only [World.alloc, Array.size_push] at z3
        clear hb3 hX3 k0_2 k1_2 k2_2 k3_2 k4_2 kl_2
        go_wp2
        go_ret2
        exact ⟨rfl, HAL.out.trans (HX3.out.mono HAL.out.size)⟩
  · rw [if_neg h1] at hv
    subst hv
    have t1 : ((k1 : Int) == 0) = false := by rw [beq_eq_false_iff_ne]; omega
    have t2 : ((k1 : Int) != 0) = true := by rw [bne, t1]; rfl
    subst hW0
    clear hal
    go_enter Tryz.func55, Tryz.ntmps55
    go_wp2_with fail
    with_reducible refine (HC.out _ HX0.out).mono ?_
    rintro e w1 ⟨rfl, hb1⟩
    have hX1 := HX0.out.trans (hb1.mono HX0.out.size)
    have HX1 := Lib.hid hX1
    obtain ⟨k0_1, k1_1, k2_1, k3_1, k4_1, kl_1⟩ := HB.out _ hX1
    have z1 := hX1.size
    simp only [World.alloc, Array.size_push] at z1
    clear hb1 hX1 
    go_wp2
    go_ret2
    exact ⟨rfl, HAL.out.trans (HX1.out.mono HAL.out.size)⟩
end Go.Proofs.YtembmegllpkmfaaGreatDoor

namespace Go.Proofs.YtembmegllpkmfaaGreatDoor
open Go.RowKit

set_option maxHeartbeats 4000000 in
theorem qcopy_any (A : Option Addr) (xs : List ByteArray) (c : Nat) (b : Bool) (p : Pt.Pat) (w : World) (hp : PatR w A xs c b p) (hN : xs.length ≤ 1000000) :
    Calls Tryz.prog 128 #[patV A xs.length c b] w (fun e w' => ∃ B d, e = .returned (patV B xs.length d b) ∧ PatR w' B xs d b p ∧ Below w.heap.size w w') := by
  obtain ⟨W0, hW0⟩ : ∃ W0, W0 = (w.alloc (.cells #[.slice A xs.length c, .bool b] 24)).alloc (.cells #[.slice none 0 0, .bool false] 24) := ⟨_, rfl⟩
  have halloc : Below w.heap.size w W0 := by rw [hW0]; exact ((Below.refl _ _).alloc (Nat.le_refl _) _).alloc (by simp) _
  have HRD := Lib.hid ((hp.keep halloc).rd)
  obtain ⟨c0, c1, c2, c3⟩ := box2_cells (w' := W0) (w := w) (t := 24) (by rw [← hW0]; exact Below.refl _ _)
  have f0 : W0.frozen? ⟨w.heap.size + 1, 0, none⟩ = false := by
    subst hW0
    simp
  have f1 : W0.frozen? ⟨w.heap.size + 1, 1, none⟩ = false := by
    subst hW0
    simp
  have hz : w.heap.size + 1 < W0.heap.size := by rw [hW0]; simp
  have hz2 : w.heap.size + 1 + 1 ≤ W0.heap.size := by omega
  have hz' : w.heap.size < W0.heap.size := by omega
  have HP := Lib.hid hp
  have HAL := Lib.hid halloc
  obtain ⟨n, hn⟩ : ∃ n, n = xs.length := ⟨_, rfl⟩
  have HNN := Lib.hid hN
  rw [← hn] at hW0 c0 ⊢
  have HN := Lib.hid hn
  clear hp halloc hN hn
  go_enter Tryz.func128, Tryz.ntmps128
  go_wp2_with fail
  generalize hwg : (w.alloc (.cells #[.slice A n c, .bool b] 24)).alloc (.cells #[.slice none 0 0, .bool false] 24) = W
  have hWW : W = W0 := by rw [← hwg, hW0]
  subst hWW
  clear hwg hW0
  go_region_held3 (fun w' => w'.cell? ⟨w.heap.size, 0, none⟩ = some (.slice A n c) ∧ w'.cell? ⟨w.heap.size, 1, none⟩ = some (.bool b))
    (first | exact ⟨(hb.cell (p := ⟨w.heap.size, 0, none⟩) (by show w.heap.size < w.heap.size + 1 + 1; omega)).trans c0, (hb.cell (p := ⟨w.heap.size, 1, none⟩) (by show w.heap.size < w.heap.size + 1 + 1; omega)).trans c1⟩ | go_keep)
    ((refine step_append_ss rfl _ _ rfl (w.heap.size + 1 + 1) (.slice none 0 0) [] rfl (OwnS.empty _ _) A xs n c HN.out rfl HRD.out HP.out.nil (by simpa using HNN.out) (by first | omega | (simp; omega)) ?_; intro v' w' hown hb
      have k2 := (hb.cell (p := ⟨w.heap.size + 1, 0, none⟩) (by show w.heap.size + 1 < w.heap.size + 1 + 1; omega)).trans c2
      have k3 := (hb.cell (p := ⟨w.heap.size + 1, 1, none⟩) (by show w.heap.size + 1 < w.heap.size + 1 + 1; omega)).trans c3
      have k4 := (hb.frozen (p := ⟨w.heap.size + 1, 0, none⟩) (by show w.heap.size + 1 < w.heap.size + 1 + 1; omega)).trans f0
      have k5 := (hb.frozen (p := ⟨w.heap.size + 1, 1, none⟩) (by show w.heap.size + 1 < w.heap.size + 1 + 1; omega)).trans f1
      obtain ⟨A', c', rfl, hf1, hf2, hf3, hf4⟩ := hown.form
      have F1 := Lib.hid hf1
      have F2 := Lib.hid hf2
      have F3 := Lib.hid hf3
      have F4 := Lib.hid hf4
      clear hf1 hf2 hf3 hf4 hown))
  go_wp2
  refine bodyPost_ret (v := patV A' n c' b) (by simp [results, Tryz.results128, go_sem, k2, k3, HN.out]) rfl ⟨A', c', rfl, ?_, ?_⟩
  · rw [List.nil_append] at F1 F3
    have h1 : PatR w' A' xs c' b p := ⟨F3.out, HP.out.parts, HP.out.rest, F1.out, F2.out, F4.out, HP.out.sz⟩
    exact h1.store2 _ _ _ _ _ k2 k3 (fun _ h => by cases h) (fun _ h => by cases h)
  · have hb5 : Below w.heap.size w w' := HAL.out.trans (((Below.refl w.heap.size W).trans (show Below w.heap.size W W.drew from ⟨rfl, rfl, rfl, Nat.le_refl _, fun _ _ => rfl⟩)).trans (hb.mono (by omega)))
    exact (hb5.setCell (p := ⟨w.heap.size + 1, 0, none⟩) (by simp) _).setCell (p := ⟨w.heap.size + 1, 1, none⟩) (by simp) _
set_option maxHeartbeats 4000000 in
theorem rcopied_any (A : Option Addr) (xs : List ByteArray) (c : Nat) (b : Bool) (p : Pt.Pat) (w : World) (hp : PatR w A xs c b p) (hN : xs.length ≤ 1000000) :
    Calls Tryz.prog 157 #[patV A xs.length c b] w (fun e w' => ∃ B d, e = .returned (patV B xs.length d b) ∧ PatR w' B xs d b p ∧ Below w.heap.size w w') := by
  obtain ⟨W0, hW0⟩ : ∃ W0, W0 = (w.alloc (.cells #[.slice A xs.length c, .bool b] 24)).alloc (.cells #[.slice none 0 0, .bool false] 24) := ⟨_, rfl⟩
  have halloc : Below w.heap.size w W0 := by rw [hW0]; exact ((Below.refl _ _).alloc (Nat.le_refl _) _).alloc (by simp) _
  have HRD := Lib.hid ((hp.keep halloc).rd)
  obtain ⟨c0, c1, c2, c3⟩ := box2_cells (w' := W0) (w := w) (t := 24) (by rw [← hW0]; exact Below.refl _ _)
  have f0 : W0.frozen? ⟨w.heap.size + 1, 0, none⟩ = false := by
    subst hW0
    simp
  have f1 : W0.frozen? ⟨w.heap.size + 1, 1, none⟩ = false := by
    subst hW0
    simp
  have hz : w.heap.size + 1 < W0.heap.size := by rw [hW0]; simp
  have hz2 : w.heap.size + 1 + 1 ≤ W0.heap.size := by omega
  have hz' : w.heap.size < W0.heap.size := by omega
  have HP := Lib.hid hp
  have HAL := Lib.hid halloc
  obtain ⟨n, hn⟩ : ∃ n, n = xs.length := ⟨_, rfl⟩
  have HNN := Lib.hid hN
  have HCL := Lib.hid (clone_all A xs c W0.drew ((hp.keep (below_drew halloc)).rd) hN)
  rw [← hn] at hW0 c0 HCL ⊢
  have HN := Lib.hid hn
  clear hp halloc hN hn
  go_enter Tryz.func157, Tryz.ntmps157
  go_wp2_with fail
  generalize hwg : (w.alloc (.cells #[.slice A n c, .bool b] 24)).alloc (.cells #[.slice none 0 0, .bool false] 24) = W
  have hWW : W = W0 := by rw [← hwg, hW0]
  subst hWW
  clear hwg hW0
  go_region_held3 (fun w' => w'.cell? ⟨w.heap.size, 0, none⟩ = some (.slice A n c) ∧ w'.cell? ⟨w.heap.size, 1, none⟩ = some (.bool b))
    (first | exact ⟨(hb.cell (p := ⟨w.heap.size, 0, none⟩) (by exact hz')).trans c0, (hb.cell (p := ⟨w.heap.size, 1, none⟩) (by exact hz')).trans c1⟩ | go_keep)
    ((go_at_call 72; have hcc := HCL.out; with_reducible refine hcc.mono ?_; intro e w' hh; obtain ⟨A', c', rfl, hf3, hf1, hf2, hf4, _, hb⟩ := hh
      have k2 := (hb.cell (p := ⟨w.heap.size + 1, 0, none⟩) (by exact hz)).trans c2
      have k3 := (hb.cell (p := ⟨w.heap.size + 1, 1, none⟩) (by exact hz)).trans c3
      have k4 := (hb.frozen (p := ⟨w.heap.size + 1, 0, none⟩) (by exact hz)).trans f0
      have k5 := (hb.frozen (p := ⟨w.heap.size + 1, 1, none⟩) (by exact hz)).trans f1
      have F1 := Lib.hid hf1
      have F2 := Lib.hid hf2
      have F3 := Lib.hid hf3
      have F4 := Lib.hid hf4
      clear hf1 hf2 hf3 hf4))
  go_wp2
  refine bodyPost_ret (v := patV A' n c' b) (by simp [results, Tryz.results157, go_sem, k2, k3, HN.out]) rfl ⟨A', c', rfl, ?_, ?_⟩
  · have h1 : PatR w' A' xs c' b p := ⟨F3.out, HP.out.parts, HP.out.rest, (by rw [← HN.out]; exact F1.out), F2.out, F4.out, HP.out.sz⟩
    exact h1.store2 _ _ _ _ _ k2 k3 (fun _ h => by cases h) (fun _ h => by cases h)
  · have hb5 : Below w.heap.size w w' := HAL.out.trans (((Below.refl w.heap.size W).trans (show Below w.heap.size W W.drew from ⟨rfl, rfl, rfl, Nat.le_refl _, fun _ _ => rfl⟩)).trans (hb.mono (by show w.heap.size ≤ W.heap.size; omega)))
    exact (hb5.setCell (p := ⟨w.heap.size + 1, 0, none⟩) (by simp) _).setCell (p := ⟨w.heap.size + 1, 1, none⟩) (by simp) _
end Go.Proofs.YtembmegllpkmfaaGreatDoor

namespace Go.Proofs.YtembmegllpkmfaaGreatDoor
open Go.RowKit

/-- A text and a bool. -/
def GivesSB (w : World) (t : ByteArray) (j : Bool) (e : Ending) (w' : World) : Prop := e = .returned (.tuple #[.string t, .bool j]) ∧ Below w.heap.size w w'
def small4B (l : List (List UInt8)) : Bool := decide (l.length ≤ 20) && decide (lens l ≤ 300)
theorem small4_facts {xs : List ByteArray} (h : small4B (bs xs) = true) : xs.length ≤ 20 ∧ Pt.szs 300 ⟨bs xs, false⟩ ∧ ∀ x ∈ xs, x.size ≤ 300 := by
  unfold small4B at h
  rw [Bool.and_eq_true, decide_eq_true_eq, decide_eq_true_eq, bs_length] at h
  have h2 : ∀ x ∈ bs xs, x.length ≤ 300 := fun x hx => Nat.le_trans (elem_lens hx) h.2
  exact ⟨h.1, h2, fun x hx => by rw [Lib.size_eq]; exact h2 _ (List.mem_map_of_mem hx)⟩
def fitB (xs ys : List ByteArray) : Bool := small4B (bs xs) && small4B (bs ys)
end Go.Proofs.YtembmegllpkmfaaGreatDoor

namespace Go.Proofs.YtembmegllpkmfaaGreatDoor
open Go.RowKit

def GivesTurn (w : World) (ex : Bool) (xs ys : List ByteArray) (b f : Bool) (r : Pt.Rul) (e : Ending) (w' : World) : Prop :=
  ∃ C cz D dz, e = .returned (rulV ex C ys.length cz f D xs.length dz b) ∧ RulR w' ex C ys cz f D xs dz b (Pt.turnR r) ∧ Below w.heap.size w w'
set_option maxHeartbeats 8000000 in
theorem turn_any (ex : Bool) (A : Option Addr) (xs : List ByteArray) (c : Nat) (b : Bool) (B : Option Addr) (ys : List ByteArray) (d : Nat) (f : Bool) (r : Pt.Rul) (w : World) (hr : RulR w ex A xs c b B ys d f r) (hN : xs.length ≤ 1000000) (hM : ys.length ≤ 1000000) :
    Calls Tryz.prog 124 #[rulV ex A xs.length c b B ys.length d f] w (GivesTurn w ex xs ys b f r) := by
  obtain ⟨W0, hW0⟩ : ∃ W0, W0 = (w.alloc (.cells #[.bool ex, .slice A xs.length c, .bool b, .slice B ys.length d, .bool f] 75)).alloc zeroRul := ⟨_, rfl⟩
  have hal : Below w.heap.size w W0 := by rw [hW0]; exact ((Below.refl _ _).alloc (Nat.le_refl _) _).alloc (by simp) _
  have hbx : RBox W0 w.heap.size ex A xs.length c b B ys.length d f := by rw [hW0]; exact (RBox.new ..).keep ((Below.refl _ _).alloc (Nat.le_refl _) _)
  have hzx : ZRul W0 (w.heap.size + 1) := by
    have h := ZRul.new (w.alloc (.cells #[.bool ex, .slice A xs.length c, .bool b, .slice B ys.length d, .bool f] 75))
    rw [show (w.alloc (.cells #[.bool ex, .slice A xs.length c, .bool b, .slice B ys.length d, .bool f] 75)).heap.size = w.heap.size + 1 by simp] at h
    rw [hW0]; exact h
  have HZ := Lib.hid hzx
  have HL := Lib.hid (fun (w' : World) (hb : Below W0.heap.size W0 w') => rcopied_any A xs c b r.left w' (hr.left.keep (hal.trans (hb.mono hal.size))) hN)
  have HR := Lib.hid (fun (w' : World) (hb : Below W0.heap.size W0 w') => rcopied_any B ys d f r.right w' (hr.right.keep (hal.trans (hb.mono hal.size))) hM)
  have HSK := Lib.hid (fun (w' : World) (hb : Below W0.heap.size W0 w') => show w'.cell? ⟨w.heap.size, 0, none⟩ = some (.bool ex) ∧ w'.cell? ⟨w.heap.size, 1, none⟩ = some (.slice A xs.length c) ∧ w'.cell? ⟨w.heap.size, 2, none⟩ = some (.bool b) ∧ w'.cell? ⟨w.heap.size, 3, none⟩ = some (.slice B ys.length d) ∧ w'.cell? ⟨w.heap.size, 4, none⟩ = some (.bool f) from by
    obtain ⟨k0, k1, k2, k3, k4, _⟩ := hbx.keep hb
    exact ⟨k0, k1, k2, k3, k4⟩)
  have HAL := Lib.hid hal
  have hz : w.heap.size + 1 + 1 ≤ W0.heap.size := by rw [hW0]; simp
  obtain ⟨k0, k1, k2, k3, k4, kl⟩ := hbx
  have HEX := Lib.hid hr.ex
  obtain ⟨n, hn⟩ : ∃ n, n = xs.length := ⟨_, rfl⟩
  obtain ⟨m, hm⟩ : ∃ m, m = ys.length := ⟨_, rfl⟩
  rw [← hn] at hW0 k1 HL HSK
  rw [← hm] at hW0 k3 HR HSK
  rw [← hn, ← hm]
  have HN := Lib.hid hn
  have HM := Lib.hid hm
  clear hr hal hzx hN hM hn hm
  go_enter Tryz.func124, Tryz.ntmps124
  go_wp2_with fail
  generalize hwg : (w.alloc (.cells #[.bool ex, .slice A n c, .bool b, .slice B m d, .bool f] 75)).alloc (.cells #[.bool false, .slice none 0 0, .bool false, .slice none 0 0, .bool false] 75) = W
  have hWW : W = W0 := by rw [← hwg, hW0]
  subst hWW
  clear hwg hW0
  set_option maxRecDepth 100000 in
  go_region_held3 (fun w' => w'.cell? ⟨w.heap.size, 0, none⟩ = some (.bool ex) ∧ w'.cell? ⟨w.heap.size, 1, none⟩ = some (.slice A n c) ∧ w'.cell? ⟨w.heap.size, 2, none⟩ = some (.bool b) ∧ w'.cell? ⟨w.heap.size, 3, none⟩ = some (.slice B m d) ∧ w'.cell? ⟨w.heap.size, 4, none⟩ = some (.bool f))
    (first | exact HSK.out _ b6 | exact HSK.out _ b5 | exact HSK.out _ (below_drew (Below.refl _ _)) | exact HSK.out _ (Below.refl _ _) | go_keep)
    (first
      | (go_at_call 157; have hcc := HL.out _ b5; with_reducible refine hcc.mono ?_; intro e w6 hh; obtain ⟨D, dz, rfl, hp6, hb6⟩ := hh
         have b6 : Below W.heap.size W w6 := b5.trans (hb6.mono b5.size)
         have hp7 := hp5.keep hb6
         have HZ6 := Lib.hid (ZRul.keep HZ.out b6)
         obtain ⟨z0, z1, z2, z3, z4, z5, z6, z7, z8, z9, zl⟩ := HZ6.out)
      | (go_at_call 157; have hcc := HR.out _ (below_drew (Below.refl _ _)); with_reducible refine hcc.mono ?_; intro e w5 hh; obtain ⟨C, cz, rfl, hp5, hb5⟩ := hh
         have b5 : Below W.heap.size W w5 := (below_drew (Below.refl _ _)).trans hb5))
  go_wp2
  refine bodyPost_ret (v := rulV ex C m cz f D n dz b) (by simp [results, Tryz.results124, go_sem, z0, z1, z2, z3, z4]) rfl ⟨C, cz, D, dz, by rw [← HM.out, ← HN.out], ⟨HEX.out, ?_, ?_⟩, ?_⟩
  · exact hp7.grow5 _ _ _ _ _ _ HZ6.out
  · exact hp6.grow5 _ _ _ _ _ _ HZ6.out
  · exact Below.set5 (HAL.out.trans (b6.mono HAL.out.size)) _ (by omega) _ _ _ _ _
set_option maxHeartbeats 8000000 in
theorem qturn_any (ex : Bool) (A : Option Addr) (xs : List ByteArray) (c : Nat) (b : Bool) (B : Option Addr) (ys : List ByteArray) (d : Nat) (f : Bool) (r : Pt.Rul) (w : World) (hr : RulR w ex A xs c b B ys d f r) (hN : xs.length ≤ 1000000) (hM : ys.length ≤ 1000000) :
    Calls Tryz.prog 101 #[rulV ex A xs.length c b B ys.length d f] w (GivesTurn w ex xs ys b f r) := by
  obtain ⟨W0, hW0⟩ : ∃ W0, W0 = (w.alloc (.cells #[.bool ex, .slice A xs.length c, .bool b, .slice B ys.length d, .bool f] 75)).alloc zeroRul := ⟨_, rfl⟩
  have hal : Below w.heap.size w W0 := by rw [hW0]; exact ((Below.refl _ _).alloc (Nat.le_refl _) _).alloc (by simp) _
  have hbx : RBox W0 w.heap.size ex A xs.length c b B ys.length d f := by rw [hW0]; exact (RBox.new ..).keep ((Below.refl _ _).alloc (Nat.le_refl _) _)
  have hzx : ZRul W0 (w.heap.size + 1) := by
    have h := ZRul.new (w.alloc (.cells #[.bool ex, .slice A xs.length c, .bool b, .slice B ys.length d, .bool f] 75))
    rw [show (w.alloc (.cells #[.bool ex, .slice A xs.length c, .bool b, .slice B ys.length d, .bool f] 75)).heap.size = w.heap.size + 1 by simp] at h
    rw [hW0]; exact h
  have HZ := Lib.hid hzx
  have HL := Lib.hid (fun (w' : World) (hb : Below W0.heap.size W0 w') => qcopy_any A xs c b r.left w' (hr.left.keep (hal.trans (hb.mono hal.size))) hN)
  have HR := Lib.hid (fun (w' : World) (hb : Below W0.heap.size W0 w') => qcopy_any B ys d f r.right w' (hr.right.keep (hal.trans (hb.mono hal.size))) hM)
  have HSK := Lib.hid (fun (w' : World) (hb : Below W0.heap.size W0 w') => show w'.cell? ⟨w.heap.size, 0, none⟩ = some (.bool ex) ∧ w'.cell? ⟨w.heap.size, 1, none⟩ = some (.slice A xs.length c) ∧ w'.cell? ⟨w.heap.size, 2, none⟩ = some (.bool b) ∧ w'.cell? ⟨w.heap.size, 3, none⟩ = some (.slice B ys.length d) ∧ w'.cell? ⟨w.heap.size, 4, none⟩ = some (.bool f) from by
    obtain ⟨k0, k1, k2, k3, k4, _⟩ := hbx.keep hb
    exact ⟨k0, k1, k2, k3, k4⟩)
  have HAL := Lib.hid hal
  have hz : w.heap.size + 1 + 1 ≤ W0.heap.size := by rw [hW0]; simp
  obtain ⟨k0, k1, k2, k3, k4, kl⟩ := hbx
  have HEX := Lib.hid hr.ex
  obtain ⟨n, hn⟩ : ∃ n, n = xs.length := ⟨_, rfl⟩
  obtain ⟨m, hm⟩ : ∃ m, m = ys.length := ⟨_, rfl⟩
  rw [← hn] at hW0 k1 HL HSK
  rw [← hm] at hW0 k3 HR HSK
  rw [← hn, ← hm]
  have HN := Lib.hid hn
  have HM := Lib.hid hm
  clear hr hal hzx hN hM hn hm
  go_enter Tryz.func101, Tryz.ntmps101
  go_wp2_with fail
  generalize hwg : (w.alloc (.cells #[.bool ex, .slice A n c, .bool b, .slice B m d, .bool f] 75)).alloc (.cells #[.bool false, .slice none 0 0, .bool false, .slice none 0 0, .bool false] 75) = W
  have hWW : W = W0 := by rw [← hwg, hW0]
  subst hWW
  clear hwg hW0
  set_option maxRecDepth 100000 in
  go_region_held3 (fun w' => w'.cell? ⟨w.heap.size, 0, none⟩ = some (.bool ex) ∧ w'.cell? ⟨w.heap.size, 1, none⟩ = some (.slice A n c) ∧ w'.cell? ⟨w.heap.size, 2, none⟩ = some (.bool b) ∧ w'.cell? ⟨w.heap.size, 3, none⟩ = some (.slice B m d) ∧ w'.cell? ⟨w.heap.size, 4, none⟩ = some (.bool f))
    (first | exact HSK.out _ b6 | exact HSK.out _ b5 | exact HSK.out _ (below_drew (Below.refl _ _)) | exact HSK.out _ (Below.refl _ _) | go_keep)
    (first
      | (go_at_call 128; have hcc := HL.out _ b5; with_reducible refine hcc.mono ?_; intro e w6 hh; obtain ⟨D, dz, rfl, hp6, hb6⟩ := hh
         have b6 : Below W.heap.size W w6 := b5.trans (hb6.mono b5.size)
         have hp7 := hp5.keep hb6
         have HZ6 := Lib.hid (ZRul.keep HZ.out b6)
         obtain ⟨z0, z1, z2, z3, z4, z5, z6, z7, z8, z9, zl⟩ := HZ6.out)
      | (go_at_call 128; have hcc := HR.out _ (below_drew (Below.refl _ _)); with_reducible refine hcc.mono ?_; intro e w5 hh; obtain ⟨C, cz, rfl, hp5, hb5⟩ := hh
         have b5 : Below W.heap.size W w5 := (below_drew (Below.refl _ _)).trans hb5))
  go_wp2
  refine bodyPost_ret (v := rulV ex C m cz f D n dz b) (by simp [results, Tryz.results101, go_sem, z0, z1, z2, z3, z4]) rfl ⟨C, cz, D, dz, by rw [← HM.out, ← HN.out], ⟨HEX.out, ?_, ?_⟩, ?_⟩
  · exact hp7.grow5 _ _ _ _ _ _ HZ6.out
  · exact hp6.grow5 _ _ _ _ _ _ HZ6.out
  · exact Below.set5 (HAL.out.trans (b6.mono HAL.out.size)) _ (by omega) _ _ _ _ _
end Go.Proofs.YtembmegllpkmfaaGreatDoor

namespace Go.Proofs.YtembmegllpkmfaaGreatDoor
open Go.RowKit

def awakeRul : Pt.Rul := ⟨false, ⟨[[100], [42, 46, 112, 115, 100]], true⟩, ⟨[[99], [120], [42]], true⟩⟩
theorem awake4_fwd : Pt.fwd awakeRul [47, 47, 100, 47, 97, 46, 112, 115, 100, 47, 98] = some [47, 47, 99, 47, 120, 47, 97, 47, 98] := by decide +kernel
theorem awake4_check : Pt.rcheck awakeRul = 0 := by decide +kernel
end Go.Proofs.YtembmegllpkmfaaGreatDoor

namespace Go.Proofs.YtembmegllpkmfaaGreatDoor
open Go.RowKit

theorem fwd_len {N M : Nat} {r : Pt.Rul} {s t : List UInt8} (h : Pt.fwd r s = some t) (hr : Pt.szs N r.right) (hs : s.length ≤ M) : t.length ≤ 13 * (N + M + 1) + 2 := by
  obtain ⟨_, C, h1, h2⟩ := Pt.fwd_some.1 h
  have hms := match_sizes h1
  obtain ⟨f1, f2⟩ := Pt.fill_match h2
  obtain ⟨c1, c2, _, _⟩ := Pt.capsOk_iff.1 f1
  have hk : Pt.capsOk r.right C = true := by
    cases hk : Pt.capsOk r.right C with
    | true => rfl
    | false =>
      rw [Pt.fill_err, if_pos c1, hk] at f1
      simp at f1
  rw [← f2, Pt.fill_text c1 hk]
  have h12 := (Pt.check_ok.1 c1).2
  have hcs : ∀ x ∈ C, x.length ≤ M := fun x hx => Nat.le_trans (hms x hx) hs
  have hl := lib_join_len (N + M) (Pt.fillsOf r.right.parts C ++ C.drop (Pt.stars r.right.parts)) (fun x hx => by
    rcases List.mem_append.1 hx with h | h
    · exact Pt.fillsOf_sizes hr hcs x h
    · have := hcs x (List.mem_of_mem_drop h); omega)
  have hn : (Pt.fillsOf r.right.parts C ++ C.drop (Pt.stars r.right.parts)).length ≤ 13 := by
    rw [List.length_append, Pt.fillsOf_len, List.length_drop, c2]
    unfold Pt.wilds
    split <;> omega
  have hmul : (Pt.fillsOf r.right.parts C ++ C.drop (Pt.stars r.right.parts)).length * (N + M + 1) ≤ 13 * (N + M + 1) := Nat.mul_le_mul_right _ hn
  unfold Pm.join
  simp only [List.length_cons]
  omega
end Go.Proofs.YtembmegllpkmfaaGreatDoor
