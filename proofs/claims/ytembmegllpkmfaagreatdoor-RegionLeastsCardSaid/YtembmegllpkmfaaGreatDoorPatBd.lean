/- Words for PatternMeets: the two copies that it makes first. Words for slices of bindings (structs of a slice of strings and a bool) of the call's own, and append onto them. The contract of the program's Bind. -/
import Derived.Test.YtembmegllpkmfaaGreatDoorPatHeld2
import Derived.Test.YtembmegllpkmfaaGreatDoorPatFnC
import Derived.Test.YtembmegllpkmfaaGreatDoorPatGoD
import Derived.Test.YtembmegllpkmfaaGreatDoorPatFnA
import Derived.Test.YtembmegllpkmfaaGreatDoorPathOwnAll
import Derived.Maps.AppendAt
import Derived.RegionTactic
namespace Go.Proofs.YtembmegllpkmfaaGreatDoor
open Go.RowKit

/-- Two copies in two new boxes. -/
structure Copies (w wx : World) (pv qv : Value) (g h : Nat) (A0 A1 A B : Option Addr) (xs ys : List ByteArray) (c0 c1 c d : Nat) (b f : Bool) : Prop where
  pv : pv = .pointer (some ⟨g, 0, none⟩)
  qv : qv = .pointer (some ⟨h, 0, none⟩)
  e0 : wx.cell? ⟨g, 0, none⟩ = some (.slice A xs.length c)
  e1 : wx.cell? ⟨g, 1, none⟩ = some (.bool b)
  e2 : wx.cell? ⟨h, 0, none⟩ = some (.slice B ys.length d)
  e3 : wx.cell? ⟨h, 1, none⟩ = some (.bool f)
  hg : g < wx.heap.size
  hh : h < wx.heap.size
  pa : PatR wx A xs c b ⟨bs xs, b⟩
  pb : PatR wx B ys d f ⟨bs ys, f⟩
  bx : In2 w (.slice A0 xs.length c0) (.bool b) (.slice A1 ys.length c1) (.bool f) 24 wx

abbrev zeroPat : Obj := .cells #[.slice none 0 0, .bool false] 24
/-- A box that holds the zero pattern. -/
structure ZBox (w : World) (g : Nat) : Prop where
  c0 : w.cell? ⟨g, 0, none⟩ = some (.slice none 0 0)
  c1 : w.cell? ⟨g, 1, none⟩ = some (.bool false)
  f0 : w.frozen? ⟨g, 0, none⟩ = false
  f1 : w.frozen? ⟨g, 1, none⟩ = false
  lt : g < w.heap.size
theorem ZBox.next {w w' : World} {g : Nat} (h : ZBox w g) (hb : Below w.heap.size w w') : ZBox w' g :=
  ⟨(hb.cell (p := ⟨g, 0, none⟩) h.lt).trans h.c0, (hb.cell (p := ⟨g, 1, none⟩) h.lt).trans h.c1, (hb.frozen (p := ⟨g, 0, none⟩) h.lt).trans h.f0, (hb.frozen (p := ⟨g, 1, none⟩) h.lt).trans h.f1, Nat.lt_of_lt_of_le h.lt hb.size⟩
theorem ZBox.nextA {w w' : World} {g : Nat} (h : ZBox w g) (hb : Below (w.alloc zeroPat).heap.size (w.alloc zeroPat) w') : ZBox w' g :=
  h.next (((Below.refl _ _).alloc (Nat.le_refl _) _).trans (hb.mono (by simp)))
theorem ZBox.one {w w' : World} (hb : Below (w.alloc zeroPat).heap.size (w.alloc zeroPat) w') : ZBox w' w.heap.size := by
  obtain ⟨a, b⟩ := box_cells hb
  exact ⟨a, b, box_free hb 0, box_free hb 1, by have := hb.size; simp at this; omega⟩
theorem ZBox.two {w w' : World} (hb : Below ((w.alloc zeroPat).alloc zeroPat).heap.size ((w.alloc zeroPat).alloc zeroPat) w') : ZBox w' w.heap.size ∧ ZBox w' (w.heap.size + 1) := by
  have h1 : Below (w.alloc zeroPat).heap.size (w.alloc zeroPat) w' := ((Below.refl _ _).alloc (Nat.le_refl _) _).trans (hb.mono (by simp))
  have h2 := ZBox.one hb
  rw [show (w.alloc zeroPat).heap.size = w.heap.size + 1 by simp] at h2
  exact ⟨ZBox.one h1, h2⟩
theorem ZBox.oneD {w w' : World} (hb : Below (w.alloc zeroPat).drew.heap.size (w.alloc zeroPat).drew w') : ZBox w' w.heap.size := ZBox.one ((below_drew (Below.refl _ _)).trans hb)
theorem ZBox.twoD {w w' : World} (hb : Below ((w.alloc zeroPat).alloc zeroPat).drew.heap.size ((w.alloc zeroPat).alloc zeroPat).drew w') : ZBox w' w.heap.size ∧ ZBox w' (w.heap.size + 1) := ZBox.two ((below_drew (Below.refl _ _)).trans hb)
theorem PatR.allocd {w : World} {A : Option Addr} {xs : List ByteArray} {c : Nat} {b : Bool} {p : Pt.Pat} (h : PatR w A xs c b p) (o : Obj) : PatR (w.alloc o) A xs c b p := h.keep ((Below.refl _ _).alloc (Nat.le_refl _) _)
theorem PatR.stored {w : World} {A : Option Addr} {xs : List ByteArray} {c : Nat} {b : Bool} {p : Pt.Pat} (h : PatR w A xs c b p) (a : Addr) (u v : Value) (hv : w.cell? a = some v) (hne : ∀ s, v ≠ .string s) : PatR (w.setCell a u) A xs c b p :=
  ⟨(h.rd.store a u v hv hne).more (by simp [World.setCell]), h.parts, h.rest, h.le, h.cm, h.nil, h.sz⟩
theorem PatR.stS {w : World} {A : Option Addr} {xs : List ByteArray} {c : Nat} {b : Bool} {p : Pt.Pat} (h : PatR w A xs c b p) (g : Nat) (u : Value) (hv : w.cell? ⟨g, 0, none⟩ = some (.slice none 0 0)) : PatR (w.setCell ⟨g, 0, none⟩ u) A xs c b p := h.stored _ u _ hv (fun _ h => by cases h)
theorem PatR.stB {w : World} {A : Option Addr} {xs : List ByteArray} {c : Nat} {b : Bool} {p : Pt.Pat} (h : PatR w A xs c b p) (g : Nat) (u : Value) (hv : w.cell? ⟨g, 1, none⟩ = some (.bool false)) : PatR (w.setCell ⟨g, 1, none⟩ u) A xs c b p := h.stored _ u _ hv (fun _ h => by cases h)
theorem In2.allocd {w w' : World} {v0 v1 u0 u1 : Value} {t : TypeId} (h : In2 w v0 v1 u0 u1 t w') (o : Obj) : In2 w v0 v1 u0 u1 t (w'.alloc o) := h.next ((Below.refl _ _).alloc (Nat.le_refl _) _)
theorem In2.stored {w w' : World} {v0 v1 u0 u1 : Value} {t : TypeId} (h : In2 w v0 v1 u0 u1 t w') (p : Addr) (hp : ((w.alloc (.cells #[v0, v1] t)).alloc (.cells #[u0, u1] t)).heap.size ≤ p.block) (u : Value) : In2 w v0 v1 u0 u1 t (w'.setCell p u) := ⟨h.below.setCell hp u⟩
theorem In2.st {w w' : World} {v0 v1 u0 u1 : Value} {t : TypeId} (h : In2 w v0 v1 u0 u1 t w') (g k : Nat) (hg : w.heap.size + 1 + 1 ≤ g) (u : Value) : In2 w v0 v1 u0 u1 t (w'.setCell ⟨g, k, none⟩ u) := h.stored ⟨g, k, none⟩ (by simpa using hg) u
theorem In2.size {w w' : World} {v0 v1 u0 u1 : Value} {t : TypeId} (h : In2 w v0 v1 u0 u1 t w') : w.heap.size + 1 + 1 ≤ w'.heap.size := by have := h.below.size; simp at this; omega
end Go.Proofs.YtembmegllpkmfaaGreatDoor

namespace Go.Proofs.YtembmegllpkmfaaGreatDoor
open Go.RowKit

/-- A binding as it lies in memory. -/
structure BindV where
  A : Option Addr
  xs : List ByteArray
  c : Nat
  b : Bool
def BindV.pat (v : BindV) : Pt.Pat := ⟨bs v.xs, v.b⟩
def bcells (l : List BindV) : List Value := l.flatMap fun v => [.slice v.A v.xs.length v.c, .bool v.b]
theorem bcells_length : ∀ l : List BindV, (bcells l).length = l.length * 2
  | [] => rfl
  | v :: l => by
    have := bcells_length l
    simp only [bcells, List.flatMap_cons, List.length_append, List.length_cons, List.length_nil] at this ⊢
    omega
theorem bcells_append (l m : List BindV) : bcells (l ++ m) = bcells l ++ bcells m := by simp [bcells]
theorem bcells_get : ∀ (l : List BindV) (k : Nat) (h : k < l.length), (bcells l)[2 * k]? = some (.slice l[k].A l[k].xs.length l[k].c) ∧ (bcells l)[2 * k + 1]? = some (.bool l[k].b)
  | [], _, h => by simp at h
  | v :: l, 0, _ => by simp [bcells]
  | v :: l, k + 1, h => by
    have ih := bcells_get l k (by simpa using h)
    have e : bcells (v :: l) = [.slice v.A v.xs.length v.c, .bool v.b] ++ bcells l := by simp [bcells]
    rw [e]
    refine ⟨?_, ?_⟩
    · rw [List.getElem?_append_right (by simp; omega)]
      simp only [List.length_cons, List.length_nil, List.getElem_cons_succ]
      rw [show 2 * (k + 1) - (0 + 1 + 1) = 2 * k by omega]
      exact ih.1
    · rw [List.getElem?_append_right (by simp; omega)]
      simp only [List.length_cons, List.length_nil, List.getElem_cons_succ]
      rw [show 2 * (k + 1) + 1 - (0 + 1 + 1) = 2 * k + 1 by omega]
      exact ih.2
/-- A slice of the call's own that holds these bindings, from block 'base' on; their parts lie elsewhere. -/
structure OwnB (w : World) (base : Nat) (v : Value) (l : List BindV) : Prop where
  row : w.ownsRow base 170 2 v l.length (bcells l)
  parts : ∀ x ∈ l, PatR w x.A x.xs x.c x.b x.pat
  apart : ∀ x ∈ l, ∀ a, x.A = some a → v.ownBlock ≠ some a.block ∧ a.block < w.heap.size
theorem OwnB.empty (w : World) (base : Nat) : OwnB w base (.slice none 0 0) [] := ⟨World.ownsRow_nil w base _ 2, fun x h => (by cases h), fun x h => (by cases h)⟩
theorem bindInfo : (Tryz.prog.info? 170).map (fun i => (i.zero, i.size, i.bytes)) = some (some (.agg #[.slice none 0 0, .bool false]), 2, 32) := by kernel_rfl
theorem bindInfoParts : ∃ i, Tryz.prog.info? 170 = some i ∧ i.zero = some (.agg #[.slice none 0 0, .bool false]) ∧ i.size = 2 ∧ i.bytes = 32 := by
  have hi := bindInfo
  cases hx : Tryz.prog.info? 170 with
  | none => rw [hx] at hi; simp at hi
  | some i =>
    rw [hx] at hi
    simp only [Option.map_some, Option.some.injEq, Prod.mk.injEq] at hi
    exact ⟨i, rfl, hi.1, hi.2.1, hi.2.2⟩
theorem OwnB.below {w w' : World} {base : Nat} {v : Value} {l : List BindV} (h : OwnB w base v l) (hb : Below w.heap.size w w') : OwnB w' base v l := by
  refine ⟨⟨h.row.1, ?_⟩, fun x hx => (h.parts x hx).keep hb, fun x hx a ha => ⟨(h.apart x hx a ha).1, Nat.lt_of_lt_of_le (h.apart x hx a ha).2 hb.size⟩⟩
  rcases h.row.2 with hv | ⟨g, cap, cur, hv, hbg, hg, r⟩
  · exact .inl hv
  · exact .inr ⟨g, cap, cur, hv, hbg, by rw [hb.block g (Array.getElem?_eq_some_iff.1 hg).1]; exact hg, r⟩
/-- What grows one block keeps what lies in the others. -/
theorem PatR.grown {w w' : World} {k : Option Nat} {A : Option Addr} {xs : List ByteArray} {c : Nat} {b : Bool} {p : Pt.Pat} (h : PatR w A xs c b p) (hg : w.grownBy w' k) (ha : ∀ a, A = some a → k ≠ some a.block) : PatR w' A xs c b p := by
  refine ⟨?_, h.parts, h.rest, h.le, h.cm, h.nil, h.sz⟩
  rcases h.rd with h0 | ⟨g, o, hA, hlt, hc⟩
  · exact .inl h0
  · refine .inr ⟨g, o, hA, Nat.lt_of_lt_of_le hlt hg.size, fun j hj => ?_⟩
    rw [← hc j hj]
    have hb := hg.block g hlt (fun e => ha _ hA e.symm)
    unfold World.cell?
    simp only [hb]

section
variable {w : World} {ops : Array Oper} {rest : List Oper} {o : Oper} {a : Act} {Q : Exit → Act → World → Prop}
/-- append of one binding onto a slice of the call's own. -/
theorem wpList_append_bd (hgd : o.guard = none) (s x : Operand)
    (ho : o.op = .call { callee := .builtin .append, args := #[s, x], argTypes := #[145, 145] })
    (base : Nat) (v : Value) (l : List BindV) (hs : a.eval s = v) (hown : OwnB w base v l)
    (ad : Addr) (y : BindV) (c : Nat) (hx : a.eval x = .slice (some ad) 1 c) (h0 : w.cell? (ad.add 0) = some (.slice y.A y.xs.length y.c)) (h1 : w.cell? (ad.add 1) = some (.bool y.b))
    (hy : PatR w y.A y.xs y.c y.b y.pat) (hya : ∀ a, y.A = some a → v.ownBlock ≠ some a.block ∧ a.block < w.heap.size)
    (hN : l.length ≤ 1000000) (hbase : base ≤ w.heap.size)
    (h : ∀ v' w', OwnB w' base v' (l ++ [y]) → Below base w w' → w.grownBy w' v.ownBlock → wpList Tryz.prog ops Q rest (a.put o.dst v') w') : wpList Tryz.prog ops Q (o :: rest) a w := by
  obtain ⟨i, hi, hz, hz1, hz2⟩ := bindInfoParts
  refine wpList_append_own_at w hgd s x _ ho base 170 i _ 2 32 Tryz.underlying145 hi hz hz1 hz2 rfl (by omega) v l.length (bcells l) hs hown.row ad 1 c [.slice y.A y.xs.length y.c, .bool y.b] hx rfl (fun j u hu => ?_) ?_
    (by simp only [maxLen]; omega) (by omega) hbase ?_
  · match j, hu with
    | 0, hu => simp at hu; rw [← hu]; exact h0
    | 1, hu => simp at hu; rw [← hu]; exact h1
  · intro u hu
    simp only [List.mem_cons, List.not_mem_nil, or_false] at hu
    rcases hu with rfl | rfl <;> rfl
  · intro v' w' hown' hg _ hat
    have hap : ∀ z ∈ l ++ [y], ∀ a, z.A = some a → v.ownBlock ≠ some a.block ∧ a.block < w.heap.size := fun z hz a ha => by
      rcases List.mem_append.1 hz with h | h
      · exact hown.apart z h a ha
      · rw [List.mem_singleton.1 h] at ha
        exact hya a ha
    refine h v' w' ⟨?_, fun z hz => ?_, fun z hz a ha => ⟨?_, Nat.lt_of_lt_of_le (hap z hz a ha).2 hg.size⟩⟩ ⟨hg.os, hg.tape, hg.output, hg.size, fun k hk => hg.block k (by omega) (fun e2 => ?_)⟩ hg
    · rw [List.length_append, bcells_append]
      exact hown'
    · have hp : PatR w z.A z.xs z.c z.b z.pat := by
        rcases List.mem_append.1 hz with h | h
        · exact hown.parts z h
        · rw [List.mem_singleton.1 h]
          exact hy
      exact hp.grown hg fun a ha => (hap z hz a ha).1
    · intro e
      rcases hat with e2 | e2
      · exact (hap z hz a ha).1 (e2 ▸ e)
      · rw [e2] at e
        injection e with e
        have := (hap z hz a ha).2
        omega
    · have := (World.ownsRow.lt hown.row k e2.symm).1
      omega
end
/-- The same at a step of a region that draws its order. -/
theorem step_append_bd {w : World} {ops : Array Oper} {o : Oper} {a : Act} {K : Act → World → Prop} {Q : Exit → Act → World → Prop} {E : Prop} (hgd : o.guard = none) (s x : Operand)
    (ho : o.op = .call { callee := .builtin .append, args := #[s, x], argTypes := #[145, 145] })
    (base : Nat) (v : Value) (l : List BindV) (hs : a.eval s = v) (hown : OwnB w base v l)
    (ad : Addr) (y : BindV) (c : Nat) (hx : a.eval x = .slice (some ad) 1 c) (h0 : w.cell? (ad.add 0) = some (.slice y.A y.xs.length y.c)) (h1 : w.cell? (ad.add 1) = some (.bool y.b))
    (hy : PatR w y.A y.xs y.c y.b y.pat) (hya : ∀ a, y.A = some a → v.ownBlock ≠ some a.block ∧ a.block < w.heap.size)
    (hN : l.length ≤ 1000000) (hbase : base ≤ w.heap.size)
    (h : ∀ v' w', OwnB w' base v' (l ++ [y]) → Below base w w' → K (a.put o.dst v') w') : if Region.wanted o (yielded ops a.tmps) = true then Oper.wp Tryz.prog o a w K Q else E := by
  have hw : Region.wanted o (yielded ops a.tmps) = true := by simp [Region.wanted, hgd]
  rw [if_pos hw]
  obtain ⟨i, hi, hz, hz1, hz2⟩ := bindInfoParts
  obtain ⟨v', w', hr, hown', hg, _, hat⟩ := run_append_own_at (P := Tryz.prog) w base 145 o.type 170 i _ 2 32 Tryz.underlying145 hi hz hz1 hz2 rfl (by omega) v l.length (bcells l) hown.row ad 1 c [.slice y.A y.xs.length y.c, .bool y.b] rfl (fun j u hu => by
      match j, hu with
      | 0, hu => simp at hu; rw [← hu]; exact h0
      | 1, hu => simp at hu; rw [← hu]; exact h1) (fun u hu => by
      simp only [List.mem_cons, List.not_mem_nil, or_false] at hu
      rcases hu with rfl | rfl <;> rfl) (by simp only [maxLen]; omega) (by omega) hbase
  unfold Oper.wp execOp
  simp only [ho, resolve, invoke, builtin, Sem.run_bind, Sem.run_pure, Result.andThen_ok, List.map_toArray, List.map_cons, List.map_nil, hs, hx, hr]
  have hap : ∀ z ∈ l ++ [y], ∀ a, z.A = some a → v.ownBlock ≠ some a.block ∧ a.block < w.heap.size := fun z hz a ha => by
    rcases List.mem_append.1 hz with h | h
    · exact hown.apart z h a ha
    · rw [List.mem_singleton.1 h] at ha
      exact hya a ha
  refine h v' w' ⟨?_, fun z hz => ?_, fun z hz a ha => ⟨?_, Nat.lt_of_lt_of_le (hap z hz a ha).2 hg.size⟩⟩ ⟨hg.os, hg.tape, hg.output, hg.size, fun k hk => hg.block k (by omega) (fun e2 => ?_)⟩
  · rw [List.length_append, bcells_append]
    exact hown'
  · have hp : PatR w z.A z.xs z.c z.b z.pat := by
      rcases List.mem_append.1 hz with h | h
      · exact hown.parts z h
      · rw [List.mem_singleton.1 h]
        exact hy
    exact hp.grown hg fun a ha => (hap z hz a ha).1
  · intro e
    rcases hat with e2 | e2
    · exact (hap z hz a ha).1 (e2 ▸ e)
    · rw [e2] at e
      injection e with e
      have := (hap z hz a ha).2
      omega
  · have := (World.ownsRow.lt hown.row k e2.symm).1
    omega
end Go.Proofs.YtembmegllpkmfaaGreatDoor

namespace Go.Proofs.YtembmegllpkmfaaGreatDoor
open Go.RowKit

/-- What Bind hands back. -/
def GivesBd (w : World) (o : Option (List Pt.Pat)) (e : Ending) (w' : World) : Prop :=
  match o with
  | none => e = .returned (.tuple #[.slice none 0 0, .bool false]) ∧ Below w.heap.size w w'
  | some l => ∃ v bl, e = .returned (.tuple #[v, .bool true]) ∧ OwnB w' w.heap.size v bl ∧ bl.map BindV.pat = l ∧ Below w.heap.size w w'
theorem OwnB.more {w : World} {base base' : Nat} {v : Value} {l : List BindV} (h : OwnB w base v l) (hB : base' ≤ base) : OwnB w base' v l := by
  refine ⟨⟨h.row.1, ?_⟩, h.parts, h.apart⟩
  rcases h.row.2 with hv | ⟨g, cap, cur, hv, hbg, r⟩
  · exact .inl hv
  · exact .inr ⟨g, cap, cur, hv, by omega, r⟩
theorem OwnB.form {w : World} {base : Nat} {v : Value} {l : List BindV} (h : OwnB w base v l) : ∃ A e, v = .slice A l.length e ∧ e ≤ maxLen := by
  rcases h.row.2 with ⟨hv, hn⟩ | ⟨g, cap, cur, hv, hbg, hg, hnc, hcm, r⟩
  · exact ⟨none, 0, by rw [hv, hn], Nat.zero_le _⟩
  · exact ⟨some ⟨g, 0, none⟩, cap, hv, hcm⟩
/-- slices.Clone of any slice of strings: a slice of the call's own. -/
theorem clone_all (A : Option Addr) (xs : List ByteArray) (c : Nat) (w : World) (hr : RdS w w.heap.size A xs) (h2 : xs.length ≤ 1000000) :
    Calls Tryz.prog 72 #[.slice A xs.length c] w fun e w' => ∃ C cz, e = .returned (.slice C xs.length cz) ∧ RdS w' w'.heap.size C xs ∧ xs.length ≤ cz ∧ cz ≤ maxLen ∧ (C = none → cz = 0) ∧ (∀ a, C = some a → w.heap.size ≤ a.block ∧ a.block < w'.heap.size) ∧ Below w.heap.size w w' := by
  by_cases h1 : 1 ≤ xs.length
  · refine (clone_any A xs c w hr h1 h2).mono ?_
    rintro e w' ⟨g, cap, rfl, hown, hg, hg2, hc1, hc2, hb⟩
    obtain ⟨A', c', hv, _, _, hrd, _⟩ := hown.form
    injection hv with hA _ hc
    subst hA
    refine ⟨_, cap, rfl, hrd, hc1, hc2, (fun h => by cases h), fun a ha => ?_, hb⟩
    injection ha with ha
    subst ha
    exact ⟨hg, hg2⟩
  · have hx : xs = [] := List.eq_nil_of_length_eq_zero (by omega)
    subst hx
    cases A with
    | none =>
      refine (Tryz.slices_Clone_string_nil 0 c w).mono ?_
      rintro e w' ⟨rfl, rfl⟩
      exact ⟨none, 0, rfl, .inl rfl, Nat.le_refl _, Nat.zero_le _, (fun _ => rfl), (fun a h => by cases h), Below.refl _ _⟩
    | some a =>
      refine (Tryz.slices_Clone_string_zero a c w).mono ?_
      rintro e w' ⟨v, rfl, hown, hnn, hb⟩
      rcases hown.2 with ⟨hv, _⟩ | ⟨g2, cap, cur, hv, hbg, hg2, hnc, hcm, _, _⟩
      · exact absurd hv hnn
      · subst hv
        refine ⟨_, cap, rfl, .inl rfl, Nat.zero_le _, hcm, (fun h => by cases h), fun a ha => ?_, hb⟩
        injection ha with ha
        subst ha
        exact ⟨hbg, (Array.getElem?_eq_some_iff.1 hg2).1⟩
theorem S2.alloc {w w' : World} {v0 v1 u0 u1 : Value} {t : TypeId} (h : S2 w v0 v1 u0 u1 t w') (o : Obj) : S2 w v0 v1 u0 u1 t (w'.alloc o) := S2.nxt ((Below.refl _ _).alloc (Nat.le_refl _) _) h
theorem S2.nxtM {w w1 w' : World} {v0 v1 u0 u1 : Value} {t : TypeId} {m : Nat} (hb : Below m w1 w') (hm : ((w.alloc (.cells #[v0, v1] t)).alloc (.cells #[u0, u1] t)).heap.size ≤ m) (h : S2 w v0 v1 u0 u1 t w1) : S2 w v0 v1 u0 u1 t w' := In2.held ⟨h.2.2.2.2.below.trans (hb.mono hm)⟩
theorem In2.nextM {w w1 w' : World} {v0 v1 u0 u1 : Value} {t : TypeId} {m : Nat} (hb : Below m w1 w') (hm : ((w.alloc (.cells #[v0, v1] t)).alloc (.cells #[u0, u1] t)).heap.size ≤ m) (h : In2 w v0 v1 u0 u1 t w1) : In2 w v0 v1 u0 u1 t w' := ⟨h.below.trans (hb.mono hm)⟩
theorem bind_app {wr x w' : World} {base : Nat} {lv : Value} {bl : List BindV} {C : Option Addr} {zs : List ByteArray} {cz : Nat} {b' : Bool} (hown : OwnB wr base lv bl) (hr : base ≤ wr.heap.size) (hx : Below wr.heap.size wr x) (hb : Below x.heap.size x w')
    (hc1 : RdS w' w'.heap.size C zs) (hc2 : zs.length ≤ cz) (hc3 : cz ≤ maxLen) (hc4 : C = none → cz = 0) (hc5 : ∀ a, C = some a → x.heap.size ≤ a.block ∧ a.block < w'.heap.size) (hsz : ∀ y ∈ zs, y.size ≤ maxLen) (o : Obj) :
    OwnB (w'.alloc o) base lv bl ∧ PatR (w'.alloc o) C zs cz b' ⟨bs zs, b'⟩ ∧ (∀ a, C = some a → lv.ownBlock ≠ some a.block ∧ a.block < (w'.alloc o).heap.size) ∧ base ≤ (w'.alloc o).heap.size ∧ Below wr.heap.size wr (w'.alloc o) := by
  have hxb := hx.trans (hb.mono hx.size)
  have h3 : Below wr.heap.size wr (w'.alloc o) := hxb.alloc hxb.size o
  have h4 : PatR w' C zs cz b' ⟨bs zs, b'⟩ := ⟨hc1, rfl, rfl, hc2, hc3, hc4, hsz⟩
  refine ⟨hown.below h3, h4.keep ((Below.refl _ _).alloc (Nat.le_refl _) _), fun a ha => ⟨fun e => ?_, Nat.lt_of_lt_of_le (hc5 a ha).2 (by simp)⟩, Nat.le_trans hr h3.size, h3⟩
  have h5 := (World.ownsRow.lt hown.row _ e).2
  have h6 := (hc5 a ha).1
  have h7 := hx.size
  omega
theorem bind_stars (p q : Pt.Pat) : Pt.bind p q = (if Pt.check p = 0 ∧ Pt.check q = 0 then Pt.narr p q else none).map fun l => (l.map fun u => ⟨[u], false⟩) ++ if p.rest then [⟨q.parts.drop p.parts.length, q.rest⟩] else [] := by
  by_cases h : Pt.check p = 0 ∧ Pt.check q = 0
  · rw [if_pos h, Pt.bind_narr h.1 h.2]
  · rw [if_neg h]
    unfold Pt.bind
    have : Pt.within q p = false := by
      cases hw : Pt.within q p with
      | false => rfl
      | true =>
        obtain ⟨h1, h2, _⟩ := Pt.within_parts hw
        exact absurd ⟨h2, h1⟩ h
    rw [this]
    rfl
theorem narrs_sizes : ∀ {ps qs r : List (List UInt8)}, Pt.narrsOf ps qs = some r → ∀ u ∈ r, ∃ y ∈ qs, u.length ≤ y.length
  | [], _, r, h, u, hu => by
    simp only [Pt.narrsOf, Option.some.injEq] at h
    subst h
    cases hu
  | _ :: _, [], r, h, u, hu => by cases h
  | x :: ps, y :: qs, r, h, u, hu => by
    rw [Pt.narrsOf_cons] at h
    cases hn : Pt.narrO x y with
    | none => rw [hn] at h; cases h
    | some z =>
      rw [hn] at h
      simp only [Option.map_eq_some_iff] at h
      obtain ⟨r', hr', rfl⟩ := h
      have hz : z.length ≤ y.length := by
        unfold Pt.narrO at hn
        split at hn
        · split at hn
          · injection hn with hn; subst hn; simp
          · cases hn
        · split at hn
          · injection hn with hn; subst hn; simp
          · cases hn
      have hm : u = z ∨ u ∈ r' := by
        split at hu
        · exact .inr hu
        · exact List.mem_cons.1 hu
      rcases hm with rfl | h2
      · exact ⟨y, by simp, hz⟩
      · obtain ⟨y', hy', hl⟩ := narrs_sizes hr' u h2
        exact ⟨y', List.mem_cons_of_mem _ hy', hl⟩
theorem narr_bound {p q : Pt.Pat} {l : List (List UInt8)} (h : (if Pt.check p = 0 ∧ Pt.check q = 0 then Pt.narr p q else none) = some l) : l.length ≤ 12 ∧ p.parts.length ≤ q.parts.length ∧ q.parts.length ≤ 12 ∧ ∀ u ∈ l, ∃ y ∈ q.parts, u.length ≤ y.length := by
  split at h
  · rename_i hc
    have h1 := narr_len h
    have h2 := (Pt.check_ok.1 hc.1).2
    have h3 := (Pt.check_ok.1 hc.2).2
    unfold Pt.narr at h
    split at h
    · rename_i hct
      unfold Pt.counts at hct
      rw [Bool.and_eq_true, decide_eq_true_eq] at hct
      exact ⟨by omega, hct.1, h3, narrs_sizes h⟩
    · cases h
  · cases h

set_option maxHeartbeats 4000000 in
theorem bind_any (A B : Option Addr) (xs ys : List ByteArray) (c d : Nat) (b b' : Bool) (p q : Pt.Pat) (w : World) (hp : PatR w A xs c b p) (hq : PatR w B ys d b' q) :
    Calls Tryz.prog 155 #[patV A xs.length c b, patV B ys.length d b'] w (GivesBd w (Pt.bind p q)) := by
  obtain ⟨W0, hW0⟩ : ∃ W0, W0 = (w.alloc (.cells #[.slice A xs.length c, .bool b] 24)).alloc (.cells #[.slice B ys.length d, .bool b'] 24) := ⟨_, rfl⟩
  have halloc : Below w.heap.size w W0 := by rw [hW0]; exact ((Below.refl _ _).alloc (Nat.le_refl _) _).alloc (by simp) _
  have hp0 := hp.keep halloc
  have hq0 := hq.keep halloc
  have HS := Lib.hid (starsIn_any A B xs ys c d b b' p q W0 hp0 hq0)
  have hbs := bind_stars p q
  rw [hp.len, ← hp.rest, ← hq.rest, ← hq.parts] at hbs
  have HNB := Lib.hid (fun l => @narr_bound p q l)
  generalize Pt.bind p q = bd at hbs ⊢
  generalize (if Pt.check p = 0 ∧ Pt.check q = 0 then Pt.narr p q else none) = o at HS hbs HNB
  have HPL := Lib.hid hp.len
  have HQL := Lib.hid hq.len
  cases o with
  | none =>
    have hbd : bd = none := hbs
    subst hbd
    generalize xs.length = n at *
    generalize ys.length = m at *
    subst hW0
    have HAL := Lib.hid halloc
    clear hp hq hp0 hq0 halloc hbs
    go_enter Tryz.func155, Tryz.ntmps155
    go_wp2_with fail
    with_reducible refine HS.out.mono ?_
    rintro e w1 ⟨rfl, hb1⟩
    have HB1 := Lib.hid hb1
    clear hb1
    go_wp2
    go_ret2
    exact ⟨rfl, HAL.out.trans (HB1.out.mono HAL.out.size)⟩
  | some l =>
    obtain ⟨hl12, hpq, hq12, hsz⟩ := HNB.out l rfl
    have HSZ := Lib.hid (show ∀ u ∈ l, u.length ≤ maxLen from fun u hu => by
      obtain ⟨y, hy, hl⟩ := hsz u hu
      rw [← hq.parts] at hy
      obtain ⟨z, hz, rfl⟩ := List.mem_map.1 hy
      rw [← Lib.size_eq] at hl
      exact Nat.le_trans hl (hq.sz z hz))
    clear hsz
    have hbd : bd = some ((l.map fun u => ⟨[u], false⟩) ++ if b then [⟨(bs ys).drop xs.length, b'⟩] else []) := hbs
    subst hbd
    have HYS := Lib.hid hq.sz
    have HQN := Lib.hid hq.nil
    have HQ := Lib.hid (fun (w' : World) (hb : Below W0.heap.size W0 w') => hq0.keep hb)
    rw [hp.len, hq.len] at hpq
    rw [hq.len] at hq12
    have hle := hq.le
    have hdi : (d : Int) ≤ 9223372036854775807 := by have := hq.cm; unfold maxLen at this; omega
    obtain ⟨n, hn⟩ : ∃ n, n = xs.length := ⟨_, rfl⟩
    obtain ⟨m, hm⟩ : ∃ m, m = ys.length := ⟨_, rfl⟩
    rw [← hn, ← hm] at hW0 HS hpq
    rw [← hm] at hq12 hle
    rw [← hn, ← hm]
    have HN := Lib.hid hn
    have HM := Lib.hid hm
    subst hW0
    have HAL := Lib.hid halloc
    clear hp hq hp0 hq0 halloc hbs HNB hn hm
    obtain ⟨bdl, hbdl⟩ : ∃ bdl, bdl = (l.map fun u => (⟨[u], false⟩ : Pt.Pat)) ++ if b then [⟨(bs ys).drop n, b'⟩] else [] := ⟨_, rfl⟩
    rw [← hbdl]
    have HBD := Lib.hid hbdl
    clear hbdl
    go_enter Tryz.func155, Tryz.ntmps155
    go_wp2_with fail
    with_reducible refine HS.out.mono ?_
    rintro e w1 ⟨v1, zs, rfl, hown1, hbz, hb1⟩
    obtain ⟨A1, e1, rfl, hz1, hz2, hrz, _⟩ := hown1.form
    obtain ⟨k0, k1, k2, k3⟩ := box2_cells hb1
    have z1 := hb1.size
    simp only [World.alloc, Array.size_push] at z1
    have HB1 := Lib.hid hb1
    have HBZ := Lib.hid hbz
    have HRZ := Lib.hid hrz
    have hzl : zs.length ≤ 12 := by rw [← bs_length, hbz]; exact hl12
    obtain ⟨t, ht⟩ : ∃ t, t = zs.length := ⟨_, rfl⟩
    rw [← ht] at hz1 hzl ⊢
    have HT := Lib.hid ht
    have he1 : (e1 : Int) ≤ 9223372036854775807 := by unfold maxLen at hz2; omega
    clear hown1 hb1 hbz hrz ht hz2
    go_wp2
    go_loopw [8, 21] (fun lv iv wr => ∃ (k : Nat) (bl : List BindV), k ≤ t ∧ iv = .int .i64 k ∧ OwnB wr w1.heap.size lv bl ∧ bl.length = k ∧ bl.map BindV.pat = (l.take k).map (fun u => (⟨[u], false⟩ : Pt.Pat)) ∧ Below w1.heap.size w1 wr) (fun _ iv _ => t - (intOf iv).toNat)
    case atStart => exact ⟨0, [], by omega, rfl, OwnB.empty _ _, rfl, by simp, Below.refl _ _⟩
    case round =>
      obtain ⟨k, bl, hkt, rfl, hown, hbl, hmap, hbr⟩ := hrel
      have j1 := (hbr.cell (p := ⟨w.heap.size, 1, none⟩) (by show w.heap.size < w1.heap.size; omega)).trans k1
      have hzr := hbr.size
      obtain ⟨AL, eL, rfl, heL⟩ := hown.form
      rw [hbl] at hown ⊢
      have heLi : (eL : Int) ≤ 9223372036854775807 := by unfold maxLen at heL; omega
      clear heL
      have HOWN := Lib.hid hown
      have HBR := Lib.hid hbr
      have HMAP := Lib.hid hmap
      have HBL := Lib.hid hbl
      clear hown hbr hmap hbl
      by_cases hlt : k < t
      · have hlz : k < zs.length := by rw [← HT.out]; exact hlt
        obtain ⟨g, og, rfl, hg, hcell⟩ := HRZ.out.cells (by omega)
        have e2 := (HBR.out.cell (p := ⟨g, og + k, none⟩) hg).trans (hcell k hlz)
        have hlk : l[k]? = some zs[k].data.toList := by rw [← HBZ.out, List.getElem?_eq_getElem (by rw [bs_length]; exact hlz), bs_get zs k hlz]
        have hx : zs[k].size ≤ maxLen := by rw [Lib.size_eq]; exact HSZ.out _ (List.mem_of_getElem? hlk)
        have HLK := Lib.hid hlk
        clear hcell hlk
        generalize zs[k] = x at *
        have hpr : PatR (wr.alloc (.cells #[.string x] 9)) (some ⟨wr.heap.size, 0, none⟩) [x] 1 false ⟨bs [x], false⟩ := ⟨new_one wr x _, rfl, rfl, by simp, by decide, (fun h => by cases h), fun y hy => by rw [List.mem_singleton.1 hy]; exact hx⟩
        have HPR := Lib.hid (fun o : Obj => hpr.keep ((Below.refl _ _).alloc (Nat.le_refl _) o))
        have HYA := Lib.hid (show ∀ v, OwnB wr w1.heap.size v bl → ∀ a, (some ⟨wr.heap.size, 0, none⟩ : Option Addr) = some a → Value.ownBlock v ≠ some a.block ∧ a.block < wr.heap.size + 1 + 1 from fun v hv a ha => by
          injection ha with ha
          subst ha
          exact ⟨fun h => absurd (World.ownsRow.lt hv.row _ h).2 (Nat.lt_irrefl _), by show wr.heap.size < _; omega⟩)
        clear hx hpr
        set_option maxRecDepth 100000 in
        go_wp2_with (refine wpList_append_bd rfl _ _ rfl w1.heap.size _ bl rfl ((HOWN.out.below ((Below.refl _ _).alloc (Nat.le_refl _) _)).below ((Below.refl _ _).alloc (Nat.le_refl _) _)) ⟨wr.heap.size + 1, 0, none⟩ ⟨some ⟨wr.heap.size, 0, none⟩, [x], 1, false⟩ 1 rfl (by rw [add_plain]; simp [go_sem]) (by rw [add_plain]; simp [go_sem]) (HPR.out _) (fun a ha => ⟨(HYA.out _ HOWN.out a ha).1, by have hyy := (HYA.out _ HOWN.out a ha).2; simp only [World.alloc, Array.size_push]; exact hyy⟩) (by have := HBL.out; omega) (by simp; omega) ?_; intro v' w' hown' hb' hg'
                     have HO2 := Lib.hid hown'
                     have HB3 := Lib.hid (show Below w1.heap.size wr w' from (((Below.refl _ _).alloc hzr _).alloc (by simp; omega) _).trans hb')
                     clear hown' hb' hg')
        go_wp2
        go_roundw
        case rel =>
          refine ⟨k + 1, bl ++ [⟨some ⟨wr.heap.size, 0, none⟩, [x], 1, false⟩], by omega, by go_num, HO2.out, by rw [List.length_append, HBL.out]; rfl, ?_, HBR.out.trans HB3.out⟩
          rw [List.map_append, HMAP.out, List.take_add_one, HLK.out, List.map_append]
          rfl
        case measure => simp [intOf]; omega
      · obtain rfl : k = t := by omega
        have hlt' : l.take k = l := List.take_of_length_le (by rw [← HBZ.out, bs_length, ← HT.out]; exact Nat.le_refl _)
        have hmap2 := HMAP.out
        rw [hlt'] at hmap2
        have HMAP2 := Lib.hid hmap2
        clear hlt' hmap2
        have HBW := Lib.hid (HAL.out.trans ((HB1.out.trans (HBR.out.mono HB1.out.size)).mono HAL.out.size))
        cases b with
        | false =>
          have hbd : bdl = l.map fun u => (⟨[u], false⟩ : Pt.Pat) := by rw [HBD.out]; simp
          subst hbd
          go_wp2
          go_ret2
          exact ⟨_, bl, rfl, HOWN.out.more (by omega), HMAP2.out, HBW.out⟩
        | true =>
          have hin : S2 w (.slice A n c) (.bool true) (.slice B m d) (.bool b') 24 wr := In2.held ⟨HB1.out.trans (HBR.out.mono HB1.out.size)⟩
          have HW1 := Lib.hid (show ((w.alloc (.cells #[.slice A n c, .bool true] 24)).alloc (.cells #[.slice B m d, .bool b'] 24)).heap.size ≤ w1.heap.size from HB1.out.size)
          have HBM := Lib.hid (show bl.length ≤ 1000000 from by have := HBL.out; omega)
          have HYZ := Lib.hid (show ∀ y ∈ ys.drop n, y.size ≤ maxLen from fun y hy => HYS.out y (List.mem_of_mem_drop hy))
          have HQr := Lib.hid (fun (w' : World) (h : S2 w (.slice A n c) (.bool true) (.slice B m d) (.bool b') 24 w') => (HQ.out w' h.2.2.2.2.below).rd)
          have i0 : (0 : Int) ≤ (n : Int) := Int.natCast_nonneg _
          have i1 : (n : Int) ≤ (m : Int) := by omega
          have i2 : (m : Int) ≤ (d : Int) := by omega
          have hyd : (ys.drop n).length = m - n := by rw [List.length_drop, ← HM.out]
          by_cases hdn : d = n
          · have hmn : m = n := by omega
            have hyd0 : (ys.drop n).length = 0 := by rw [hyd]; omega
            have HCL := Lib.hid (fun (w' : World) (A' : Option Addr) => by
              have hcl := clone_all A' (ys.drop n) 0 w' (.inl (List.eq_nil_of_length_eq_zero hyd0)) (by omega)
              rw [hyd0] at hcl
              exact hcl)
            have HYD := Lib.hid hyd0
            clear hyd hyd0
            subst hmn
            subst hdn
            go_wp2_with fail
            set_option maxRecDepth 100000 in
            go_region_held3 (fun w' => w'.cell? ⟨w.heap.size, 0, none⟩ = some (.slice A d c) ∧ w'.cell? ⟨w.heap.size, 1, none⟩ = some (.bool true) ∧ w'.cell? ⟨w.heap.size + 1, 0, none⟩ = some (.slice B d d) ∧ w'.cell? ⟨w.heap.size + 1, 1, none⟩ = some (.bool b') ∧ In2 w (.slice A d c) (.bool true) (.slice B d d) (.bool b') 24 w')
              ((refine In2.held ?_; repeat (first | assumption | with_reducible exact hin.2.2.2.2 | with_reducible refine In2.nextM hb9 HW1.out ?_ | with_reducible refine In2.next ?_ hb | with_reducible refine In2.allocd ?_ _ | with_reducible refine In2.drew ?_)))
              (first
                | (go_at_call 72; refine (HCL.out _ _).mono ?_; rintro e w' ⟨C, cz, rfl, hc1, hc2, hc3, hc4, hc5, hb⟩)
                | (refine step_append_bd rfl _ _ rfl w1.heap.size (.slice AL k eL) bl rfl (bind_app (b' := b') HOWN.out hzr (below_drew (Below.refl _ _)) hb hc1 (Nat.le_trans (Nat.le_of_eq HYD.out) hc2) hc3 hc4 hc5 HYZ.out _).1 ⟨w'.heap.size, 0, none⟩ ⟨C, ys.drop d, cz, b'⟩ 1 rfl (by show _ = some (Value.slice C (ys.drop d).length cz); rw [HYD.out, add_plain]; simp [go_sem]) (by rw [add_plain]; simp [go_sem]) (bind_app (b' := b') HOWN.out hzr (below_drew (Below.refl _ _)) hb hc1 (Nat.le_trans (Nat.le_of_eq HYD.out) hc2) hc3 hc4 hc5 HYZ.out _).2.1 (bind_app (b' := b') HOWN.out hzr (below_drew (Below.refl _ _)) hb hc1 (Nat.le_trans (Nat.le_of_eq HYD.out) hc2) hc3 hc4 hc5 HYZ.out _).2.2.1 HBM.out (bind_app (b' := b') HOWN.out hzr (below_drew (Below.refl _ _)) hb hc1 (Nat.le_trans (Nat.le_of_eq HYD.out) hc2) hc3 hc4 hc5 HYZ.out _).2.2.2.1 ?_; intro v9 w9 hown9 hb9))
            go_wp2
            go_ret2
            refine ⟨v9, bl ++ [⟨C, ys.drop d, cz, b'⟩], rfl, hown9.more (by omega), ?_, (HBW.out.trans ((bind_app (b' := b') HOWN.out hzr (below_drew (Below.refl _ _)) hb hc1 (Nat.le_trans (Nat.le_of_eq HYD.out) hc2) hc3 hc4 hc5 HYZ.out _).2.2.2.2.mono HBW.out.size)).trans (hb9.mono (by omega))⟩
            rw [HBD.out, List.map_append, HMAP2.out]
            show _ ++ ([⟨bs (ys.drop d), b'⟩] : List Pt.Pat) = _
            rw [bs_dropN]
            rfl
          · cases B with
            | none => exact absurd (HQN.out rfl) (by omega)
            | some ab =>
                have HCL := Lib.hid (fun (w' : World) (h : S2 w (.slice A n c) (.bool true) (.slice (some ab) m d) (.bool b') 24 w') => by
                  have hq := HQr.out w' h
                  have hr2 : RdS w' w'.heap.size (some (ab.add n)) (ys.drop n) := by
                    by_cases he : n < m
                    · obtain ⟨g, o, hA, hg, hc⟩ := hq.cells (by rw [← HM.out]; omega)
                      injection hA with hA
                      subst hA
                      rw [add_plain]
                      exact hq.drop n
                    · exact .inl (List.eq_nil_of_length_eq_zero (by rw [hyd]; omega))
                  have hcl := clone_all (some (ab.add n)) (ys.drop n) (d - n) w' hr2 (by rw [hyd]; omega)
                  rw [hyd] at hcl
                  exact hcl)
                have HYD := Lib.hid hyd
                clear hyd
                go_wp2_with fail
                set_option maxRecDepth 100000 in
                go_region_held3 (fun w' => w'.cell? ⟨w.heap.size, 0, none⟩ = some (.slice A n c) ∧ w'.cell? ⟨w.heap.size, 1, none⟩ = some (.bool true) ∧ w'.cell? ⟨w.heap.size + 1, 0, none⟩ = some (.slice (some ab) m d) ∧ w'.cell? ⟨w.heap.size + 1, 1, none⟩ = some (.bool b') ∧ In2 w (.slice A n c) (.bool true) (.slice (some ab) m d) (.bool b') 24 w')
                  ((refine In2.held ?_; repeat (first | assumption | with_reducible exact hin.2.2.2.2 | with_reducible refine In2.nextM hb9 HW1.out ?_ | with_reducible refine In2.next ?_ hb | with_reducible refine In2.allocd ?_ _ | with_reducible refine In2.drew ?_)))
                  (first
                    | (go_at_call 72; refine (HCL.out _ (by assumption)).mono ?_; rintro e w' ⟨C, cz, rfl, hc1, hc2, hc3, hc4, hc5, hb⟩)
                    | (refine step_append_bd rfl _ _ rfl w1.heap.size (.slice AL k eL) bl rfl (bind_app (b' := b') HOWN.out hzr (below_drew (Below.refl _ _)) hb hc1 (Nat.le_trans (Nat.le_of_eq HYD.out) hc2) hc3 hc4 hc5 HYZ.out _).1 ⟨w'.heap.size, 0, none⟩ ⟨C, ys.drop n, cz, b'⟩ 1 rfl (by show _ = some (Value.slice C (ys.drop n).length cz); rw [HYD.out, add_plain]; simp [go_sem]) (by rw [add_plain]; simp [go_sem]) (bind_app (b' := b') HOWN.out hzr (below_drew (Below.refl _ _)) hb hc1 (Nat.le_trans (Nat.le_of_eq HYD.out) hc2) hc3 hc4 hc5 HYZ.out _).2.1 (bind_app (b' := b') HOWN.out hzr (below_drew (Below.refl _ _)) hb hc1 (Nat.le_trans (Nat.le_of_eq HYD.out) hc2) hc3 hc4 hc5 HYZ.out _).2.2.1 HBM.out (bind_app (b' := b') HOWN.out hzr (below_drew (Below.refl _ _)) hb hc1 (Nat.le_trans (Nat.le_of_eq HYD.out) hc2) hc3 hc4 hc5 HYZ.out _).2.2.2.1 ?_; intro v9 w9 hown9 hb9))
                go_wp2
                go_ret2
                refine ⟨v9, bl ++ [⟨C, ys.drop n, cz, b'⟩], rfl, hown9.more (by omega), ?_, (HBW.out.trans ((bind_app (b' := b') HOWN.out hzr (below_drew (Below.refl _ _)) hb hc1 (Nat.le_trans (Nat.le_of_eq HYD.out) hc2) hc3 hc4 hc5 HYZ.out _).2.2.2.2.mono HBW.out.size)).trans (hb9.mono (by omega))⟩
                rw [HBD.out, List.map_append, HMAP2.out]
                show _ ++ ([⟨bs (ys.drop n), b'⟩] : List Pt.Pat) = _
                rw [bs_dropN]
                rfl
end Go.Proofs.YtembmegllpkmfaaGreatDoor
