/- Words for slices of bytes in memory: a slice that reads as a list of bytes, a slice of the call's own, and the laws of append and conversion in these words. -/
import Derived.Test.YtbkpmmnkelihgaaMath
import Derived.WalkKit
import Derived.WalkSpells
import Derived.Below
import Derived.OwnWalk
import Derived.Laws.OwnMore
import Derived.Laws.MakeOwn
import Derived.Laws.CopyOwn
import Derived.Laws.BytesArg
import Derived.Laws.AppendOwnNone
import Derived.Lib.AppendStr
namespace Go.Proofs.Ytbkpmmnkelihgaa
open Go.RowKit

def u8s (l : List UInt8) : List Value := l.map fun b => Value.int .u8 (b.toNat : Int)
theorem u8s_length (l : List UInt8) : (u8s l).length = l.length := by simp [u8s]
theorem u8s_append (l m : List UInt8) : u8s (l ++ m) = u8s l ++ u8s m := by simp [u8s]
theorem u8s_get {l : List UInt8} {j : Nat} {u : Value} (h : (u8s l)[j]? = some u) : ∃ hj : j < l.length, u = .int .u8 (l[j].toNat : Int) := by
  have hj : j < (u8s l).length := by
    rcases Nat.lt_or_ge j (u8s l).length with h1 | h1
    · exact h1
    · rw [List.getElem?_eq_none h1] at h; cases h
  rw [List.getElem?_eq_getElem hj] at h
  injection h with h
  rw [u8s_length] at hj
  exact ⟨hj, by rw [← h]; simp [u8s]⟩
theorem u8s_one {l : List UInt8} : ∀ u ∈ u8s l, u.oneCell' = true := by
  intro u hu
  simp only [u8s, List.mem_map] at hu
  obtain ⟨b, _, rfl⟩ := hu
  rfl

/-- The cells from the address on are these bytes, in a block ahead of block B. -/
def Rd (w : World) (B : Nat) (A : Option Addr) (l : List UInt8) : Prop :=
  l = [] ∨ ∃ g o, A = some ⟨g, o, none⟩ ∧ g < B ∧ ∀ j (h : j < l.length), w.cell? ⟨g, o + j, none⟩ = some (.int .u8 (l[j].toNat : Int))

theorem add_plain (g o j : Nat) : (⟨g, o, none⟩ : Addr).add j = ⟨g, o + j, none⟩ := by unfold Addr.add; split <;> simp_all

section
variable {w w' : World} {B B' : Nat} {A : Option Addr} {l : List UInt8}
theorem Rd.nil (A : Option Addr) : Rd w B A [] := .inl rfl
theorem Rd.keep (h : Rd w B A l) (hk : ∀ p : Addr, p.block < B → w'.cell? p = w.cell? p) : Rd w' B A l := by
  rcases h with h | ⟨g, o, hA, hg, hc⟩
  · exact .inl h
  · exact .inr ⟨g, o, hA, hg, fun j hj => (hk _ hg).trans (hc j hj)⟩
theorem Rd.below (h : Rd w B A l) (hb : Below B w w') : Rd w' B A l := h.keep fun _ hp => hb.cell hp
theorem Rd.more (h : Rd w B A l) (hB : B ≤ B') : Rd w B' A l := by
  rcases h with h | ⟨g, o, hA, hg, hc⟩
  · exact .inl h
  · exact .inr ⟨g, o, hA, by omega, hc⟩
theorem Rd.cell (h : Rd w B A l) (hl : 0 < l.length) : ∃ g o, A = some ⟨g, o, none⟩ ∧ g < B ∧ ∀ j (h : j < l.length), w.cell? ⟨g, o + j, none⟩ = some (.int .u8 (l[j].toNat : Int)) := by
  rcases h with rfl | h
  · simp at hl
  · exact h
theorem Rd.take (h : Rd w B A l) (k : Nat) : Rd w B A (l.take k) := by
  rcases h with rfl | ⟨g, o, hA, hg, hc⟩
  · left; simp
  · refine .inr ⟨g, o, hA, hg, fun j hj => ?_⟩
    simp only [List.length_take] at hj
    rw [List.getElem_take]
    exact hc j (by omega)
theorem Rd.drop (h : Rd w B A l) {k cap : Nat} (hk : k ≤ l.length) (hc : l.length ≤ cap) : Rd w B (if cap = k then A else A.map (·.add k)) (l.drop k) := by
  rcases h with rfl | ⟨g, o, rfl, hg, hcell⟩
  · left; simp
  · by_cases he : l.length = k
    · left; rw [← he]; simp
    · rw [if_neg (by omega)]
      refine .inr ⟨g, o + k, by rw [Option.map_some, add_plain], hg, fun j hj => ?_⟩
      simp only [List.length_drop] at hj
      rw [List.getElem_drop, Nat.add_assoc]
      exact hcell (k + j) (by omega)
theorem Rd.cells (h : Rd w B A l) {ad : Addr} (hA : A = some ad) : ∀ j u, (u8s l)[j]? = some u → w.cell? (ad.add j) = some u := by
  intro j u hu
  obtain ⟨hj, rfl⟩ := u8s_get hu
  obtain ⟨g, o, hA', _, hc⟩ := h.cell (by omega)
  rw [hA] at hA'
  injection hA' with hA'
  rw [hA', add_plain]
  exact hc j hj
theorem Rd.new' (w : World) (z : Int) (b : UInt8) (hz : z = (b.toNat : Int)) (e : TypeId) : Rd (w.alloc (.cells #[.int .u8 z] e)) (w.heap.size + 1) (some ⟨w.heap.size, 0, none⟩) [b] := by
  subst hz
  refine .inr ⟨_, _, rfl, by omega, fun j hj => ?_⟩
  simp only [List.length_cons, List.length_nil] at hj
  obtain rfl : j = 0 := by omega
  rw [cell_of_row _ _ _ _ e (0, 0) (heap_alloc_new w _)]
  rfl
theorem Rd.new (w : World) (b : UInt8) (e : TypeId) : Rd (w.alloc (.cells #[.int .u8 (b.toNat : Int)] e)) (w.heap.size + 1) (some ⟨w.heap.size, 0, none⟩) [b] := by
  exact Rd.new' w _ b rfl e
end

/-- A slice of the call's own that holds these bytes, in a block from 'base' on. -/
def Own (w : World) (base : Nat) (e : TypeId) (v : Value) (l : List UInt8) : Prop := w.ownsRow base e 1 v l.length (u8s l)

section
variable {w w' : World} {base base' : Nat} {e : TypeId} {v : Value} {l : List UInt8}
theorem Own.nil (w : World) (base : Nat) (e : TypeId) : Own w base e (.slice none 0 0) [] := World.ownsRow_nil w base e 1
theorem Own.form (h : Own w base e v l) : ∃ A c, v = .slice A l.length c ∧ l.length ≤ c ∧ c ≤ maxLen ∧ Rd w w.heap.size A l := by
  rcases h.2 with ⟨hv, hn⟩ | ⟨g, cap, cur, hv, hb, hg, hnc, hcm, hcs, ht⟩
  · have : l = [] := List.eq_nil_of_length_eq_zero hn
    subst this
    exact ⟨none, 0, hv, by simp, by simp, .inl rfl⟩
  · refine ⟨some ⟨g, 0, none⟩, cap, hv, hnc, hcm, .inr ⟨g, 0, rfl, (Array.getElem?_eq_some_iff.1 hg).1, fun j hj => ?_⟩⟩
    have hc := World.ownsRow.cells (show w.ownsRow base e 1 v l.length (u8s l) from h) (g := g) (by rw [hv]; rfl) j (.int .u8 (l[j].toNat : Int)) (by simp [u8s, List.getElem?_eq_getElem hj])
    rw [add_plain] at hc
    exact hc
theorem Own.below (h : Own w base e v l) (hb : Below w.heap.size w w') : Own w' base e v l := by
  refine ⟨h.1, ?_⟩
  rcases h.2 with hv | ⟨g, cap, cur, hv, hbg, hg, r⟩
  · exact .inl hv
  · exact .inr ⟨g, cap, cur, hv, hbg, by rw [hb.block g (Array.getElem?_eq_some_iff.1 hg).1]; exact hg, r⟩
theorem Own.more (h : Own w base e v l) (hB : base' ≤ base) : Own w base' e v l := by
  refine ⟨h.1, ?_⟩
  rcases h.2 with hv | ⟨g, cap, cur, hv, hbg, r⟩
  · exact .inl hv
  · exact .inr ⟨g, cap, cur, hv, by omega, r⟩
theorem Own.new' (w : World) (z : Int) (b : UInt8) (hz : z = (b.toNat : Int)) (e : TypeId) : Own (w.alloc (.cells #[.int .u8 z] e)) w.heap.size e (.slice (some ⟨w.heap.size, 0, none⟩) 1 1) [b] := by
  subst hz
  exact ⟨rfl, .inr ⟨w.heap.size, 1, _, rfl, Nat.le_refl _, heap_alloc_new w _, by simp, by simp [maxLen], rfl, rfl⟩⟩
theorem Own.new (w : World) (b : UInt8) (e : TypeId) : Own (w.alloc (.cells #[.int .u8 (b.toNat : Int)] e)) w.heap.size e (.slice (some ⟨w.heap.size, 0, none⟩) 1 1) [b] :=
  ⟨rfl, .inr ⟨w.heap.size, 1, _, rfl, Nat.le_refl _, heap_alloc_new w _, by simp, by simp [maxLen], rfl, rfl⟩⟩
end

/-- An element type that is a byte. -/
structure ByteT (P : Program) (t e : TypeId) : Prop where
  sl : P.underlying t = some (.slice e)
  el : P.underlying e = some (.int .u8)
  info : (P.info? e).map (fun i => (i.zero, i.size, i.bytes)) = some (some (.int .u8 0), 1, 1)

theorem ByteT.parts {P : Program} {t e : TypeId} (h : ByteT P t e) : ∃ i, P.info? e = some i ∧ i.zero = some (.int .u8 0) ∧ i.size = 1 ∧ i.bytes = 1 := by
  have hi := h.info
  cases hx : P.info? e with
  | none => rw [hx] at hi; simp at hi
  | some i =>
    rw [hx] at hi
    simp only [Option.map_some, Option.some.injEq, Prod.mk.injEq] at hi
    exact ⟨i, rfl, hi.1, hi.2.1, hi.2.2⟩

section
variable {P : Program} {w : World} {ops : Array Oper} {rest : List Oper} {o : Oper} {a : Act} {Q : Exit → Act → World → Prop}

/-- append onto a slice of the call's own, of a slice of bytes. -/
theorem wpList_append_rd (hgd : o.guard = none) (s x : Operand) (t e : TypeId) (hT : ByteT P t e)
    (ho : o.op = .call { callee := .builtin .append, args := #[s, x], argTypes := #[t, t] })
    (base : Nat) (v : Value) (l : List UInt8) (hs : a.eval s = v) (hown : Own w base e v l)
    (B : Nat) (A : Option Addr) (m : List UInt8) (c : Nat) (hx : a.eval x = .slice A m.length c) (hr : Rd w B A m)
    (hbytes : l.length + m.length ≤ 140737488355328) (hbase : base ≤ w.heap.size)
    (h : ∀ v' w', Own w' base e v' (l ++ m) → Below base w w' → wpList P ops Q rest (a.put o.dst v') w') : wpList P ops Q (o :: rest) a w := by
  obtain ⟨i, hi, hz, hz1, hz2⟩ := hT.parts
  have key : ∀ ad : Addr, a.eval x = .slice (some ad) m.length c → (∀ j u, (u8s m)[j]? = some u → w.cell? (ad.add j) = some u) → wpList P ops Q (o :: rest) a w := by
    intro ad hx' hc
    refine wpList_append_own w hgd s x t ho base e i _ 1 1 hT.sl hi hz hz1 hz2 rfl (by omega) v l.length (u8s l) hs hown ad m.length c (u8s m) hx' (by simp [u8s_length]) hc u8s_one
      (by simp only [maxLen]; omega) (by omega) hbase ?_
    intro v' w' hown' hg _
    refine h v' w' ?_ ⟨hg.os, hg.tape, hg.output, hg.size, fun k hk => hg.block k (by omega) (fun e2 => ?_)⟩
    · unfold Own
      rw [List.length_append, u8s_append]
      exact hown'
    · have := (World.ownsRow.lt hown k e2.symm).1
      omega
  cases A with
  | none =>
    rcases hr with rfl | ⟨g, o', hA, _⟩
    · by_cases hc0 : c = 0
      · subst hc0
        refine wpList_append_own_none hgd s x t ho base e i 1 hT.sl hi v l.length (u8s l) hs hown hx ?_
        exact h v w (by simpa using hown) (Below.refl _ _)
      · refine wpList_plain hgd fun K hK => ?_
        have hrun : (Builtin.append_ #[t, t] o.type #[v, .slice none 0 c]).run P w = .ok v w := by
          rcases hown.2 with ⟨rfl, hl0⟩ | ⟨g, cap, cur, rfl, _, _, hnc, _⟩
          · simp [Builtin.append_, run_underlying hT.sl, sizeOf, typeInfo, hi, Builtin.lenOf, Builtin.firstCells]
          · simp [Builtin.append_, run_underlying hT.sl, sizeOf, typeInfo, hi, Builtin.lenOf, Builtin.firstCells, hnc, storeCells]
        have hx' : a.eval x = .slice none 0 c := hx
        unfold Oper.wp execOp
        simp only [ho, resolve, invoke, builtin, Sem.run_bind, Sem.run_pure, Result.andThen_ok, List.map_toArray, List.map_cons, List.map_nil, hs, hx', hrun]
        exact hK _ _ (h v w (by simpa using hown) (Below.refl _ _))
    · cases hA
  | some ad => exact key ad hx (hr.cells rfl)

/-- .. of a string. -/
theorem wpList_append_str (hgd : o.guard = none) (sl x : Operand) (t u e : TypeId) (hT : ByteT P t e) (hu : P.underlying u = some .string)
    (ho : o.op = .call { callee := .builtin .append, args := #[sl, x], argTypes := #[t, u] })
    (base : Nat) (v : Value) (l : List UInt8) (hs : a.eval sl = v) (hown : Own w base e v l) (s : ByteArray) (hx : a.eval x = .string s)
    (hbytes : l.length + s.size ≤ 140737488355328) (hbase : base ≤ w.heap.size)
    (h : ∀ v' w', Own w' base e v' (l ++ s.data.toList) → Below base w w' → wpList P ops Q rest (a.put o.dst v') w') : wpList P ops Q (o :: rest) a w := by
  obtain ⟨i, hi, hz, hz1, hz2⟩ := hT.parts
  refine Lib.wpList_append_own_string w hgd sl x t u ho base e i hT.sl hu hi hz hz1 hz2 v l.length (u8s l) hs hown s hx (Nat.le_trans hbytes (by unfold maxLen; omega)) hbytes hbase ?_
  intro v' w' hown' hg _
  refine h v' w' ?_ ⟨hg.os, hg.tape, hg.output, hg.size, fun k hk => hg.block k (by omega) (fun e2 => ?_)⟩
  · unfold Own
    have e1 : Lib.strCells s = u8s s.data.toList := by simp [Lib.strCells, u8s]
    have e2 : s.data.toList.length = s.size := Array.length_toList
    rw [List.length_append, u8s_append, ← e1, e2]
    exact hown'
  · have := (World.ownsRow.lt hown k e2.symm).1
    omega

/-- A slice of bytes as a string. -/
theorem run_convert_rd (t u e : TypeId) (hT : ByteT P t e) (hu : P.underlying u = some .string) (B : Nat) (A : Option Addr) (l : List UInt8) (c : Nat) (hr : Rd w B A l) :
    (convert t u (.slice A l.length c)).run P w = .ok (.string ⟨l.toArray⟩) w := by
  rcases hr with rfl | ⟨g, o', rfl, _, hc⟩
  · cases A with
    | none => exact run_convert_bytes_nil w t e hT.sl hT.el 0 c u hu
    | some ad =>
      have hl : (loadCells ad 0).run P w = .ok ((([] : List Int).map (Value.int .u8)).toArray) w := by
        have := run_loadCells_list (P := P) w ad [] (fun j v hj => by simp at hj)
        simpa using this
      rw [run_convert_bytes_string w t u e _ _ c hT.sl hT.el hu]
      have h2 := run_bytesToString (P := P) w ad 0 c [] hl
      exact h2
  · have h1 := run_convert_bytes_arg (P := P) w t e hT.sl hT.el g o' l.length c (l.map fun b => (b.toNat : Int)) (by simp) (fun i hi => by
      rw [hc i hi]; simp [List.getElem?_eq_getElem hi]) u hu
    rw [h1]
    congr 2
    unfold strOfNums
    congr 1
    rw [List.map_map]
    have : ((fun n : Int => UInt8.ofNat n.toNat) ∘ fun b : UInt8 => (b.toNat : Int)) = id := by funext b; simp
    rw [this, List.map_id]

theorem wpList_convert_rd (hgd : o.guard = none) (t u e : TypeId) (x : Operand) (hT : ByteT P t e) (hu : P.underlying u = some .string) (ho : o.op = .convert t u x)
    (B : Nat) (A : Option Addr) (n : Nat) (l : List UInt8) (hn : n = l.length) (c : Nat) (hx : a.eval x = .slice A n c) (hr : Rd w B A l)
    (h : wpList P ops Q rest (a.put o.dst (.string ⟨l.toArray⟩)) w) : wpList P ops Q (o :: rest) a w := by
  subst hn
  refine wpList_plain hgd fun K hK => ?_
  have hrun := run_convert_rd (P := P) t u e hT hu B A l c hr
  unfold Oper.wp execOp
  simp only [ho, hx, Sem.run_bind, hrun, Result.andThen_ok]
  exact hK _ _ h
end
end Go.Proofs.Ytbkpmmnkelihgaa
