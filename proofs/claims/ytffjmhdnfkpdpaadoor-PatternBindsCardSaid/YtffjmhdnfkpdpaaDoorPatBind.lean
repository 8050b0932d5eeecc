/- Words for slices of bindings (structs of a slice of strings and a bool) of the call's own, and append onto them. -/
import Derived.Test.YtffjmhdnfkpdpaaDoorPatFn2
import Derived.Test.YtffjmhdnfkpdpaaDoorPathOwn2
import Derived.Maps.AppendAt
import Derived.RegionTactic
namespace Go.Proofs.YtffjmhdnfkpdpaaDoor
open Go.RowKit

/-- A binding as it lies in memory. -/
structure BindV where
  A : Option Addr
  xs : List ByteArray
  c : Nat
  b : Bool
def BindV.pat (v : BindV) : Pt.Pat := ⟨bs v.xs, v.b⟩
def bcells (l : List BindV) : List Value := l.flatMap fun v => [.slice v.A v.xs.length v.c, .bool v.b]
theorem bcells_length : ∀ l : List BindV, (bcells l).length = l.length * 2
  | [] => rfl
  | v :: l => by
    have := bcells_length l
    simp only [bcells, List.flatMap_cons, List.length_append, List.length_cons, List.length_nil] at this ⊢
    omega
theorem bcells_append (l m : List BindV) : bcells (l ++ m) = bcells l ++ bcells m := by simp [bcells]
theorem bcells_get : ∀ (l : List BindV) (k : Nat) (h : k < l.length), (bcells l)[2 * k]? = some (.slice l[k].A l[k].xs.length l[k].c) ∧ (bcells l)[2 * k + 1]? = some (.bool l[k].b)
  | [], _, h => by simp at h
  | v :: l, 0, _ => by simp [bcells]
  | v :: l, k + 1, h => by
    have ih := bcells_get l k (by simpa using h)
    have e : bcells (v :: l) = [.slice v.A v.xs.length v.c, .bool v.b] ++ bcells l := by simp [bcells]
    rw [e]
    refine ⟨?_, ?_⟩
    · rw [List.getElem?_append_right (by simp; omega)]
      simp only [List.length_cons, List.length_nil, List.getElem_cons_succ]
      rw [show 2 * (k + 1) - (0 + 1 + 1) = 2 * k by omega]
      exact ih.1
    · rw [List.getElem?_append_right (by simp; omega)]
      simp only [List.length_cons, List.length_nil, List.getElem_cons_succ]
      rw [show 2 * (k + 1) + 1 - (0 + 1 + 1) = 2 * k + 1 by omega]
      exact ih.2
/-- A slice of the call's own that holds these bindings, from block 'base' on; their parts lie elsewhere. -/
structure OwnB (w : World) (base : Nat) (v : Value) (l : List BindV) : Prop where
  row : w.ownsRow base 54 2 v l.length (bcells l)
  parts : ∀ x ∈ l, PatR w x.A x.xs x.c x.b x.pat
  apart : ∀ x ∈ l, ∀ a, x.A = some a → v.ownBlock ≠ some a.block ∧ a.block < w.heap.size
theorem OwnB.empty (w : World) (base : Nat) : OwnB w base (.slice none 0 0) [] := ⟨World.ownsRow_nil w base _ 2, fun x h => (by cases h), fun x h => (by cases h)⟩
theorem bindInfo : (Tryd.prog.info? 54).map (fun i => (i.zero, i.size, i.bytes)) = some (some (.agg #[.slice none 0 0, .bool false]), 2, 32) := by kernel_rfl
theorem bindInfoParts : ∃ i, Tryd.prog.info? 54 = some i ∧ i.zero = some (.agg #[.slice none 0 0, .bool false]) ∧ i.size = 2 ∧ i.bytes = 32 := by
  have hi := bindInfo
  cases hx : Tryd.prog.info? 54 with
  | none => rw [hx] at hi; simp at hi
  | some i =>
    rw [hx] at hi
    simp only [Option.map_some, Option.some.injEq, Prod.mk.injEq] at hi
    exact ⟨i, rfl, hi.1, hi.2.1, hi.2.2⟩
theorem OwnB.below {w w' : World} {base : Nat} {v : Value} {l : List BindV} (h : OwnB w base v l) (hb : Below w.heap.size w w') : OwnB w' base v l := by
  refine ⟨⟨h.row.1, ?_⟩, fun x hx => (h.parts x hx).keep hb, fun x hx a ha => ⟨(h.apart x hx a ha).1, Nat.lt_of_lt_of_le (h.apart x hx a ha).2 hb.size⟩⟩
  rcases h.row.2 with hv | ⟨g, cap, cur, hv, hbg, hg, r⟩
  · exact .inl hv
  · exact .inr ⟨g, cap, cur, hv, hbg, by rw [hb.block g (Array.getElem?_eq_some_iff.1 hg).1]; exact hg, r⟩
/-- What grows one block keeps what lies in the others. -/
theorem PatR.grown {w w' : World} {k : Option Nat} {A : Option Addr} {xs : List ByteArray} {c : Nat} {b : Bool} {p : Pt.Pat} (h : PatR w A xs c b p) (hg : w.grownBy w' k) (ha : ∀ a, A = some a → k ≠ some a.block) : PatR w' A xs c b p := by
  refine ⟨?_, h.parts, h.rest, h.le, h.cm, h.nil, h.sz⟩
  rcases h.rd with h0 | ⟨g, o, hA, hlt, hc⟩
  · exact .inl h0
  · refine .inr ⟨g, o, hA, Nat.lt_of_lt_of_le hlt hg.size, fun j hj => ?_⟩
    rw [← hc j hj]
    have hb := hg.block g hlt (fun e => ha _ hA e.symm)
    unfold World.cell?
    simp only [hb]

section
variable {w : World} {ops : Array Oper} {rest : List Oper} {o : Oper} {a : Act} {Q : Exit → Act → World → Prop}
/-- append of one binding onto a slice of the call's own. -/
theorem wpList_append_bd (hgd : o.guard = none) (s x : Operand)
    (ho : o.op = .call { callee := .builtin .append, args := #[s, x], argTypes := #[51, 51] })
    (base : Nat) (v : Value) (l : List BindV) (hs : a.eval s = v) (hown : OwnB w base v l)
    (ad : Addr) (y : BindV) (c : Nat) (hx : a.eval x = .slice (some ad) 1 c) (h0 : w.cell? (ad.add 0) = some (.slice y.A y.xs.length y.c)) (h1 : w.cell? (ad.add 1) = some (.bool y.b))
    (hy : PatR w y.A y.xs y.c y.b y.pat) (hya : ∀ a, y.A = some a → v.ownBlock ≠ some a.block ∧ a.block < w.heap.size)
    (hN : l.length ≤ 1000000) (hbase : base ≤ w.heap.size)
    (h : ∀ v' w', OwnB w' base v' (l ++ [y]) → Below base w w' → w.grownBy w' v.ownBlock → wpList Tryd.prog ops Q rest (a.put o.dst v') w') : wpList Tryd.prog ops Q (o :: rest) a w := by
  obtain ⟨i, hi, hz, hz1, hz2⟩ := bindInfoParts
  refine wpList_append_own_at w hgd s x _ ho base 54 i _ 2 32 Tryd.underlying51 hi hz hz1 hz2 rfl (by omega) v l.length (bcells l) hs hown.row ad 1 c [.slice y.A y.xs.length y.c, .bool y.b] hx rfl (fun j u hu => ?_) ?_
    (by simp only [maxLen]; omega) (by omega) hbase ?_
  · match j, hu with
    | 0, hu => simp at hu; rw [← hu]; exact h0
    | 1, hu => simp at hu; rw [← hu]; exact h1
  · intro u hu
    simp only [List.mem_cons, List.not_mem_nil, or_false] at hu
    rcases hu with rfl | rfl <;> rfl
  · intro v' w' hown' hg _ hat
    have hap : ∀ z ∈ l ++ [y], ∀ a, z.A = some a → v.ownBlock ≠ some a.block ∧ a.block < w.heap.size := fun z hz a ha => by
      rcases List.mem_append.1 hz with h | h
      · exact hown.apart z h a ha
      · rw [List.mem_singleton.1 h] at ha
        exact hya a ha
    refine h v' w' ⟨?_, fun z hz => ?_, fun z hz a ha => ⟨?_, Nat.lt_of_lt_of_le (hap z hz a ha).2 hg.size⟩⟩ ⟨hg.os, hg.tape, hg.output, hg.size, fun k hk => hg.block k (by omega) (fun e2 => ?_)⟩ hg
    · rw [List.length_append, bcells_append]
      exact hown'
    · have hp : PatR w z.A z.xs z.c z.b z.pat := by
        rcases List.mem_append.1 hz with h | h
        · exact hown.parts z h
        · rw [List.mem_singleton.1 h]
          exact hy
      exact hp.grown hg fun a ha => (hap z hz a ha).1
    · intro e
      rcases hat with e2 | e2
      · exact (hap z hz a ha).1 (e2 ▸ e)
      · rw [e2] at e
        injection e with e
        have := (hap z hz a ha).2
        omega
    · have := (World.ownsRow.lt hown.row k e2.symm).1
      omega
end
/-- The same at a step of a region that draws its order. -/
theorem step_append_bd {w : World} {ops : Array Oper} {o : Oper} {a : Act} {K : Act → World → Prop} {Q : Exit → Act → World → Prop} {E : Prop} (hgd : o.guard = none) (s x : Operand)
    (ho : o.op = .call { callee := .builtin .append, args := #[s, x], argTypes := #[51, 51] })
    (base : Nat) (v : Value) (l : List BindV) (hs : a.eval s = v) (hown : OwnB w base v l)
    (ad : Addr) (y : BindV) (c : Nat) (hx : a.eval x = .slice (some ad) 1 c) (h0 : w.cell? (ad.add 0) = some (.slice y.A y.xs.length y.c)) (h1 : w.cell? (ad.add 1) = some (.bool y.b))
    (hy : PatR w y.A y.xs y.c y.b y.pat) (hya : ∀ a, y.A = some a → v.ownBlock ≠ some a.block ∧ a.block < w.heap.size)
    (hN : l.length ≤ 1000000) (hbase : base ≤ w.heap.size)
    (h : ∀ v' w', OwnB w' base v' (l ++ [y]) → Below base w w' → K (a.put o.dst v') w') : if Region.wanted o (yielded ops a.tmps) = true then Oper.wp Tryd.prog o a w K Q else E := by
  have hw : Region.wanted o (yielded ops a.tmps) = true := by simp [Region.wanted, hgd]
  rw [if_pos hw]
  obtain ⟨i, hi, hz, hz1, hz2⟩ := bindInfoParts
  obtain ⟨v', w', hr, hown', hg, _, hat⟩ := run_append_own_at (P := Tryd.prog) w base 51 o.type 54 i _ 2 32 Tryd.underlying51 hi hz hz1 hz2 rfl (by omega) v l.length (bcells l) hown.row ad 1 c [.slice y.A y.xs.length y.c, .bool y.b] rfl (fun j u hu => by
      match j, hu with
      | 0, hu => simp at hu; rw [← hu]; exact h0
      | 1, hu => simp at hu; rw [← hu]; exact h1) (fun u hu => by
      simp only [List.mem_cons, List.not_mem_nil, or_false] at hu
      rcases hu with rfl | rfl <;> rfl) (by simp only [maxLen]; omega) (by omega) hbase
  unfold Oper.wp execOp
  simp only [ho, resolve, invoke, builtin, Sem.run_bind, Sem.run_pure, Result.andThen_ok, List.map_toArray, List.map_cons, List.map_nil, hs, hx, hr]
  have hap : ∀ z ∈ l ++ [y], ∀ a, z.A = some a → v.ownBlock ≠ some a.block ∧ a.block < w.heap.size := fun z hz a ha => by
    rcases List.mem_append.1 hz with h | h
    · exact hown.apart z h a ha
    · rw [List.mem_singleton.1 h] at ha
      exact hya a ha
  refine h v' w' ⟨?_, fun z hz => ?_, fun z hz a ha => ⟨?_, Nat.lt_of_lt_of_le (hap z hz a ha).2 hg.size⟩⟩ ⟨hg.os, hg.tape, hg.output, hg.size, fun k hk => hg.block k (by omega) (fun e2 => ?_)⟩
  · rw [List.length_append, bcells_append]
    exact hown'
  · have hp : PatR w z.A z.xs z.c z.b z.pat := by
      rcases List.mem_append.1 hz with h | h
      · exact hown.parts z h
      · rw [List.mem_singleton.1 h]
        exact hy
    exact hp.grown hg fun a ha => (hap z hz a ha).1
  · intro e
    rcases hat with e2 | e2
    · exact (hap z hz a ha).1 (e2 ▸ e)
    · rw [e2] at e
      injection e with e
      have := (hap z hz a ha).2
      omega
  · have := (World.ownsRow.lt hown.row k e2.symm).1
    omega
end Go.Proofs.YtffjmhdnfkpdpaaDoor
