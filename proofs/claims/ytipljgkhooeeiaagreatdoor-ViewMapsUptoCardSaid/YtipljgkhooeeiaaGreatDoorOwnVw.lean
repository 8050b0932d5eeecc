/- Lines in slices; append. -/
import Derived.Test.YtipljgkhooeeiaaGreatDoorRulAll
import Derived.Maps.AppendAt
import Derived.OwnWalk
import Derived.Laws.OwnMore
import Derived.Laws.AppendOwnNone
namespace Go.Proofs.YtipljgkhooeeiaaGreatDoor
open Go.RowKit

/-- A line as it lies in a slice. -/
structure RulV where
  ex : Bool
  A : Option Addr
  xs : List ByteArray
  c : Nat
  b : Bool
  B : Option Addr
  ys : List ByteArray
  d : Nat
  f : Bool
def RulV.rul (v : RulV) : Pt.Rul := ⟨v.ex, ⟨bs v.xs, v.b⟩, ⟨bs v.ys, v.f⟩⟩
abbrev RulV.R (w : World) (v : RulV) : Prop := RulR w v.ex v.A v.xs v.c v.b v.B v.ys v.d v.f v.rul
theorem RulR.grownA {w w' : World} {k : Option Nat} {ex : Bool} {A : Option Addr} {xs : List ByteArray} {c : Nat} {b : Bool} {B : Option Addr} {ys : List ByteArray} {d : Nat} {f : Bool} {r : Pt.Rul} (h : RulR w ex A xs c b B ys d f r) (hg : w.grownBy w' k)
    (ha : ∀ y ∈ [A, B], ∀ a, y = some a → k ≠ some a.block ∧ a.block < w.heap.size) : RulR w' ex A xs c b B ys d f r :=
  ⟨h.ex, h.left.grown hg fun a e => (ha A (by simp) a e).1, h.right.grown hg fun a e => (ha B (by simp) a e).1⟩
section
variable {w : World} {ops : Array Oper} {rest : List Oper} {o : Oper} {a : Act} {Q : Exit → Act → World → Prop}
def oneV (v : RulV) : List Value := [.bool v.ex, .slice v.A v.xs.length v.c, .bool v.b, .slice v.B v.ys.length v.d, .bool v.f]
def cellsV (l : List RulV) : List Value := l.flatMap oneV
theorem cellsV_length : ∀ l : List RulV, (cellsV l).length = l.length * 5
  | [] => rfl
  | v :: l => by
    have := cellsV_length l
    simp only [cellsV, oneV, List.flatMap_cons, List.length_append, List.length_cons, List.length_nil] at this ⊢
    omega
theorem cellsV_append (l m : List RulV) : cellsV (l ++ m) = cellsV l ++ cellsV m := by simp [cellsV]
theorem cellsV_at : ∀ (l : List RulV) (j : Nat) (u : Value), (cellsV l)[j]? = some u → ∃ k i, ∃ h : k < l.length, i < 5 ∧ j = k * 5 + i ∧ (oneV l[k])[i]? = some u
  | [], j, u, h => by simp [cellsV] at h
  | v :: l, j, u, h => by
    have e : cellsV (v :: l) = oneV v ++ cellsV l := by simp [cellsV]
    rw [e] at h
    have hl : (oneV v).length = 5 := rfl
    by_cases hj : j < 5
    · rw [List.getElem?_append_left (by omega)] at h
      exact ⟨0, j, by simp, hj, by omega, h⟩
    · rw [List.getElem?_append_right (by omega), hl] at h
      obtain ⟨k, i, hk, hi, he, hc⟩ := cellsV_at l _ u h
      exact ⟨k + 1, i, by simpa using hk, hi, by omega, hc⟩
theorem cellsV_get : ∀ (l : List RulV) (k : Nat) (h : k < l.length) (i : Nat), i < 5 → (cellsV l)[k * 5 + i]? = (oneV l[k])[i]?
  | [], _, h, _, _ => by simp at h
  | v :: l, 0, _, i, hi => by
    have e : cellsV (v :: l) = oneV v ++ cellsV l := by simp [cellsV]
    have hl : (oneV v).length = 5 := rfl
    rw [e, List.getElem?_append_left (by omega), Nat.zero_mul, Nat.zero_add]
    rfl
  | v :: l, k + 1, h, i, hi => by
    have e : cellsV (v :: l) = oneV v ++ cellsV l := by simp [cellsV]
    have hl : (oneV v).length = 5 := rfl
    rw [e, List.getElem?_append_right (by omega), hl, show (k + 1) * 5 + i - 5 = k * 5 + i by omega, cellsV_get l k (by simpa using h) i hi]
    rfl
theorem cellsV_one {l : List RulV} : ∀ u ∈ cellsV l, u.oneCell' = true := by
  intro u hu
  simp only [cellsV, oneV, List.mem_flatMap, List.mem_cons, List.not_mem_nil, or_false] at hu
  obtain ⟨x, _, hx⟩ := hu
  rcases hx with rfl | rfl | rfl | rfl | rfl <;> rfl
/-- A slice of the call's own that holds these, from block 'base' on; what they name lies elsewhere. -/
structure OwnV (w : World) (base : Nat) (v : Value) (l : List RulV) : Prop where
  row : w.ownsRow base 94 5 v l.length (cellsV l)
  parts : ∀ x ∈ l, RulV.R w x
  apart : ∀ x ∈ l, ∀ y ∈ [x.A, x.B], ∀ a, y = some a → v.ownBlock ≠ some a.block ∧ a.block < w.heap.size
theorem OwnV.empty (w : World) (base : Nat) : OwnV w base (.slice none 0 0) [] := ⟨World.ownsRow_nil w base _ 5, fun x h => (by cases h), fun x h => (by cases h)⟩
theorem infoV : (Tryz.prog.info? 94).map (fun i => (i.zero, i.size, i.bytes)) = some (some (.agg #[.bool false, .slice none 0 0, .bool false, .slice none 0 0, .bool false]), 5, 72) := by kernel_rfl
theorem infoVParts : ∃ i, Tryz.prog.info? 94 = some i ∧ i.zero = some (.agg #[.bool false, .slice none 0 0, .bool false, .slice none 0 0, .bool false]) ∧ i.size = 5 ∧ i.bytes = 72 := by
  have hi := infoV
  cases hx : Tryz.prog.info? 94 with
  | none => rw [hx] at hi; simp at hi
  | some i =>
    rw [hx] at hi
    simp only [Option.map_some, Option.some.injEq, Prod.mk.injEq] at hi
    exact ⟨i, rfl, hi.1, hi.2.1, hi.2.2⟩
theorem OwnV.below {w w' : World} {base : Nat} {v : Value} {l : List RulV} (h : OwnV w base v l) (hb : Below w.heap.size w w') : OwnV w' base v l := by
  refine ⟨⟨h.row.1, ?_⟩, fun x hx => (h.parts x hx).keep hb, fun x hx y hy a ha => ⟨(h.apart x hx y hy a ha).1, Nat.lt_of_lt_of_le (h.apart x hx y hy a ha).2 hb.size⟩⟩
  rcases h.row.2 with hv | ⟨g, cap, cur, hv, hbg, hg, r⟩
  · exact .inl hv
  · exact .inr ⟨g, cap, cur, hv, hbg, by rw [hb.block g (Array.getElem?_eq_some_iff.1 hg).1]; exact hg, r⟩
theorem OwnV.more {w : World} {base base' : Nat} {v : Value} {l : List RulV} (h : OwnV w base v l) (hB : base' ≤ base) : OwnV w base' v l := by
  refine ⟨⟨h.row.1, ?_⟩, h.parts, h.apart⟩
  rcases h.row.2 with hv | ⟨g, cap, cur, hv, hbg, r⟩
  · exact .inl hv
  · exact .inr ⟨g, cap, cur, hv, by omega, r⟩
theorem OwnV.form {w : World} {base : Nat} {v : Value} {l : List RulV} (h : OwnV w base v l) : ∃ A e, v = .slice A l.length e ∧ e ≤ maxLen := by
  rcases h.row.2 with ⟨hv, hn⟩ | ⟨g, cap, cur, hv, hbg, hg, hnc, hcm, r⟩
  · exact ⟨none, 0, by rw [hv, hn], Nat.zero_le _⟩
  · exact ⟨some ⟨g, 0, none⟩, cap, hv, hcm⟩
theorem OwnV.lt {w : World} {base : Nat} {v : Value} {l : List RulV} (h : OwnV w base v l) : ∀ k, v.ownBlock = some k → base ≤ k ∧ k < w.heap.size := fun k hk => World.ownsRow.lt h.row k hk
structure RdV (w : World) (A : Option Addr) (l : List RulV) (c : Nat) : Prop where
  cells : l = [] ∨ ∃ g o, A = some ⟨g, o, none⟩ ∧ g < w.heap.size ∧ ∀ k (h : k < l.length), w.cell? ⟨g, o + k * 5, none⟩ = some (.bool l[k].ex) ∧ w.cell? ⟨g, o + k * 5 + 1, none⟩ = some (.slice l[k].A l[k].xs.length l[k].c) ∧ w.cell? ⟨g, o + k * 5 + 2, none⟩ = some (.bool l[k].b) ∧ w.cell? ⟨g, o + k * 5 + 3, none⟩ = some (.slice l[k].B l[k].ys.length l[k].d) ∧ w.cell? ⟨g, o + k * 5 + 4, none⟩ = some (.bool l[k].f)
  parts : ∀ x ∈ l, RulV.R w x
  le : l.length ≤ c
  cm : c ≤ maxLen
  nil : A = none → c = 0
theorem RdV.keep {w w' : World} {A : Option Addr} {l : List RulV} {c : Nat} (h : RdV w A l c) (hb : Below w.heap.size w w') : RdV w' A l c := by
  refine ⟨?_, fun x hx => (h.parts x hx).keep hb, h.le, h.cm, h.nil⟩
  rcases h.cells with h0 | ⟨g, o, hA, hg, hc⟩
  · exact .inl h0
  · refine .inr ⟨g, o, hA, Nat.lt_of_lt_of_le hg hb.size, fun k hk => ?_⟩
    obtain ⟨q0, q1, q2, q3, q4⟩ := hc k hk
    exact ⟨(hb.cell (p := ⟨g, o + k * 5, none⟩) hg).trans q0, (hb.cell (p := ⟨g, o + k * 5 + 1, none⟩) hg).trans q1, (hb.cell (p := ⟨g, o + k * 5 + 2, none⟩) hg).trans q2, (hb.cell (p := ⟨g, o + k * 5 + 3, none⟩) hg).trans q3, (hb.cell (p := ⟨g, o + k * 5 + 4, none⟩) hg).trans q4⟩
theorem RdV.at {w : World} {A : Option Addr} {l : List RulV} {c : Nat} (h : RdV w A l c) (hl : 0 < l.length) : ∃ g o, A = some ⟨g, o, none⟩ ∧ g < w.heap.size ∧ ∀ k (h : k < l.length), w.cell? ⟨g, o + k * 5, none⟩ = some (.bool l[k].ex) ∧ w.cell? ⟨g, o + k * 5 + 1, none⟩ = some (.slice l[k].A l[k].xs.length l[k].c) ∧ w.cell? ⟨g, o + k * 5 + 2, none⟩ = some (.bool l[k].b) ∧ w.cell? ⟨g, o + k * 5 + 3, none⟩ = some (.slice l[k].B l[k].ys.length l[k].d) ∧ w.cell? ⟨g, o + k * 5 + 4, none⟩ = some (.bool l[k].f) := by
  rcases h.cells with h0 | h1
  · subst h0; simp at hl
  · exact h1
theorem OwnV.rd {w : World} {base : Nat} {v : Value} {l : List RulV} (h : OwnV w base v l) : ∃ A c, v = .slice A l.length c ∧ RdV w A l c ∧ (∀ g o, A = some ⟨g, o, none⟩ → base ≤ g) := by
  rcases h.row.2 with ⟨hv, hn⟩ | ⟨g, cap, cur, hv, hbg, hg, hnc, hcm, _⟩
  · exact ⟨none, 0, by rw [hv, hn], ⟨.inl (List.eq_nil_of_length_eq_zero hn), h.parts, by omega, Nat.zero_le _, fun _ => rfl⟩, fun g o h => by cases h⟩
  · refine ⟨some ⟨g, 0, none⟩, cap, hv, ⟨.inr ⟨g, 0, rfl, (Array.getElem?_eq_some_iff.1 hg).1, fun k hk => ?_⟩, h.parts, hnc, hcm, fun h => by cases h⟩, fun g' o h => by injection h with h; injection h with h; subst h; exact hbg⟩
    have hcell : ∀ i, i < 5 → ∀ u, (oneV l[k])[i]? = some u → w.cell? ⟨g, 0 + (k * 5 + i), none⟩ = some u := fun i hi u hu => by
      have hc := World.ownsRow.cells h.row (g := g) (by rw [hv]; rfl) (k * 5 + i) u (by rw [cellsV_get l k hk i hi]; exact hu)
      rw [add_plain] at hc
      exact hc
    refine ⟨hcell 0 (by decide) _ rfl, hcell 1 (by decide) _ rfl, hcell 2 (by decide) _ rfl, hcell 3 (by decide) _ rfl, hcell 4 (by decide) _ rfl⟩
theorem rdV_cells {w : World} {ad : Addr} {l : List RulV} {c : Nat} (h : RdV w (some ad) l c) : ∀ j u, (cellsV l)[j]? = some u → w.cell? (ad.add j) = some u := by
  intro j u hu
  obtain ⟨k, i, hk, hi, rfl, hc⟩ := cellsV_at l j u hu
  rcases h.cells with rfl | ⟨g, o, hA, hlt, hcell⟩
  · simp at hk
  · injection hA with hA
    subst hA
    rw [add_plain]
    obtain ⟨q0, q1, q2, q3, q4⟩ := hcell k hk
    match i, hi, hc with
    | 0, _, hc => simp [oneV] at hc; rw [← hc]; exact q0
    | 1, _, hc => simp [oneV] at hc; rw [← hc]; exact q1
    | 2, _, hc => simp [oneV] at hc; rw [← hc]; exact q2
    | 3, _, hc => simp [oneV] at hc; rw [← hc]; exact q3
    | 4, _, hc => simp [oneV] at hc; rw [← hc]; exact q4
theorem ownV_after {w w' : World} {base : Nat} {v v' : Value} {l ys : List RulV} (hown : OwnV w base v l) (hp : ∀ x ∈ ys, RulV.R w x) (hya : ∀ x ∈ ys, ∀ y ∈ [x.A, x.B], ∀ a, y = some a → v.ownBlock ≠ some a.block ∧ a.block < w.heap.size)
    (hown' : w'.ownsRow base 94 5 v' (l.length + ys.length) (cellsV l ++ cellsV ys)) (hg : w.grownBy w' v.ownBlock) (hat : v'.ownBlock = v.ownBlock ∨ v'.ownBlock = some w.heap.size) (hbase : base ≤ w.heap.size) :
    OwnV w' base v' (l ++ ys) ∧ Below base w w' := by
  have hap : ∀ x ∈ l ++ ys, ∀ y ∈ [x.A, x.B], ∀ a, y = some a → v.ownBlock ≠ some a.block ∧ a.block < w.heap.size := fun z hz y hy a ha => by
    rcases List.mem_append.1 hz with h | h
    · exact hown.apart z h y hy a ha
    · exact hya z h y hy a ha
  refine ⟨⟨?_, fun x hx => ?_, fun x hx y hy a ha => ⟨?_, Nat.lt_of_lt_of_le (hap x hx y hy a ha).2 hg.size⟩⟩, ⟨hg.os, hg.tape, hg.output, hg.size, fun k hk => hg.block k (by omega) (fun e2 => ?_)⟩⟩
  · rw [List.length_append, cellsV_append]
    exact hown'
  · have hq : RulV.R w x := by
      rcases List.mem_append.1 hx with h | h
      · exact hown.parts x h
      · exact hp x h
    exact hq.grownA hg (hap x hx)
  · intro e
    rcases hat with e2 | e2
    · exact (hap x hx y hy a ha).1 (e2 ▸ e)
    · rw [e2] at e
      injection e with e
      have := (hap x hx y hy a ha).2
      omega
  · have := (World.ownsRow.lt hown.row k e2.symm).1
    omega
theorem run_append_vw (w : World) (ty : TypeId) (base : Nat) (v : Value) (l : List RulV) (hown : OwnV w base v l) (A : Option Addr) (ys : List RulV) (c : Nat) (hr : RdV w A ys c)
    (hya : ∀ x ∈ ys, ∀ y ∈ [x.A, x.B], ∀ a, y = some a → v.ownBlock ≠ some a.block ∧ a.block < w.heap.size) (hN : (l.length + ys.length) * 72 ≤ 140737488355328) (hbase : base ≤ w.heap.size) :
    ∃ v' w', (Builtin.append_ #[54, 54] ty #[v, .slice A ys.length c]).run Tryz.prog w = .ok v' w' ∧ OwnV w' base v' (l ++ ys) ∧ Below base w w' ∧ w.grownBy w' v.ownBlock ∧ (v'.ownBlock = v.ownBlock ∨ v'.ownBlock = some w.heap.size) := by
  obtain ⟨i, hi, hz, hz1, hz2⟩ := infoVParts
  cases A with
  | none =>
    obtain rfl := hr.nil rfl
    have hx0 : ys = [] := by
      rcases hr.cells with h | ⟨g, o', hA, _⟩
      · exact h
      · cases hA
    subst hx0
    have hrun := run_append_owned_none (P := Tryz.prog) (w := w) base 54 ty 94 i 5 Tryz.underlying54 hi v l.length (cellsV l) hown.row
    exact ⟨v, w, hrun, by rw [List.append_nil]; exact hown, Below.refl _ _, World.grownBy.refl _ _, .inl rfl⟩
  | some ad =>
    obtain ⟨v', w', hrun, hown', hg, _, hat⟩ := run_append_own_at (P := Tryz.prog) w base 54 ty 94 i _ 5 72 Tryz.underlying54 hi hz hz1 hz2 rfl (by omega) v l.length (cellsV l) hown.row ad ys.length c (cellsV ys) (cellsV_length ys) (rdV_cells hr) cellsV_one (by simp only [maxLen]; omega) (by omega) hbase
    obtain ⟨h1, h2⟩ := ownV_after hown hr.parts hya hown' hg hat hbase
    exact ⟨v', w', hrun, h1, h2, hg, hat⟩
theorem wp_append_vw {w : World} {o : Oper} {a : Act} {K : Act → World → Prop} {Q : Exit → Act → World → Prop} (s x : Operand)
    (ho : o.op = .call { callee := .builtin .append, args := #[s, x], argTypes := #[54, 54] })
    (base : Nat) (v : Value) (l : List RulV) (hs : a.eval s = v) (hown : OwnV w base v l)
    (A : Option Addr) (ys : List RulV) (n c : Nat) (hn : n = ys.length) (hx : a.eval x = .slice A n c) (hr : RdV w A ys c)
    (hya : ∀ x ∈ ys, ∀ y ∈ [x.A, x.B], ∀ a, y = some a → v.ownBlock ≠ some a.block ∧ a.block < w.heap.size) (hN : (l.length + ys.length) * 72 ≤ 140737488355328) (hbase : base ≤ w.heap.size)
    (h : ∀ v' w', OwnV w' base v' (l ++ ys) → Below base w w' → w.grownBy w' v.ownBlock → K (a.put o.dst v') w') : o.wp Tryz.prog a w K Q := by
  subst hn
  obtain ⟨v', w', hrun, h1, h2, h3, _⟩ := run_append_vw w o.type base v l hown A ys c hr hya hN hbase
  unfold Oper.wp execOp
  simp only [ho, resolve, invoke, builtin, Sem.run_bind, Sem.run_pure, Result.andThen_ok, List.map_toArray, List.map_cons, List.map_nil, hs, hx, hrun]
  exact h v' w' h1 h2 h3
theorem wpList_append_vw (hgd : o.guard = none) (s x : Operand)
    (ho : o.op = .call { callee := .builtin .append, args := #[s, x], argTypes := #[54, 54] })
    (base : Nat) (v : Value) (l : List RulV) (hs : a.eval s = v) (hown : OwnV w base v l)
    (A : Option Addr) (ys : List RulV) (n c : Nat) (hn : n = ys.length) (hx : a.eval x = .slice A n c) (hr : RdV w A ys c)
    (hya : ∀ x ∈ ys, ∀ y ∈ [x.A, x.B], ∀ a, y = some a → v.ownBlock ≠ some a.block ∧ a.block < w.heap.size) (hN : (l.length + ys.length) * 72 ≤ 140737488355328) (hbase : base ≤ w.heap.size)
    (h : ∀ v' w', OwnV w' base v' (l ++ ys) → Below base w w' → w.grownBy w' v.ownBlock → wpList Tryz.prog ops Q rest (a.put o.dst v') w') : wpList Tryz.prog ops Q (o :: rest) a w := by
  refine wpList_plain hgd fun K hK => ?_
  exact wp_append_vw s x ho base v l hs hown A ys n c hn hx hr hya hN hbase fun v' w' h1 h2 h3 => hK _ _ (h v' w' h1 h2 h3)
theorem step_append_vw {w : World} {ops : Array Oper} {o : Oper} {a : Act} {K : Act → World → Prop} {Q : Exit → Act → World → Prop} {E : Prop} (hgd : o.guard = none) (s x : Operand)
    (ho : o.op = .call { callee := .builtin .append, args := #[s, x], argTypes := #[54, 54] })
    (base : Nat) (v : Value) (l : List RulV) (hs : a.eval s = v) (hown : OwnV w base v l)
    (A : Option Addr) (ys : List RulV) (n c : Nat) (hn : n = ys.length) (hx : a.eval x = .slice A n c) (hr : RdV w A ys c)
    (hya : ∀ x ∈ ys, ∀ y ∈ [x.A, x.B], ∀ a, y = some a → v.ownBlock ≠ some a.block ∧ a.block < w.heap.size) (hN : (l.length + ys.length) * 72 ≤ 140737488355328) (hbase : base ≤ w.heap.size)
    (h : ∀ v' w', OwnV w' base v' (l ++ ys) → Below base w w' → w.grownBy w' v.ownBlock → K (a.put o.dst v') w') : if Region.wanted o (yielded ops a.tmps) = true then Oper.wp Tryz.prog o a w K Q else E := by
  have hw : Region.wanted o (yielded ops a.tmps) = true := by simp [Region.wanted, hgd]
  rw [if_pos hw]
  exact wp_append_vw s x ho base v l hs hown A ys n c hn hx hr hya hN hbase h
/-- One, just laid. -/
theorem newV (w : World) (y : RulV) (hp : RulV.R w y) : RdV (w.alloc (.cells #[.bool y.ex, .slice y.A y.xs.length y.c, .bool y.b, .slice y.B y.ys.length y.d, .bool y.f] 94)) (some ⟨w.heap.size, 0, none⟩) [y] 1 := by
  have hb : Below w.heap.size w (w.alloc (.cells #[.bool y.ex, .slice y.A y.xs.length y.c, .bool y.b, .slice y.B y.ys.length y.d, .bool y.f] 94)) := (Below.refl _ _).alloc (Nat.le_refl _) _
  refine ⟨.inr ⟨w.heap.size, 0, rfl, by simp, fun k hk => ?_⟩, fun x hx => ?_, by simp, by decide, fun h => by cases h⟩
  · obtain rfl : k = 0 := by simpa using hk
    exact ⟨cells_new _ _ _ 0 _ rfl, cells_new _ _ _ 1 _ rfl, cells_new _ _ _ 2 _ rfl, cells_new _ _ _ 3 _ rfl, cells_new _ _ _ 4 _ rfl⟩
  · rw [List.mem_singleton.1 hx]
    exact hp.keep hb
end
end Go.Proofs.YtipljgkhooeeiaaGreatDoor
