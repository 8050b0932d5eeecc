/- Lines in slices once more: apart where they are not empty. -/
import Derived.Test.YtchgbigjfpffeaaDoorOwnVw
import Derived.Test.YtchgbigjfpffeaaDoorOwnPt
import Derived.Maps.AppendAt
import Derived.OwnWalk
import Derived.Laws.OwnMore
import Derived.Laws.AppendOwnNone
namespace Go.Proofs.YtchgbigjfpffeaaDoor
open Go.RowKit

theorem RulV.adr_lt {w : World} {v : RulV} (h : RulV.R w v) : ∀ y ∈ adr v.A v.xs ++ adr v.B v.ys, ∀ a, y = some a → a.block < w.heap.size := by
  intro y hy a e
  rcases List.mem_append.1 hy with h1 | h1
  · exact h.left.adr_lt y h1 a e
  · exact h.right.adr_lt y h1 a e
theorem RulR.grownW {w w' : World} {k : Option Nat} {ex : Bool} {A : Option Addr} {xs : List ByteArray} {c : Nat} {b : Bool} {B : Option Addr} {ys : List ByteArray} {d : Nat} {f : Bool} {r : Pt.Rul} (h : RulR w ex A xs c b B ys d f r) (hg : w.grownBy w' k)
    (ha : ∀ y ∈ adr A xs ++ adr B ys, ∀ a, y = some a → k ≠ some a.block ∧ a.block < w.heap.size) : RulR w' ex A xs c b B ys d f r :=
  ⟨h.ex, h.left.grownA hg fun y hy a e => ha y (List.mem_append_left _ hy) a e, h.right.grownA hg fun y hy a e => ha y (List.mem_append_right _ hy) a e⟩
section
variable {w : World} {ops : Array Oper} {rest : List Oper} {o : Oper} {a : Act} {Q : Exit → Act → World → Prop}
def oneW (v : RulV) : List Value := [.bool v.ex, .slice v.A v.xs.length v.c, .bool v.b, .slice v.B v.ys.length v.d, .bool v.f]
def cellsW (l : List RulV) : List Value := l.flatMap oneW
theorem cellsW_length : ∀ l : List RulV, (cellsW l).length = l.length * 5
  | [] => rfl
  | v :: l => by
    have := cellsW_length l
    simp only [cellsW, oneW, List.flatMap_cons, List.length_append, List.length_cons, List.length_nil] at this ⊢
    omega
theorem cellsW_append (l m : List RulV) : cellsW (l ++ m) = cellsW l ++ cellsW m := by simp [cellsW]
theorem cellsW_at : ∀ (l : List RulV) (j : Nat) (u : Value), (cellsW l)[j]? = some u → ∃ k i, ∃ h : k < l.length, i < 5 ∧ j = k * 5 + i ∧ (oneW l[k])[i]? = some u
  | [], j, u, h => by simp [cellsW] at h
  | v :: l, j, u, h => by
    have e : cellsW (v :: l) = oneW v ++ cellsW l := by simp [cellsW]
    rw [e] at h
    have hl : (oneW v).length = 5 := rfl
    by_cases hj : j < 5
    · rw [List.getElem?_append_left (by omega)] at h
      exact ⟨0, j, by simp, hj, by omega, h⟩
    · rw [List.getElem?_append_right (by omega), hl] at h
      obtain ⟨k, i, hk, hi, he, hc⟩ := cellsW_at l _ u h
      exact ⟨k + 1, i, by simpa using hk, hi, by omega, hc⟩
theorem cellsW_get : ∀ (l : List RulV) (k : Nat) (h : k < l.length) (i : Nat), i < 5 → (cellsW l)[k * 5 + i]? = (oneW l[k])[i]?
  | [], _, h, _, _ => by simp at h
  | v :: l, 0, _, i, hi => by
    have e : cellsW (v :: l) = oneW v ++ cellsW l := by simp [cellsW]
    have hl : (oneW v).length = 5 := rfl
    rw [e, List.getElem?_append_left (by omega), Nat.zero_mul, Nat.zero_add]
    rfl
  | v :: l, k + 1, h, i, hi => by
    have e : cellsW (v :: l) = oneW v ++ cellsW l := by simp [cellsW]
    have hl : (oneW v).length = 5 := rfl
    rw [e, List.getElem?_append_right (by omega), hl, show (k + 1) * 5 + i - 5 = k * 5 + i by omega, cellsW_get l k (by simpa using h) i hi]
    rfl
theorem cellsW_one {l : List RulV} : ∀ u ∈ cellsW l, u.oneCell' = true := by
  intro u hu
  simp only [cellsW, oneW, List.mem_flatMap, List.mem_cons, List.not_mem_nil, or_false] at hu
  obtain ⟨x, _, hx⟩ := hu
  rcases hx with rfl | rfl | rfl | rfl | rfl <;> rfl
/-- A slice of the call's own that holds these, from block 'base' on; what they name lies elsewhere. -/
structure OwnW (w : World) (base : Nat) (v : Value) (l : List RulV) : Prop where
  row : w.ownsRow base 34 5 v l.length (cellsW l)
  parts : ∀ x ∈ l, RulV.R w x
  apart : ∀ x ∈ l, ∀ y ∈ (adr x.A x.xs ++ adr x.B x.ys), ∀ a, y = some a → v.ownBlock ≠ some a.block ∧ a.block < w.heap.size
theorem OwnW.empty (w : World) (base : Nat) : OwnW w base (.slice none 0 0) [] := ⟨World.ownsRow_nil w base _ 5, fun x h => (by cases h), fun x h => (by cases h)⟩
theorem infoW : (Tryd.prog.info? 34).map (fun i => (i.zero, i.size, i.bytes)) = some (some (.agg #[.bool false, .slice none 0 0, .bool false, .slice none 0 0, .bool false]), 5, 72) := by kernel_rfl
theorem infoWParts : ∃ i, Tryd.prog.info? 34 = some i ∧ i.zero = some (.agg #[.bool false, .slice none 0 0, .bool false, .slice none 0 0, .bool false]) ∧ i.size = 5 ∧ i.bytes = 72 := by
  have hi := infoW
  cases hx : Tryd.prog.info? 34 with
  | none => rw [hx] at hi; simp at hi
  | some i =>
    rw [hx] at hi
    simp only [Option.map_some, Option.some.injEq, Prod.mk.injEq] at hi
    exact ⟨i, rfl, hi.1, hi.2.1, hi.2.2⟩
theorem OwnW.below {w w' : World} {base : Nat} {v : Value} {l : List RulV} (h : OwnW w base v l) (hb : Below w.heap.size w w') : OwnW w' base v l := by
  refine ⟨⟨h.row.1, ?_⟩, fun x hx => (h.parts x hx).keep hb, fun x hx y hy a ha => ⟨(h.apart x hx y hy a ha).1, Nat.lt_of_lt_of_le (h.apart x hx y hy a ha).2 hb.size⟩⟩
  rcases h.row.2 with hv | ⟨g, cap, cur, hv, hbg, hg, r⟩
  · exact .inl hv
  · exact .inr ⟨g, cap, cur, hv, hbg, by rw [hb.block g (Array.getElem?_eq_some_iff.1 hg).1]; exact hg, r⟩
theorem OwnW.more {w : World} {base base' : Nat} {v : Value} {l : List RulV} (h : OwnW w base v l) (hB : base' ≤ base) : OwnW w base' v l := by
  refine ⟨⟨h.row.1, ?_⟩, h.parts, h.apart⟩
  rcases h.row.2 with hv | ⟨g, cap, cur, hv, hbg, r⟩
  · exact .inl hv
  · exact .inr ⟨g, cap, cur, hv, by omega, r⟩
theorem OwnW.form {w : World} {base : Nat} {v : Value} {l : List RulV} (h : OwnW w base v l) : ∃ A e, v = .slice A l.length e ∧ e ≤ maxLen := by
  rcases h.row.2 with ⟨hv, hn⟩ | ⟨g, cap, cur, hv, hbg, hg, hnc, hcm, r⟩
  · exact ⟨none, 0, by rw [hv, hn], Nat.zero_le _⟩
  · exact ⟨some ⟨g, 0, none⟩, cap, hv, hcm⟩
theorem OwnW.lt {w : World} {base : Nat} {v : Value} {l : List RulV} (h : OwnW w base v l) : ∀ k, v.ownBlock = some k → base ≤ k ∧ k < w.heap.size := fun k hk => World.ownsRow.lt h.row k hk
theorem OwnW.rd {w : World} {base : Nat} {v : Value} {l : List RulV} (h : OwnW w base v l) : ∃ A c, v = .slice A l.length c ∧ RdV w A l c ∧ (∀ g o, A = some ⟨g, o, none⟩ → base ≤ g) := by
  rcases h.row.2 with ⟨hv, hn⟩ | ⟨g, cap, cur, hv, hbg, hg, hnc, hcm, _⟩
  · exact ⟨none, 0, by rw [hv, hn], ⟨.inl (List.eq_nil_of_length_eq_zero hn), h.parts, by omega, Nat.zero_le _, fun _ => rfl⟩, fun g o h => by cases h⟩
  · refine ⟨some ⟨g, 0, none⟩, cap, hv, ⟨.inr ⟨g, 0, rfl, (Array.getElem?_eq_some_iff.1 hg).1, fun k hk => ?_⟩, h.parts, hnc, hcm, fun h => by cases h⟩, fun g' o h => by injection h with h; injection h with h; subst h; exact hbg⟩
    have hcell : ∀ i, i < 5 → ∀ u, (oneW l[k])[i]? = some u → w.cell? ⟨g, 0 + (k * 5 + i), none⟩ = some u := fun i hi u hu => by
      have hc := World.ownsRow.cells h.row (g := g) (by rw [hv]; rfl) (k * 5 + i) u (by rw [cellsW_get l k hk i hi]; exact hu)
      rw [add_plain] at hc
      exact hc
    refine ⟨hcell 0 (by decide) _ rfl, hcell 1 (by decide) _ rfl, hcell 2 (by decide) _ rfl, hcell 3 (by decide) _ rfl, hcell 4 (by decide) _ rfl⟩
theorem rdW_cells {w : World} {ad : Addr} {l : List RulV} {c : Nat} (h : RdV w (some ad) l c) : ∀ j u, (cellsW l)[j]? = some u → w.cell? (ad.add j) = some u := by
  intro j u hu
  obtain ⟨k, i, hk, hi, rfl, hc⟩ := cellsW_at l j u hu
  rcases h.cells with rfl | ⟨g, o, hA, hlt, hcell⟩
  · simp at hk
  · injection hA with hA
    subst hA
    rw [add_plain]
    obtain ⟨q0, q1, q2, q3, q4⟩ := hcell k hk
    match i, hi, hc with
    | 0, _, hc => simp [oneW] at hc; rw [← hc]; exact q0
    | 1, _, hc => simp [oneW] at hc; rw [← hc]; exact q1
    | 2, _, hc => simp [oneW] at hc; rw [← hc]; exact q2
    | 3, _, hc => simp [oneW] at hc; rw [← hc]; exact q3
    | 4, _, hc => simp [oneW] at hc; rw [← hc]; exact q4
theorem ownW_after {w w' : World} {base : Nat} {v v' : Value} {l ys : List RulV} (hown : OwnW w base v l) (hp : ∀ x ∈ ys, RulV.R w x) (hya : ∀ x ∈ ys, ∀ y ∈ (adr x.A x.xs ++ adr x.B x.ys), ∀ a, y = some a → v.ownBlock ≠ some a.block ∧ a.block < w.heap.size)
    (hown' : w'.ownsRow base 34 5 v' (l.length + ys.length) (cellsW l ++ cellsW ys)) (hg : w.grownBy w' v.ownBlock) (hat : v'.ownBlock = v.ownBlock ∨ v'.ownBlock = some w.heap.size) (hbase : base ≤ w.heap.size) :
    OwnW w' base v' (l ++ ys) ∧ Below base w w' := by
  have hap : ∀ x ∈ l ++ ys, ∀ y ∈ (adr x.A x.xs ++ adr x.B x.ys), ∀ a, y = some a → v.ownBlock ≠ some a.block ∧ a.block < w.heap.size := fun z hz y hy a ha => by
    rcases List.mem_append.1 hz with h | h
    · exact hown.apart z h y hy a ha
    · exact hya z h y hy a ha
  refine ⟨⟨?_, fun x hx => ?_, fun x hx y hy a ha => ⟨?_, Nat.lt_of_lt_of_le (hap x hx y hy a ha).2 hg.size⟩⟩, ⟨hg.os, hg.tape, hg.output, hg.size, fun k hk => hg.block k (by omega) (fun e2 => ?_)⟩⟩
  · rw [List.length_append, cellsW_append]
    exact hown'
  · have hq : RulV.R w x := by
      rcases List.mem_append.1 hx with h | h
      · exact hown.parts x h
      · exact hp x h
    exact hq.grownW hg (hap x hx)
  · intro e
    rcases hat with e2 | e2
    · exact (hap x hx y hy a ha).1 (e2 ▸ e)
    · rw [e2] at e
      injection e with e
      have := (hap x hx y hy a ha).2
      omega
  · have := (World.ownsRow.lt hown.row k e2.symm).1
    omega
theorem run_append_vr (w : World) (ty : TypeId) (base : Nat) (v : Value) (l : List RulV) (hown : OwnW w base v l) (A : Option Addr) (ys : List RulV) (c : Nat) (hr : RdV w A ys c)
    (hya : ∀ x ∈ ys, ∀ y ∈ (adr x.A x.xs ++ adr x.B x.ys), ∀ a, y = some a → v.ownBlock ≠ some a.block ∧ a.block < w.heap.size) (hN : (l.length + ys.length) * 72 ≤ 140737488355328) (hbase : base ≤ w.heap.size) :
    ∃ v' w', (Builtin.append_ #[22, 22] ty #[v, .slice A ys.length c]).run Tryd.prog w = .ok v' w' ∧ OwnW w' base v' (l ++ ys) ∧ Below base w w' ∧ w.grownBy w' v.ownBlock ∧ (v'.ownBlock = v.ownBlock ∨ v'.ownBlock = some w.heap.size) := by
  obtain ⟨i, hi, hz, hz1, hz2⟩ := infoWParts
  cases A with
  | none =>
    obtain rfl := hr.nil rfl
    have hx0 : ys = [] := by
      rcases hr.cells with h | ⟨g, o', hA, _⟩
      · exact h
      · cases hA
    subst hx0
    have hrun := run_append_owned_none (P := Tryd.prog) (w := w) base 22 ty 34 i 5 Tryd.underlying22 hi v l.length (cellsW l) hown.row
    exact ⟨v, w, hrun, by rw [List.append_nil]; exact hown, Below.refl _ _, World.grownBy.refl _ _, .inl rfl⟩
  | some ad =>
    obtain ⟨v', w', hrun, hown', hg, _, hat⟩ := run_append_own_at (P := Tryd.prog) w base 22 ty 34 i _ 5 72 Tryd.underlying22 hi hz hz1 hz2 rfl (by omega) v l.length (cellsW l) hown.row ad ys.length c (cellsW ys) (cellsW_length ys) (rdW_cells hr) cellsW_one (by simp only [maxLen]; omega) (by omega) hbase
    obtain ⟨h1, h2⟩ := ownW_after hown hr.parts hya hown' hg hat hbase
    exact ⟨v', w', hrun, h1, h2, hg, hat⟩
theorem wp_append_vr {w : World} {o : Oper} {a : Act} {K : Act → World → Prop} {Q : Exit → Act → World → Prop} (s x : Operand)
    (ho : o.op = .call { callee := .builtin .append, args := #[s, x], argTypes := #[22, 22] })
    (base : Nat) (v : Value) (l : List RulV) (hs : a.eval s = v) (hown : OwnW w base v l)
    (A : Option Addr) (ys : List RulV) (n c : Nat) (hn : n = ys.length) (hx : a.eval x = .slice A n c) (hr : RdV w A ys c)
    (hya : ∀ x ∈ ys, ∀ y ∈ (adr x.A x.xs ++ adr x.B x.ys), ∀ a, y = some a → v.ownBlock ≠ some a.block ∧ a.block < w.heap.size) (hN : (l.length + ys.length) * 72 ≤ 140737488355328) (hbase : base ≤ w.heap.size)
    (h : ∀ v' w', OwnW w' base v' (l ++ ys) → Below base w w' → w.grownBy w' v.ownBlock → K (a.put o.dst v') w') : o.wp Tryd.prog a w K Q := by
  subst hn
  obtain ⟨v', w', hrun, h1, h2, h3, _⟩ := run_append_vr w o.type base v l hown A ys c hr hya hN hbase
  unfold Oper.wp execOp
  simp only [ho, resolve, invoke, builtin, Sem.run_bind, Sem.run_pure, Result.andThen_ok, List.map_toArray, List.map_cons, List.map_nil, hs, hx, hrun]
  exact h v' w' h1 h2 h3
theorem wpList_append_vr (hgd : o.guard = none) (s x : Operand)
    (ho : o.op = .call { callee := .builtin .append, args := #[s, x], argTypes := #[22, 22] })
    (base : Nat) (v : Value) (l : List RulV) (hs : a.eval s = v) (hown : OwnW w base v l)
    (A : Option Addr) (ys : List RulV) (n c : Nat) (hn : n = ys.length) (hx : a.eval x = .slice A n c) (hr : RdV w A ys c)
    (hya : ∀ x ∈ ys, ∀ y ∈ (adr x.A x.xs ++ adr x.B x.ys), ∀ a, y = some a → v.ownBlock ≠ some a.block ∧ a.block < w.heap.size) (hN : (l.length + ys.length) * 72 ≤ 140737488355328) (hbase : base ≤ w.heap.size)
    (h : ∀ v' w', OwnW w' base v' (l ++ ys) → Below base w w' → w.grownBy w' v.ownBlock → wpList Tryd.prog ops Q rest (a.put o.dst v') w') : wpList Tryd.prog ops Q (o :: rest) a w := by
  refine wpList_plain hgd fun K hK => ?_
  exact wp_append_vr s x ho base v l hs hown A ys n c hn hx hr hya hN hbase fun v' w' h1 h2 h3 => hK _ _ (h v' w' h1 h2 h3)
theorem step_append_vr {w : World} {ops : Array Oper} {o : Oper} {a : Act} {K : Act → World → Prop} {Q : Exit → Act → World → Prop} {E : Prop} (hgd : o.guard = none) (s x : Operand)
    (ho : o.op = .call { callee := .builtin .append, args := #[s, x], argTypes := #[22, 22] })
    (base : Nat) (v : Value) (l : List RulV) (hs : a.eval s = v) (hown : OwnW w base v l)
    (A : Option Addr) (ys : List RulV) (n c : Nat) (hn : n = ys.length) (hx : a.eval x = .slice A n c) (hr : RdV w A ys c)
    (hya : ∀ x ∈ ys, ∀ y ∈ (adr x.A x.xs ++ adr x.B x.ys), ∀ a, y = some a → v.ownBlock ≠ some a.block ∧ a.block < w.heap.size) (hN : (l.length + ys.length) * 72 ≤ 140737488355328) (hbase : base ≤ w.heap.size)
    (h : ∀ v' w', OwnW w' base v' (l ++ ys) → Below base w w' → w.grownBy w' v.ownBlock → K (a.put o.dst v') w') : if Region.wanted o (yielded ops a.tmps) = true then Oper.wp Tryd.prog o a w K Q else E := by
  have hw : Region.wanted o (yielded ops a.tmps) = true := by simp [Region.wanted, hgd]
  rw [if_pos hw]
  exact wp_append_vr s x ho base v l hs hown A ys n c hn hx hr hya hN hbase h
/-- One, just laid. -/
theorem newW (w : World) (y : RulV) (hp : RulV.R w y) : RdV (w.alloc (.cells #[.bool y.ex, .slice y.A y.xs.length y.c, .bool y.b, .slice y.B y.ys.length y.d, .bool y.f] 34)) (some ⟨w.heap.size, 0, none⟩) [y] 1 := by
  have hb : Below w.heap.size w (w.alloc (.cells #[.bool y.ex, .slice y.A y.xs.length y.c, .bool y.b, .slice y.B y.ys.length y.d, .bool y.f] 34)) := (Below.refl _ _).alloc (Nat.le_refl _) _
  refine ⟨.inr ⟨w.heap.size, 0, rfl, by simp, fun k hk => ?_⟩, fun x hx => ?_, by simp, by decide, fun h => by cases h⟩
  · obtain rfl : k = 0 := by simpa using hk
    exact ⟨cells_new _ _ _ 0 _ rfl, cells_new _ _ _ 1 _ rfl, cells_new _ _ _ 2 _ rfl, cells_new _ _ _ 3 _ rfl, cells_new _ _ _ 4 _ rfl⟩
  · rw [List.mem_singleton.1 hx]
    exact hp.keep hb
end
end Go.Proofs.YtchgbigjfpffeaaDoor
