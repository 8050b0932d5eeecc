/- Slices of the call's own that hold patterns; append. -/
import Derived.Test.YtembmegllpkmfaaGreatDoorRulAll
import Derived.Test.YtembmegllpkmfaaGreatDoorPatSubA
import Derived.Maps.AppendAt
import Derived.OwnWalk
import Derived.Laws.OwnMore
import Derived.Laws.AppendOwnNone
namespace Go.Proofs.YtembmegllpkmfaaGreatDoor
open Go.RowKit

/-- The address of what is not empty. -/
def adr {α : Type} (A : Option Addr) (xs : List α) : List (Option Addr) := match xs with | [] => [] | _ :: _ => [A]
theorem adr_mem {α : Type} {A y : Option Addr} {xs : List α} (h : y ∈ adr A xs) : y = A := by
  cases xs with
  | nil => cases h
  | cons x r => exact List.mem_singleton.1 h
theorem PatR.adr_lt {w : World} {A : Option Addr} {xs : List ByteArray} {c : Nat} {b : Bool} {p : Pt.Pat} (h : PatR w A xs c b p) : ∀ y ∈ adr A xs, ∀ a, y = some a → a.block < w.heap.size := by
  intro y hy a e
  have hya := adr_mem hy
  rcases h.rd with h0 | ⟨g, o, hA, hlt, _⟩
  · subst h0; cases hy
  · rw [hya, hA] at e
    injection e with e
    rw [← e]; exact hlt
theorem PatR.grownA {w w' : World} {k : Option Nat} {A : Option Addr} {xs : List ByteArray} {c : Nat} {b : Bool} {p : Pt.Pat} (h : PatR w A xs c b p) (hg : w.grownBy w' k) (ha : ∀ y ∈ adr A xs, ∀ a, y = some a → k ≠ some a.block ∧ a.block < w.heap.size) : PatR w' A xs c b p := by
  cases xs with
  | nil => exact ⟨.inl rfl, h.parts, h.rest, h.le, h.cm, h.nil, h.sz⟩
  | cons x r => exact h.grown hg fun a e => (ha A (by simp [adr]) a e).1
section
variable {w : World} {ops : Array Oper} {rest : List Oper} {o : Oper} {a : Act} {Q : Exit → Act → World → Prop}
def oneP (v : BindV) : List Value := [.slice v.A v.xs.length v.c, .bool v.b]
def cellsP (l : List BindV) : List Value := l.flatMap oneP
theorem cellsP_length : ∀ l : List BindV, (cellsP l).length = l.length * 2
  | [] => rfl
  | v :: l => by
    have := cellsP_length l
    simp only [cellsP, oneP, List.flatMap_cons, List.length_append, List.length_cons, List.length_nil] at this ⊢
    omega
theorem cellsP_append (l m : List BindV) : cellsP (l ++ m) = cellsP l ++ cellsP m := by simp [cellsP]
theorem cellsP_at : ∀ (l : List BindV) (j : Nat) (u : Value), (cellsP l)[j]? = some u → ∃ k i, ∃ h : k < l.length, i < 2 ∧ j = k * 2 + i ∧ (oneP l[k])[i]? = some u
  | [], j, u, h => by simp [cellsP] at h
  | v :: l, j, u, h => by
    have e : cellsP (v :: l) = oneP v ++ cellsP l := by simp [cellsP]
    rw [e] at h
    have hl : (oneP v).length = 2 := rfl
    by_cases hj : j < 2
    · rw [List.getElem?_append_left (by omega)] at h
      exact ⟨0, j, by simp, hj, by omega, h⟩
    · rw [List.getElem?_append_right (by omega), hl] at h
      obtain ⟨k, i, hk, hi, he, hc⟩ := cellsP_at l _ u h
      exact ⟨k + 1, i, by simpa using hk, hi, by omega, hc⟩
theorem cellsP_get : ∀ (l : List BindV) (k : Nat) (h : k < l.length) (i : Nat), i < 2 → (cellsP l)[k * 2 + i]? = (oneP l[k])[i]?
  | [], _, h, _, _ => by simp at h
  | v :: l, 0, _, i, hi => by
    have e : cellsP (v :: l) = oneP v ++ cellsP l := by simp [cellsP]
    have hl : (oneP v).length = 2 := rfl
    rw [e, List.getElem?_append_left (by omega), Nat.zero_mul, Nat.zero_add]
    rfl
  | v :: l, k + 1, h, i, hi => by
    have e : cellsP (v :: l) = oneP v ++ cellsP l := by simp [cellsP]
    have hl : (oneP v).length = 2 := rfl
    rw [e, List.getElem?_append_right (by omega), hl, show (k + 1) * 2 + i - 2 = k * 2 + i by omega, cellsP_get l k (by simpa using h) i hi]
    rfl
theorem cellsP_one {l : List BindV} : ∀ u ∈ cellsP l, u.oneCell' = true := by
  intro u hu
  simp only [cellsP, oneP, List.mem_flatMap, List.mem_cons, List.not_mem_nil, or_false] at hu
  obtain ⟨x, _, hx⟩ := hu
  rcases hx with rfl | rfl <;> rfl
/-- A slice of the call's own that holds these, from block 'base' on; what they name lies elsewhere. -/
structure OwnP (w : World) (base : Nat) (v : Value) (l : List BindV) : Prop where
  row : w.ownsRow base 24 2 v l.length (cellsP l)
  parts : ∀ x ∈ l, PatR w x.A x.xs x.c x.b x.pat
  apart : ∀ x ∈ l, ∀ y ∈ adr x.A x.xs, ∀ a, y = some a → v.ownBlock ≠ some a.block ∧ a.block < w.heap.size
theorem OwnP.empty (w : World) (base : Nat) : OwnP w base (.slice none 0 0) [] := ⟨World.ownsRow_nil w base _ 2, fun x h => (by cases h), fun x h => (by cases h)⟩
theorem infoP : (Tryz.prog.info? 24).map (fun i => (i.zero, i.size, i.bytes)) = some (some (.agg #[.slice none 0 0, .bool false]), 2, 32) := by kernel_rfl
theorem infoPParts : ∃ i, Tryz.prog.info? 24 = some i ∧ i.zero = some (.agg #[.slice none 0 0, .bool false]) ∧ i.size = 2 ∧ i.bytes = 32 := by
  have hi := infoP
  cases hx : Tryz.prog.info? 24 with
  | none => rw [hx] at hi; simp at hi
  | some i =>
    rw [hx] at hi
    simp only [Option.map_some, Option.some.injEq, Prod.mk.injEq] at hi
    exact ⟨i, rfl, hi.1, hi.2.1, hi.2.2⟩
theorem OwnP.below {w w' : World} {base : Nat} {v : Value} {l : List BindV} (h : OwnP w base v l) (hb : Below w.heap.size w w') : OwnP w' base v l := by
  refine ⟨⟨h.row.1, ?_⟩, fun x hx => (h.parts x hx).keep hb, fun x hx y hy a ha => ⟨(h.apart x hx y hy a ha).1, Nat.lt_of_lt_of_le (h.apart x hx y hy a ha).2 hb.size⟩⟩
  rcases h.row.2 with hv | ⟨g, cap, cur, hv, hbg, hg, r⟩
  · exact .inl hv
  · exact .inr ⟨g, cap, cur, hv, hbg, by rw [hb.block g (Array.getElem?_eq_some_iff.1 hg).1]; exact hg, r⟩
theorem OwnP.more {w : World} {base base' : Nat} {v : Value} {l : List BindV} (h : OwnP w base v l) (hB : base' ≤ base) : OwnP w base' v l := by
  refine ⟨⟨h.row.1, ?_⟩, h.parts, h.apart⟩
  rcases h.row.2 with hv | ⟨g, cap, cur, hv, hbg, r⟩
  · exact .inl hv
  · exact .inr ⟨g, cap, cur, hv, by omega, r⟩
theorem OwnP.form {w : World} {base : Nat} {v : Value} {l : List BindV} (h : OwnP w base v l) : ∃ A e, v = .slice A l.length e ∧ e ≤ maxLen := by
  rcases h.row.2 with ⟨hv, hn⟩ | ⟨g, cap, cur, hv, hbg, hg, hnc, hcm, r⟩
  · exact ⟨none, 0, by rw [hv, hn], Nat.zero_le _⟩
  · exact ⟨some ⟨g, 0, none⟩, cap, hv, hcm⟩
theorem OwnP.lt {w : World} {base : Nat} {v : Value} {l : List BindV} (h : OwnP w base v l) : ∀ k, v.ownBlock = some k → base ≤ k ∧ k < w.heap.size := fun k hk => World.ownsRow.lt h.row k hk
theorem OwnP.rd {w : World} {base : Nat} {v : Value} {l : List BindV} (h : OwnP w base v l) : ∃ A c, v = .slice A l.length c ∧ RdB w A l c ∧ (∀ g o, A = some ⟨g, o, none⟩ → base ≤ g) := by
  rcases h.row.2 with ⟨hv, hn⟩ | ⟨g, cap, cur, hv, hbg, hg, hnc, hcm, _⟩
  · exact ⟨none, 0, by rw [hv, hn], ⟨.inl (List.eq_nil_of_length_eq_zero hn), h.parts, by omega, Nat.zero_le _, fun _ => rfl⟩, fun g o h => by cases h⟩
  · refine ⟨some ⟨g, 0, none⟩, cap, hv, ⟨.inr ⟨g, 0, rfl, (Array.getElem?_eq_some_iff.1 hg).1, fun k hk => ?_⟩, h.parts, hnc, hcm, fun h => by cases h⟩, fun g' o h => by injection h with h; injection h with h; subst h; exact hbg⟩
    have hcell : ∀ i, i < 2 → ∀ u, (oneP l[k])[i]? = some u → w.cell? ⟨g, 0 + (k * 2 + i), none⟩ = some u := fun i hi u hu => by
      have hc := World.ownsRow.cells h.row (g := g) (by rw [hv]; rfl) (k * 2 + i) u (by rw [cellsP_get l k hk i hi]; exact hu)
      rw [add_plain] at hc
      exact hc
    refine ⟨hcell 0 (by decide) _ rfl, hcell 1 (by decide) _ rfl⟩
theorem rdP_cells {w : World} {ad : Addr} {l : List BindV} {c : Nat} (h : RdB w (some ad) l c) : ∀ j u, (cellsP l)[j]? = some u → w.cell? (ad.add j) = some u := by
  intro j u hu
  obtain ⟨k, i, hk, hi, rfl, hc⟩ := cellsP_at l j u hu
  rcases h.cells with rfl | ⟨g, o, hA, hlt, hcell⟩
  · simp at hk
  · injection hA with hA
    subst hA
    rw [add_plain]
    obtain ⟨q0, q1⟩ := hcell k hk
    match i, hi, hc with
    | 0, _, hc => simp [oneP] at hc; rw [← hc]; exact q0
    | 1, _, hc => simp [oneP] at hc; rw [← hc]; exact q1
theorem ownP_after {w w' : World} {base : Nat} {v v' : Value} {l ys : List BindV} (hown : OwnP w base v l) (hp : ∀ x ∈ ys, PatR w x.A x.xs x.c x.b x.pat) (hya : ∀ x ∈ ys, ∀ y ∈ adr x.A x.xs, ∀ a, y = some a → v.ownBlock ≠ some a.block ∧ a.block < w.heap.size)
    (hown' : w'.ownsRow base 24 2 v' (l.length + ys.length) (cellsP l ++ cellsP ys)) (hg : w.grownBy w' v.ownBlock) (hat : v'.ownBlock = v.ownBlock ∨ v'.ownBlock = some w.heap.size) (hbase : base ≤ w.heap.size) :
    OwnP w' base v' (l ++ ys) ∧ Below base w w' := by
  have hap : ∀ x ∈ l ++ ys, ∀ y ∈ adr x.A x.xs, ∀ a, y = some a → v.ownBlock ≠ some a.block ∧ a.block < w.heap.size := fun z hz y hy a ha => by
    rcases List.mem_append.1 hz with h | h
    · exact hown.apart z h y hy a ha
    · exact hya z h y hy a ha
  refine ⟨⟨?_, fun x hx => ?_, fun x hx y hy a ha => ⟨?_, Nat.lt_of_lt_of_le (hap x hx y hy a ha).2 hg.size⟩⟩, ⟨hg.os, hg.tape, hg.output, hg.size, fun k hk => hg.block k (by omega) (fun e2 => ?_)⟩⟩
  · rw [List.length_append, cellsP_append]
    exact hown'
  · have hq : PatR w x.A x.xs x.c x.b x.pat := by
      rcases List.mem_append.1 hx with h | h
      · exact hown.parts x h
      · exact hp x h
    exact hq.grownA hg (hap x hx)
  · intro e
    rcases hat with e2 | e2
    · exact (hap x hx y hy a ha).1 (e2 ▸ e)
    · rw [e2] at e
      injection e with e
      have := (hap x hx y hy a ha).2
      omega
  · have := (World.ownsRow.lt hown.row k e2.symm).1
    omega
theorem run_append_pt (w : World) (ty : TypeId) (base : Nat) (v : Value) (l : List BindV) (hown : OwnP w base v l) (A : Option Addr) (ys : List BindV) (c : Nat) (hr : RdB w A ys c)
    (hya : ∀ x ∈ ys, ∀ y ∈ adr x.A x.xs, ∀ a, y = some a → v.ownBlock ≠ some a.block ∧ a.block < w.heap.size) (hN : (l.length + ys.length) * 32 ≤ 140737488355328) (hbase : base ≤ w.heap.size) :
    ∃ v' w', (Builtin.append_ #[25, 25] ty #[v, .slice A ys.length c]).run Tryz.prog w = .ok v' w' ∧ OwnP w' base v' (l ++ ys) ∧ Below base w w' ∧ w.grownBy w' v.ownBlock ∧ (v'.ownBlock = v.ownBlock ∨ v'.ownBlock = some w.heap.size) := by
  obtain ⟨i, hi, hz, hz1, hz2⟩ := infoPParts
  cases A with
  | none =>
    obtain rfl := hr.nil rfl
    have hx0 : ys = [] := by
      rcases hr.cells with h | ⟨g, o', hA, _⟩
      · exact h
      · cases hA
    subst hx0
    have hrun := run_append_owned_none (P := Tryz.prog) (w := w) base 25 ty 24 i 2 Tryz.underlying25 hi v l.length (cellsP l) hown.row
    exact ⟨v, w, hrun, by rw [List.append_nil]; exact hown, Below.refl _ _, World.grownBy.refl _ _, .inl rfl⟩
  | some ad =>
    obtain ⟨v', w', hrun, hown', hg, _, hat⟩ := run_append_own_at (P := Tryz.prog) w base 25 ty 24 i _ 2 32 Tryz.underlying25 hi hz hz1 hz2 rfl (by omega) v l.length (cellsP l) hown.row ad ys.length c (cellsP ys) (cellsP_length ys) (rdP_cells hr) cellsP_one (by simp only [maxLen]; omega) (by omega) hbase
    obtain ⟨h1, h2⟩ := ownP_after hown hr.parts hya hown' hg hat hbase
    exact ⟨v', w', hrun, h1, h2, hg, hat⟩
theorem wp_append_pt {w : World} {o : Oper} {a : Act} {K : Act → World → Prop} {Q : Exit → Act → World → Prop} (s x : Operand)
    (ho : o.op = .call { callee := .builtin .append, args := #[s, x], argTypes := #[25, 25] })
    (base : Nat) (v : Value) (l : List BindV) (hs : a.eval s = v) (hown : OwnP w base v l)
    (A : Option Addr) (ys : List BindV) (n c : Nat) (hn : n = ys.length) (hx : a.eval x = .slice A n c) (hr : RdB w A ys c)
    (hya : ∀ x ∈ ys, ∀ y ∈ adr x.A x.xs, ∀ a, y = some a → v.ownBlock ≠ some a.block ∧ a.block < w.heap.size) (hN : (l.length + ys.length) * 32 ≤ 140737488355328) (hbase : base ≤ w.heap.size)
    (h : ∀ v' w', OwnP w' base v' (l ++ ys) → Below base w w' → w.grownBy w' v.ownBlock → K (a.put o.dst v') w') : o.wp Tryz.prog a w K Q := by
  subst hn
  obtain ⟨v', w', hrun, h1, h2, h3, _⟩ := run_append_pt w o.type base v l hown A ys c hr hya hN hbase
  unfold Oper.wp execOp
  simp only [ho, resolve, invoke, builtin, Sem.run_bind, Sem.run_pure, Result.andThen_ok, List.map_toArray, List.map_cons, List.map_nil, hs, hx, hrun]
  exact h v' w' h1 h2 h3
theorem wpList_append_pt (hgd : o.guard = none) (s x : Operand)
    (ho : o.op = .call { callee := .builtin .append, args := #[s, x], argTypes := #[25, 25] })
    (base : Nat) (v : Value) (l : List BindV) (hs : a.eval s = v) (hown : OwnP w base v l)
    (A : Option Addr) (ys : List BindV) (n c : Nat) (hn : n = ys.length) (hx : a.eval x = .slice A n c) (hr : RdB w A ys c)
    (hya : ∀ x ∈ ys, ∀ y ∈ adr x.A x.xs, ∀ a, y = some a → v.ownBlock ≠ some a.block ∧ a.block < w.heap.size) (hN : (l.length + ys.length) * 32 ≤ 140737488355328) (hbase : base ≤ w.heap.size)
    (h : ∀ v' w', OwnP w' base v' (l ++ ys) → Below base w w' → w.grownBy w' v.ownBlock → wpList Tryz.prog ops Q rest (a.put o.dst v') w') : wpList Tryz.prog ops Q (o :: rest) a w := by
  refine wpList_plain hgd fun K hK => ?_
  exact wp_append_pt s x ho base v l hs hown A ys n c hn hx hr hya hN hbase fun v' w' h1 h2 h3 => hK _ _ (h v' w' h1 h2 h3)
theorem step_append_pt {w : World} {ops : Array Oper} {o : Oper} {a : Act} {K : Act → World → Prop} {Q : Exit → Act → World → Prop} {E : Prop} (hgd : o.guard = none) (s x : Operand)
    (ho : o.op = .call { callee := .builtin .append, args := #[s, x], argTypes := #[25, 25] })
    (base : Nat) (v : Value) (l : List BindV) (hs : a.eval s = v) (hown : OwnP w base v l)
    (A : Option Addr) (ys : List BindV) (n c : Nat) (hn : n = ys.length) (hx : a.eval x = .slice A n c) (hr : RdB w A ys c)
    (hya : ∀ x ∈ ys, ∀ y ∈ adr x.A x.xs, ∀ a, y = some a → v.ownBlock ≠ some a.block ∧ a.block < w.heap.size) (hN : (l.length + ys.length) * 32 ≤ 140737488355328) (hbase : base ≤ w.heap.size)
    (h : ∀ v' w', OwnP w' base v' (l ++ ys) → Below base w w' → w.grownBy w' v.ownBlock → K (a.put o.dst v') w') : if Region.wanted o (yielded ops a.tmps) = true then Oper.wp Tryz.prog o a w K Q else E := by
  have hw : Region.wanted o (yielded ops a.tmps) = true := by simp [Region.wanted, hgd]
  rw [if_pos hw]
  exact wp_append_pt s x ho base v l hs hown A ys n c hn hx hr hya hN hbase h
/-- One, just laid. -/
theorem newP (w : World) (y : BindV) (hp : PatR w y.A y.xs y.c y.b y.pat) : RdB (w.alloc (.cells #[.slice y.A y.xs.length y.c, .bool y.b] 24)) (some ⟨w.heap.size, 0, none⟩) [y] 1 := by
  have hb : Below w.heap.size w (w.alloc (.cells #[.slice y.A y.xs.length y.c, .bool y.b] 24)) := (Below.refl _ _).alloc (Nat.le_refl _) _
  refine ⟨.inr ⟨w.heap.size, 0, rfl, by simp, fun k hk => ?_⟩, fun x hx => ?_, by simp, by decide, fun h => by cases h⟩
  · obtain rfl : k = 0 := by simpa using hk
    exact ⟨cells_new _ _ _ 0 _ rfl, cells_new _ _ _ 1 _ rfl⟩
  · rw [List.mem_singleton.1 hx]
    exact hp.keep hb
end
end Go.Proofs.YtembmegllpkmfaaGreatDoor
