/- Regions in slices; append. -/
import Derived.Test.YtembmegllpkmfaaGreatDoorRegFnA
import Derived.Test.YtembmegllpkmfaaGreatDoorOwnPt
import Derived.Maps.AppendAt
import Derived.OwnWalk
import Derived.Laws.OwnMore
import Derived.Laws.AppendOwnNone
namespace Go.Proofs.YtembmegllpkmfaaGreatDoor
open Go.RowKit

/-- A region as it lies in a slice. -/
structure RegV where
  A : Option Addr
  xs : List ByteArray
  c : Nat
  b : Bool
  H : Option Addr
  bl : List BindV
  e : Nat
def RegV.reg (v : RegV) : Pt.Rg.Reg := ⟨⟨bs v.xs, v.b⟩, v.bl.map BindV.pat⟩
abbrev RegV.R (w : World) (v : RegV) : Prop := RegR w v.A v.xs v.c v.b v.H v.bl v.e v.reg
abbrev RegV.addrs (v : RegV) : List (Option Addr) := adr v.A v.xs ++ (adr v.H v.bl ++ v.bl.flatMap fun y => adr y.A y.xs)
theorem RegR.grownA {w w' : World} {k : Option Nat} {A : Option Addr} {xs : List ByteArray} {c : Nat} {b : Bool} {H : Option Addr} {bl : List BindV} {e : Nat} {g : Pt.Rg.Reg} (h : RegR w A xs c b H bl e g) (hg : w.grownBy w' k)
    (ha : ∀ y ∈ adr A xs ++ (adr H bl ++ bl.flatMap fun y => adr y.A y.xs), ∀ a, y = some a → k ≠ some a.block ∧ a.block < w.heap.size) : RegR w' A xs c b H bl e g := by
  refine ⟨h.base.grownA hg fun y hy a e => ha y (List.mem_append_left _ hy) a e, ⟨?_, fun x hx => (h.holes.parts x hx).grownA hg fun y hy a e => ha y (List.mem_append_right _ (List.mem_append_right _ (List.mem_flatMap.2 ⟨x, hx, hy⟩))) a e, h.holes.le, h.holes.cm, h.holes.nil⟩, h.eq⟩
  rcases h.holes.cells with h0 | ⟨g', o, hA, hlt, hc⟩
  · exact .inl h0
  · by_cases hb0 : bl = []
    · exact .inl hb0
    have hm : H ∈ adr H bl := by
      cases bl with
      | nil => exact absurd rfl hb0
      | cons x r => simp [adr]
    have hk : k ≠ some g' := (ha H (List.mem_append_right _ (List.mem_append_left _ hm)) ⟨g', o, none⟩ hA).1
    have hcell : ∀ j, w'.cell? ⟨g', j, none⟩ = w.cell? ⟨g', j, none⟩ := fun j => by
      have hb := hg.block g' hlt (fun e => hk e.symm)
      unfold World.cell?
      simp only [hb]
    exact .inr ⟨g', o, hA, Nat.lt_of_lt_of_le hlt hg.size, fun j hj => ⟨(hcell _).trans (hc j hj).1, (hcell _).trans (hc j hj).2⟩⟩
section
variable {w : World} {ops : Array Oper} {rest : List Oper} {o : Oper} {a : Act} {Q : Exit → Act → World → Prop}
def oneG (v : RegV) : List Value := [.slice v.A v.xs.length v.c, .bool v.b, .slice v.H v.bl.length v.e]
def cellsG (l : List RegV) : List Value := l.flatMap oneG
theorem cellsG_length : ∀ l : List RegV, (cellsG l).length = l.length * 3
  | [] => rfl
  | v :: l => by
    have := cellsG_length l
    simp only [cellsG, oneG, List.flatMap_cons, List.length_append, List.length_cons, List.length_nil] at this ⊢
    omega
theorem cellsG_append (l m : List RegV) : cellsG (l ++ m) = cellsG l ++ cellsG m := by simp [cellsG]
theorem cellsG_at : ∀ (l : List RegV) (j : Nat) (u : Value), (cellsG l)[j]? = some u → ∃ k i, ∃ h : k < l.length, i < 3 ∧ j = k * 3 + i ∧ (oneG l[k])[i]? = some u
  | [], j, u, h => by simp [cellsG] at h
  | v :: l, j, u, h => by
    have e : cellsG (v :: l) = oneG v ++ cellsG l := by simp [cellsG]
    rw [e] at h
    have hl : (oneG v).length = 3 := rfl
    by_cases hj : j < 3
    · rw [List.getElem?_append_left (by omega)] at h
      exact ⟨0, j, by simp, hj, by omega, h⟩
    · rw [List.getElem?_append_right (by omega), hl] at h
      obtain ⟨k, i, hk, hi, he, hc⟩ := cellsG_at l _ u h
      exact ⟨k + 1, i, by simpa using hk, hi, by omega, hc⟩
theorem cellsG_get : ∀ (l : List RegV) (k : Nat) (h : k < l.length) (i : Nat), i < 3 → (cellsG l)[k * 3 + i]? = (oneG l[k])[i]?
  | [], _, h, _, _ => by simp at h
  | v :: l, 0, _, i, hi => by
    have e : cellsG (v :: l) = oneG v ++ cellsG l := by simp [cellsG]
    have hl : (oneG v).length = 3 := rfl
    rw [e, List.getElem?_append_left (by omega), Nat.zero_mul, Nat.zero_add]
    rfl
  | v :: l, k + 1, h, i, hi => by
    have e : cellsG (v :: l) = oneG v ++ cellsG l := by simp [cellsG]
    have hl : (oneG v).length = 3 := rfl
    rw [e, List.getElem?_append_right (by omega), hl, show (k + 1) * 3 + i - 3 = k * 3 + i by omega, cellsG_get l k (by simpa using h) i hi]
    rfl
theorem cellsG_one {l : List RegV} : ∀ u ∈ cellsG l, u.oneCell' = true := by
  intro u hu
  simp only [cellsG, oneG, List.mem_flatMap, List.mem_cons, List.not_mem_nil, or_false] at hu
  obtain ⟨x, _, hx⟩ := hu
  rcases hx with rfl | rfl | rfl <;> rfl
/-- A slice of the call's own that holds these, from block 'base' on; what they name lies elsewhere. -/
structure OwnG (w : World) (base : Nat) (v : Value) (l : List RegV) : Prop where
  row : w.ownsRow base 27 3 v l.length (cellsG l)
  parts : ∀ x ∈ l, RegV.R w x
  apart : ∀ x ∈ l, ∀ y ∈ x.addrs, ∀ a, y = some a → v.ownBlock ≠ some a.block ∧ a.block < w.heap.size
theorem OwnG.empty (w : World) (base : Nat) : OwnG w base (.slice none 0 0) [] := ⟨World.ownsRow_nil w base _ 3, fun x h => (by cases h), fun x h => (by cases h)⟩
theorem infoG : (Tryz.prog.info? 27).map (fun i => (i.zero, i.size, i.bytes)) = some (some (.agg #[.slice none 0 0, .bool false, .slice none 0 0]), 3, 56) := by kernel_rfl
theorem infoGParts : ∃ i, Tryz.prog.info? 27 = some i ∧ i.zero = some (.agg #[.slice none 0 0, .bool false, .slice none 0 0]) ∧ i.size = 3 ∧ i.bytes = 56 := by
  have hi := infoG
  cases hx : Tryz.prog.info? 27 with
  | none => rw [hx] at hi; simp at hi
  | some i =>
    rw [hx] at hi
    simp only [Option.map_some, Option.some.injEq, Prod.mk.injEq] at hi
    exact ⟨i, rfl, hi.1, hi.2.1, hi.2.2⟩
theorem OwnG.below {w w' : World} {base : Nat} {v : Value} {l : List RegV} (h : OwnG w base v l) (hb : Below w.heap.size w w') : OwnG w' base v l := by
  refine ⟨⟨h.row.1, ?_⟩, fun x hx => (h.parts x hx).keep hb, fun x hx y hy a ha => ⟨(h.apart x hx y hy a ha).1, Nat.lt_of_lt_of_le (h.apart x hx y hy a ha).2 hb.size⟩⟩
  rcases h.row.2 with hv | ⟨g, cap, cur, hv, hbg, hg, r⟩
  · exact .inl hv
  · exact .inr ⟨g, cap, cur, hv, hbg, by rw [hb.block g (Array.getElem?_eq_some_iff.1 hg).1]; exact hg, r⟩
theorem OwnG.more {w : World} {base base' : Nat} {v : Value} {l : List RegV} (h : OwnG w base v l) (hB : base' ≤ base) : OwnG w base' v l := by
  refine ⟨⟨h.row.1, ?_⟩, h.parts, h.apart⟩
  rcases h.row.2 with hv | ⟨g, cap, cur, hv, hbg, r⟩
  · exact .inl hv
  · exact .inr ⟨g, cap, cur, hv, by omega, r⟩
theorem OwnG.form {w : World} {base : Nat} {v : Value} {l : List RegV} (h : OwnG w base v l) : ∃ A e, v = .slice A l.length e ∧ e ≤ maxLen := by
  rcases h.row.2 with ⟨hv, hn⟩ | ⟨g, cap, cur, hv, hbg, hg, hnc, hcm, r⟩
  · exact ⟨none, 0, by rw [hv, hn], Nat.zero_le _⟩
  · exact ⟨some ⟨g, 0, none⟩, cap, hv, hcm⟩
theorem OwnG.lt {w : World} {base : Nat} {v : Value} {l : List RegV} (h : OwnG w base v l) : ∀ k, v.ownBlock = some k → base ≤ k ∧ k < w.heap.size := fun k hk => World.ownsRow.lt h.row k hk
structure RdG (w : World) (A : Option Addr) (l : List RegV) (c : Nat) : Prop where
  cells : l = [] ∨ ∃ g o, A = some ⟨g, o, none⟩ ∧ g < w.heap.size ∧ ∀ k (h : k < l.length), w.cell? ⟨g, o + k * 3, none⟩ = some (.slice l[k].A l[k].xs.length l[k].c) ∧ w.cell? ⟨g, o + k * 3 + 1, none⟩ = some (.bool l[k].b) ∧ w.cell? ⟨g, o + k * 3 + 2, none⟩ = some (.slice l[k].H l[k].bl.length l[k].e)
  parts : ∀ x ∈ l, RegV.R w x
  le : l.length ≤ c
  cm : c ≤ maxLen
  nil : A = none → c = 0
theorem RdG.keep {w w' : World} {A : Option Addr} {l : List RegV} {c : Nat} (h : RdG w A l c) (hb : Below w.heap.size w w') : RdG w' A l c := by
  refine ⟨?_, fun x hx => (h.parts x hx).keep hb, h.le, h.cm, h.nil⟩
  rcases h.cells with h0 | ⟨g, o, hA, hg, hc⟩
  · exact .inl h0
  · refine .inr ⟨g, o, hA, Nat.lt_of_lt_of_le hg hb.size, fun k hk => ?_⟩
    obtain ⟨q0, q1, q2⟩ := hc k hk
    exact ⟨(hb.cell (p := ⟨g, o + k * 3, none⟩) hg).trans q0, (hb.cell (p := ⟨g, o + k * 3 + 1, none⟩) hg).trans q1, (hb.cell (p := ⟨g, o + k * 3 + 2, none⟩) hg).trans q2⟩
theorem RdG.at {w : World} {A : Option Addr} {l : List RegV} {c : Nat} (h : RdG w A l c) (hl : 0 < l.length) : ∃ g o, A = some ⟨g, o, none⟩ ∧ g < w.heap.size ∧ ∀ k (h : k < l.length), w.cell? ⟨g, o + k * 3, none⟩ = some (.slice l[k].A l[k].xs.length l[k].c) ∧ w.cell? ⟨g, o + k * 3 + 1, none⟩ = some (.bool l[k].b) ∧ w.cell? ⟨g, o + k * 3 + 2, none⟩ = some (.slice l[k].H l[k].bl.length l[k].e) := by
  rcases h.cells with h0 | h1
  · subst h0; simp at hl
  · exact h1
theorem OwnG.rd {w : World} {base : Nat} {v : Value} {l : List RegV} (h : OwnG w base v l) : ∃ A c, v = .slice A l.length c ∧ RdG w A l c ∧ (∀ g o, A = some ⟨g, o, none⟩ → base ≤ g) := by
  rcases h.row.2 with ⟨hv, hn⟩ | ⟨g, cap, cur, hv, hbg, hg, hnc, hcm, _⟩
  · exact ⟨none, 0, by rw [hv, hn], ⟨.inl (List.eq_nil_of_length_eq_zero hn), h.parts, by omega, Nat.zero_le _, fun _ => rfl⟩, fun g o h => by cases h⟩
  · refine ⟨some ⟨g, 0, none⟩, cap, hv, ⟨.inr ⟨g, 0, rfl, (Array.getElem?_eq_some_iff.1 hg).1, fun k hk => ?_⟩, h.parts, hnc, hcm, fun h => by cases h⟩, fun g' o h => by injection h with h; injection h with h; subst h; exact hbg⟩
    have hcell : ∀ i, i < 3 → ∀ u, (oneG l[k])[i]? = some u → w.cell? ⟨g, 0 + (k * 3 + i), none⟩ = some u := fun i hi u hu => by
      have hc := World.ownsRow.cells h.row (g := g) (by rw [hv]; rfl) (k * 3 + i) u (by rw [cellsG_get l k hk i hi]; exact hu)
      rw [add_plain] at hc
      exact hc
    refine ⟨hcell 0 (by decide) _ rfl, hcell 1 (by decide) _ rfl, hcell 2 (by decide) _ rfl⟩
theorem rdG_cells {w : World} {ad : Addr} {l : List RegV} {c : Nat} (h : RdG w (some ad) l c) : ∀ j u, (cellsG l)[j]? = some u → w.cell? (ad.add j) = some u := by
  intro j u hu
  obtain ⟨k, i, hk, hi, rfl, hc⟩ := cellsG_at l j u hu
  rcases h.cells with rfl | ⟨g, o, hA, hlt, hcell⟩
  · simp at hk
  · injection hA with hA
    subst hA
    rw [add_plain]
    obtain ⟨q0, q1, q2⟩ := hcell k hk
    match i, hi, hc with
    | 0, _, hc => simp [oneG] at hc; rw [← hc]; exact q0
    | 1, _, hc => simp [oneG] at hc; rw [← hc]; exact q1
    | 2, _, hc => simp [oneG] at hc; rw [← hc]; exact q2
theorem ownG_after {w w' : World} {base : Nat} {v v' : Value} {l ys : List RegV} (hown : OwnG w base v l) (hp : ∀ x ∈ ys, RegV.R w x) (hya : ∀ x ∈ ys, ∀ y ∈ x.addrs, ∀ a, y = some a → v.ownBlock ≠ some a.block ∧ a.block < w.heap.size)
    (hown' : w'.ownsRow base 27 3 v' (l.length + ys.length) (cellsG l ++ cellsG ys)) (hg : w.grownBy w' v.ownBlock) (hat : v'.ownBlock = v.ownBlock ∨ v'.ownBlock = some w.heap.size) (hbase : base ≤ w.heap.size) :
    OwnG w' base v' (l ++ ys) ∧ Below base w w' := by
  have hap : ∀ x ∈ l ++ ys, ∀ y ∈ x.addrs, ∀ a, y = some a → v.ownBlock ≠ some a.block ∧ a.block < w.heap.size := fun z hz y hy a ha => by
    rcases List.mem_append.1 hz with h | h
    · exact hown.apart z h y hy a ha
    · exact hya z h y hy a ha
  refine ⟨⟨?_, fun x hx => ?_, fun x hx y hy a ha => ⟨?_, Nat.lt_of_lt_of_le (hap x hx y hy a ha).2 hg.size⟩⟩, ⟨hg.os, hg.tape, hg.output, hg.size, fun k hk => hg.block k (by omega) (fun e2 => ?_)⟩⟩
  · rw [List.length_append, cellsG_append]
    exact hown'
  · have hq : RegV.R w x := by
      rcases List.mem_append.1 hx with h | h
      · exact hown.parts x h
      · exact hp x h
    exact hq.grownA hg (hap x hx)
  · intro e
    rcases hat with e2 | e2
    · exact (hap x hx y hy a ha).1 (e2 ▸ e)
    · rw [e2] at e
      injection e with e
      have := (hap x hx y hy a ha).2
      omega
  · have := (World.ownsRow.lt hown.row k e2.symm).1
    omega
theorem run_append_rg (w : World) (ty : TypeId) (base : Nat) (v : Value) (l : List RegV) (hown : OwnG w base v l) (A : Option Addr) (ys : List RegV) (c : Nat) (hr : RdG w A ys c)
    (hya : ∀ x ∈ ys, ∀ y ∈ x.addrs, ∀ a, y = some a → v.ownBlock ≠ some a.block ∧ a.block < w.heap.size) (hN : (l.length + ys.length) * 56 ≤ 140737488355328) (hbase : base ≤ w.heap.size) :
    ∃ v' w', (Builtin.append_ #[41, 41] ty #[v, .slice A ys.length c]).run Tryz.prog w = .ok v' w' ∧ OwnG w' base v' (l ++ ys) ∧ Below base w w' ∧ w.grownBy w' v.ownBlock ∧ (v'.ownBlock = v.ownBlock ∨ v'.ownBlock = some w.heap.size) := by
  obtain ⟨i, hi, hz, hz1, hz2⟩ := infoGParts
  cases A with
  | none =>
    obtain rfl := hr.nil rfl
    have hx0 : ys = [] := by
      rcases hr.cells with h | ⟨g, o', hA, _⟩
      · exact h
      · cases hA
    subst hx0
    have hrun := run_append_owned_none (P := Tryz.prog) (w := w) base 41 ty 27 i 3 Tryz.underlying41 hi v l.length (cellsG l) hown.row
    exact ⟨v, w, hrun, by rw [List.append_nil]; exact hown, Below.refl _ _, World.grownBy.refl _ _, .inl rfl⟩
  | some ad =>
    obtain ⟨v', w', hrun, hown', hg, _, hat⟩ := run_append_own_at (P := Tryz.prog) w base 41 ty 27 i _ 3 56 Tryz.underlying41 hi hz hz1 hz2 rfl (by omega) v l.length (cellsG l) hown.row ad ys.length c (cellsG ys) (cellsG_length ys) (rdG_cells hr) cellsG_one (by simp only [maxLen]; omega) (by omega) hbase
    obtain ⟨h1, h2⟩ := ownG_after hown hr.parts hya hown' hg hat hbase
    exact ⟨v', w', hrun, h1, h2, hg, hat⟩
theorem wp_append_rg {w : World} {o : Oper} {a : Act} {K : Act → World → Prop} {Q : Exit → Act → World → Prop} (s x : Operand)
    (ho : o.op = .call { callee := .builtin .append, args := #[s, x], argTypes := #[41, 41] })
    (base : Nat) (v : Value) (l : List RegV) (hs : a.eval s = v) (hown : OwnG w base v l)
    (A : Option Addr) (ys : List RegV) (n c : Nat) (hn : n = ys.length) (hx : a.eval x = .slice A n c) (hr : RdG w A ys c)
    (hya : ∀ x ∈ ys, ∀ y ∈ x.addrs, ∀ a, y = some a → v.ownBlock ≠ some a.block ∧ a.block < w.heap.size) (hN : (l.length + ys.length) * 56 ≤ 140737488355328) (hbase : base ≤ w.heap.size)
    (h : ∀ v' w', OwnG w' base v' (l ++ ys) → Below base w w' → w.grownBy w' v.ownBlock → K (a.put o.dst v') w') : o.wp Tryz.prog a w K Q := by
  subst hn
  obtain ⟨v', w', hrun, h1, h2, h3, _⟩ := run_append_rg w o.type base v l hown A ys c hr hya hN hbase
  unfold Oper.wp execOp
  simp only [ho, resolve, invoke, builtin, Sem.run_bind, Sem.run_pure, Result.andThen_ok, List.map_toArray, List.map_cons, List.map_nil, hs, hx, hrun]
  exact h v' w' h1 h2 h3
theorem wpList_append_rg (hgd : o.guard = none) (s x : Operand)
    (ho : o.op = .call { callee := .builtin .append, args := #[s, x], argTypes := #[41, 41] })
    (base : Nat) (v : Value) (l : List RegV) (hs : a.eval s = v) (hown : OwnG w base v l)
    (A : Option Addr) (ys : List RegV) (n c : Nat) (hn : n = ys.length) (hx : a.eval x = .slice A n c) (hr : RdG w A ys c)
    (hya : ∀ x ∈ ys, ∀ y ∈ x.addrs, ∀ a, y = some a → v.ownBlock ≠ some a.block ∧ a.block < w.heap.size) (hN : (l.length + ys.length) * 56 ≤ 140737488355328) (hbase : base ≤ w.heap.size)
    (h : ∀ v' w', OwnG w' base v' (l ++ ys) → Below base w w' → w.grownBy w' v.ownBlock → wpList Tryz.prog ops Q rest (a.put o.dst v') w') : wpList Tryz.prog ops Q (o :: rest) a w := by
  refine wpList_plain hgd fun K hK => ?_
  exact wp_append_rg s x ho base v l hs hown A ys n c hn hx hr hya hN hbase fun v' w' h1 h2 h3 => hK _ _ (h v' w' h1 h2 h3)
theorem step_append_rg {w : World} {ops : Array Oper} {o : Oper} {a : Act} {K : Act → World → Prop} {Q : Exit → Act → World → Prop} {E : Prop} (hgd : o.guard = none) (s x : Operand)
    (ho : o.op = .call { callee := .builtin .append, args := #[s, x], argTypes := #[41, 41] })
    (base : Nat) (v : Value) (l : List RegV) (hs : a.eval s = v) (hown : OwnG w base v l)
    (A : Option Addr) (ys : List RegV) (n c : Nat) (hn : n = ys.length) (hx : a.eval x = .slice A n c) (hr : RdG w A ys c)
    (hya : ∀ x ∈ ys, ∀ y ∈ x.addrs, ∀ a, y = some a → v.ownBlock ≠ some a.block ∧ a.block < w.heap.size) (hN : (l.length + ys.length) * 56 ≤ 140737488355328) (hbase : base ≤ w.heap.size)
    (h : ∀ v' w', OwnG w' base v' (l ++ ys) → Below base w w' → w.grownBy w' v.ownBlock → K (a.put o.dst v') w') : if Region.wanted o (yielded ops a.tmps) = true then Oper.wp Tryz.prog o a w K Q else E := by
  have hw : Region.wanted o (yielded ops a.tmps) = true := by simp [Region.wanted, hgd]
  rw [if_pos hw]
  exact wp_append_rg s x ho base v l hs hown A ys n c hn hx hr hya hN hbase h
/-- One, just laid. -/
theorem newG (w : World) (y : RegV) (hp : RegV.R w y) : RdG (w.alloc (.cells #[.slice y.A y.xs.length y.c, .bool y.b, .slice y.H y.bl.length y.e] 27)) (some ⟨w.heap.size, 0, none⟩) [y] 1 := by
  have hb : Below w.heap.size w (w.alloc (.cells #[.slice y.A y.xs.length y.c, .bool y.b, .slice y.H y.bl.length y.e] 27)) := (Below.refl _ _).alloc (Nat.le_refl _) _
  refine ⟨.inr ⟨w.heap.size, 0, rfl, by simp, fun k hk => ?_⟩, fun x hx => ?_, by simp, by decide, fun h => by cases h⟩
  · obtain rfl : k = 0 := by simpa using hk
    exact ⟨cells_new _ _ _ 0 _ rfl, cells_new _ _ _ 1 _ rfl, cells_new _ _ _ 2 _ rfl⟩
  · rw [List.mem_singleton.1 hx]
    exact hp.keep hb
end
end Go.Proofs.YtembmegllpkmfaaGreatDoor
