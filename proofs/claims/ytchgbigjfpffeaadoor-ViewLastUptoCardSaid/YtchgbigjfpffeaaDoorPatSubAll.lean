/- The contract of the reference's Bind. Words for the law on bindings. A slice of bindings that is read; the mathematics of areBindings. The contract of the program's areBindings. The contract of the program's Substitute. The contract of the reference's Substitute. Two readings of one pattern are the same. -/
import Derived.Test.YtchgbigjfpffeaaDoorPatBd
import Derived.Test.YtchgbigjfpffeaaDoorMathAll
import Derived.Test.YtchgbigjfpffeaaDoorPatGoC
import Derived.Deep.RegionHeld3
import Derived.Deep.RegionLaw
import Derived.Test.YtchgbigjfpffeaaDoorPatFnB
import Derived.Test.YtchgbigjfpffeaaDoorPatHeld
import Derived.Test.YtchgbigjfpffeaaDoorPatAwake2
namespace Go.Proofs.YtchgbigjfpffeaaDoor
open Go.RowKit

theorem step_append_nil {w : World} {ops : Array Oper} {o : Oper} {a : Act} {K : Act → World → Prop} {Q : Exit → Act → World → Prop} {E : Prop} (hgd : o.guard = none) (s x : Operand)
    (ho : o.op = .call { callee := .builtin .append, args := #[s, x], argTypes := #[30, 30] })
    (hs : a.eval s = .slice none 0 0)
    (A : Option Addr) (xs : List ByteArray) (n c : Nat) (hn : n = xs.length) (hx : a.eval x = .slice A n c) (hr : RdS w w.heap.size A xs) (hnil : A = none → c = 0)
    (hN : n ≤ 1000000)
    (h : ∀ C cz w', RdS w' w'.heap.size C xs → n ≤ cz → cz ≤ maxLen → (C = none → cz = 0) → (∀ a, C = some a → w.heap.size ≤ a.block ∧ a.block < w'.heap.size) → Below w.heap.size w w' → K (a.put o.dst (.slice C n cz)) w') : if Region.wanted o (yielded ops a.tmps) = true then Oper.wp Tryd.prog o a w K Q else E := by
  refine step_append_ss hgd s x ho w.heap.size (.slice none 0 0) [] hs (World.ownsRow_nil w w.heap.size _ 1) A xs n c hn hx hr hnil (by simp; omega) (Nat.le_refl _) ?_
  intro v' w' hown hb
  rw [List.nil_append] at hown
  obtain ⟨C, cz, rfl, h1, h2, h3, h4⟩ := hown.form
  rw [← hn] at hown h1 ⊢
  refine h C cz w' h3 h1 h2 h4 (fun a ha => ?_) hb
  subst ha
  exact World.ownsRow.lt hown _ rfl
theorem bindOf_step : ∀ {ps qs : List (List UInt8)} {k : Nat} (h : k < ps.length) (h2 : k < qs.length), Pt.bindOf (ps.take (k + 1)) qs = Pt.bindOf (ps.take k) qs ++ (match Pt.star ps[k] with | none => [] | some s => [⟨[qs[k].take (qs[k].length - s.length)], false⟩])
  | [], _, _, h, _ => by simp at h
  | _ :: _, [], _, _, h2 => by simp at h2
  | x :: ps, y :: qs, 0, _, _ => by
    simp only [List.take_succ_cons, List.take_zero, List.getElem_cons_zero]
    cases hs : Pt.star x with
    | none => rw [Pt.bindOf_comp _ _ _ hs]; simp [Pt.bindOf]
    | some s => rw [Pt.bindOf_star _ _ _ hs]; simp [Pt.bindOf]
  | x :: ps, y :: qs, k + 1, h, h2 => by
    have ih := bindOf_step (ps := ps) (qs := qs) (k := k) (by simpa using h) (by simpa using h2)
    rw [List.take_succ_cons, List.take_succ_cons]
    simp only [List.getElem_cons_succ]
    cases hs : Pt.star x with
    | none => rw [Pt.bindOf_comp _ _ _ hs, Pt.bindOf_comp _ _ _ hs, ih]
    | some s => rw [Pt.bindOf_star _ _ _ hs, Pt.bindOf_star _ _ _ hs, ih]; rfl
theorem allIn_get : ∀ {ps qs : List (List UInt8)} {k : Nat} (h : k < ps.length) (h2 : k < qs.length), Pt.allIn ps qs = true → Pt.inside ps[k] qs[k] = true
  | [], _, _, h, _, _ => by simp at h
  | _ :: _, [], _, _, h2, _ => by simp at h2
  | x :: ps, y :: qs, 0, _, _, h => by
    simp only [Pt.allIn, Bool.and_eq_true] at h
    exact h.1
  | x :: ps, y :: qs, k + 1, h1, h2, h => by
    simp only [Pt.allIn, Bool.and_eq_true] at h
    exact allIn_get (ps := ps) (qs := qs) (k := k) (by simpa using h1) (by simpa using h2) h.2

end Go.Proofs.YtchgbigjfpffeaaDoor

namespace Go.Proofs.YtchgbigjfpffeaaDoor
open Go.RowKit

structure InE (wr w' : World) : Prop where
  below : Below wr.heap.size wr w'
theorem InE.next {wr w1 w' : World} (h : InE wr w1) (hb : Below w1.heap.size w1 w') : InE wr w' := ⟨h.below.trans (hb.mono h.below.size)⟩
theorem InE.drew {wr w' : World} (h : InE wr w') : InE wr w'.drew := ⟨h.below.trans (below_drew (Below.refl _ _))⟩
abbrev SE (wr : World) (g1 g2 k : Nat) (v0 v1 u0 u1 : Value) (w' : World) : Prop :=
  w'.cell? ⟨g1, k * 2, none⟩ = some v0 ∧ w'.cell? ⟨g1, k * 2 + 1, none⟩ = some v1 ∧ w'.cell? ⟨g2, k * 2, none⟩ = some u0 ∧ w'.cell? ⟨g2, k * 2 + 1, none⟩ = some u1 ∧ InE wr w'
theorem SE.held {wr : World} {g1 g2 k : Nat} {v0 v1 u0 u1 : Value} (h1 : g1 < wr.heap.size) (h2 : g2 < wr.heap.size) (c0 : wr.cell? ⟨g1, k * 2, none⟩ = some v0) (c1 : wr.cell? ⟨g1, k * 2 + 1, none⟩ = some v1) (c2 : wr.cell? ⟨g2, k * 2, none⟩ = some u0) (c3 : wr.cell? ⟨g2, k * 2 + 1, none⟩ = some u1) (w' : World) (h : InE wr w') : SE wr g1 g2 k v0 v1 u0 u1 w' :=
  ⟨(h.below.cell (p := ⟨g1, k * 2, none⟩) h1).trans c0, (h.below.cell (p := ⟨g1, k * 2 + 1, none⟩) h1).trans c1, (h.below.cell (p := ⟨g2, k * 2, none⟩) h2).trans c2, (h.below.cell (p := ⟨g2, k * 2 + 1, none⟩) h2).trans c3, h⟩
theorem binds_same {l m : List BindV} {k : Nat} (h : l.map BindV.pat = m.map BindV.pat) (h1 : k < l.length) (h2 : k < m.length) : m[k].xs = l[k].xs ∧ m[k].b = l[k].b := by
  have e : (l.map BindV.pat)[k]? = (m.map BindV.pat)[k]? := by rw [h]
  rw [List.getElem?_map, List.getElem?_map, List.getElem?_eq_getElem h1, List.getElem?_eq_getElem h2] at e
  simp only [Option.map_some, Option.some.injEq, BindV.pat, Pt.Pat.mk.injEq] at e
  exact ⟨(bs_inj e.1).symm, e.2.symm⟩
end Go.Proofs.YtchgbigjfpffeaaDoor

namespace Go.Proofs.YtchgbigjfpffeaaDoor
open Go.RowKit

/-- A slice that reads as these bindings. -/
structure RdB (w : World) (A : Option Addr) (bl : List BindV) (c : Nat) : Prop where
  cells : bl = [] ∨ ∃ g o, A = some ⟨g, o, none⟩ ∧ g < w.heap.size ∧ ∀ k (h : k < bl.length), w.cell? ⟨g, o + k * 2, none⟩ = some (.slice bl[k].A bl[k].xs.length bl[k].c) ∧ w.cell? ⟨g, o + k * 2 + 1, none⟩ = some (.bool bl[k].b)
  parts : ∀ x ∈ bl, PatR w x.A x.xs x.c x.b x.pat
  le : bl.length ≤ c
  cm : c ≤ maxLen
  nil : A = none → c = 0
theorem RdB.keep {w w' : World} {A : Option Addr} {bl : List BindV} {c : Nat} (h : RdB w A bl c) (hb : Below w.heap.size w w') : RdB w' A bl c := by
  refine ⟨?_, fun x hx => (h.parts x hx).keep hb, h.le, h.cm, h.nil⟩
  rcases h.cells with h0 | ⟨g, o, hA, hg, hc⟩
  · exact .inl h0
  · exact .inr ⟨g, o, hA, Nat.lt_of_lt_of_le hg hb.size, fun k hk => ⟨(hb.cell (p := ⟨g, o + k * 2, none⟩) hg).trans (hc k hk).1, (hb.cell (p := ⟨g, o + k * 2 + 1, none⟩) hg).trans (hc k hk).2⟩⟩
theorem RdB.at {w : World} {A : Option Addr} {bl : List BindV} {c : Nat} (h : RdB w A bl c) (hl : 0 < bl.length) : ∃ g o, A = some ⟨g, o, none⟩ ∧ g < w.heap.size ∧ ∀ k (h : k < bl.length), w.cell? ⟨g, o + k * 2, none⟩ = some (.slice bl[k].A bl[k].xs.length bl[k].c) ∧ w.cell? ⟨g, o + k * 2 + 1, none⟩ = some (.bool bl[k].b) := by
  rcases h.cells with h0 | h1
  · subst h0; simp at hl
  · exact h1
namespace Pt
def one (b : Pat) : Bool := decide (b.parts.length = 1) && !b.rest
def empty (b : Pat) : Bool := decide (b.parts.length = 0) && !b.rest
def okAt (n i : Nat) (b : Pat) : Bool := b.parts.all part && !(decide (i < n) && !one b) && !(decide (i = n) && empty b)
def okFrom (n : Nat) : Nat → List Pat → Bool
  | _, [] => true
  | i, b :: l => okAt n i b && okFrom n (i + 1) l
theorem okFrom_cons (n i : Nat) (b : Pat) (l : List Pat) : okFrom n i (b :: l) = (okAt n i b && okFrom n (i + 1) l) := rfl
theorem ok_single {n i : Nat} {b : Pat} (h : i < n) : okAt n i b = single b := by
  unfold okAt single one
  have h2 : ¬ i = n := by omega
  rw [decide_eq_true h, decide_eq_false h2]
  cases b.rest with
  | true => simp
  | false =>
    match hb : b.parts with
    | [] => simp
    | [x] => simp
    | x :: y :: r => simp
theorem ok_rest {n : Nat} {b : Pat} : okAt n n b = restOk b := by
  unfold okAt restOk empty
  rw [decide_eq_false (Nat.lt_irrefl n), decide_eq_true rfl]
  cases b.rest with
  | true => simp
  | false =>
    match hb : b.parts with
    | [] => simp
    | x :: r => simp
theorem okFrom_eq (n : Nat) (r : Bool) : ∀ (l : List Pat) (i : Nat), i ≤ n → l.length = (n - i) + (if r then 1 else 0) → okFrom n i l = ((l.take (n - i)).all single && (!r || restOk (l.getD (n - i) none_)))
  | [], i, h, hl => by
    cases r with
    | true => simp at hl
    | false => simp [okFrom]
  | b :: l, i, h, hl => by
    rw [okFrom_cons]
    by_cases hi : i < n
    · have e : n - i = (n - (i + 1)) + 1 := by omega
      rw [ok_single hi, okFrom_eq n r l (i + 1) (by omega) (by rw [List.length_cons] at hl; omega), e, List.take_succ_cons, List.all_cons, Bool.and_assoc]
      simp
    · obtain rfl : i = n := by omega
      rw [Nat.sub_self] at hl ⊢
      cases r with
      | false => simp at hl
      | true =>
        have : l = [] := List.eq_nil_of_length_eq_zero (by simpa using hl)
        subst this
        rw [ok_rest]
        simp [okFrom]
def areB (n : Nat) (r : Bool) (l : List Pat) : Bool := decide (l.length = n + if r then 1 else 0) && okFrom n 0 l
theorem areB_eq (p : Pat) (l : List Pat) : areB (stars p.parts) p.rest l = bindsOk p l := by
  unfold areB bindsOk wilds
  by_cases h : l.length = stars p.parts + if p.rest then 1 else 0
  · rw [decide_eq_true h, okFrom_eq _ p.rest l 0 (Nat.zero_le _) (by rw [Nat.sub_zero]; exact h), Nat.sub_zero, Bool.and_assoc]
  · rw [decide_eq_false h]
    simp
end Pt
theorem okFrom_drop {n k : Nat} {bl : List BindV} (h : k < bl.length) : Pt.okFrom n k ((bl.map BindV.pat).drop k) = (Pt.okAt n k bl[k].pat && Pt.okFrom n (k + 1) ((bl.map BindV.pat).drop (k + 1))) := by
  rw [List.drop_eq_getElem_cons (by simpa using h), Pt.okFrom_cons, List.getElem_map]
end Go.Proofs.YtchgbigjfpffeaaDoor

namespace Go.Proofs.YtchgbigjfpffeaaDoor
open Go.RowKit

end Go.Proofs.YtchgbigjfpffeaaDoor

namespace Go.Proofs.YtchgbigjfpffeaaDoor
open Go.RowKit

/-- The tail of a substitution, in its box. -/
structure Tl (w2 wx : World) (g : Nat) (TA : Option Addr) (ts : List ByteArray) (tc : Nat) (tb : Bool) : Prop where
  e0 : wx.cell? ⟨g, 0, none⟩ = some (.slice TA ts.length tc)
  e1 : wx.cell? ⟨g, 1, none⟩ = some (.bool tb)
  lt : g < wx.heap.size
  pr : PatR wx TA ts tc tb ⟨bs ts, tb⟩
  below : Below w2.heap.size w2 wx
theorem pz {w w' : World} {v0 v1 : Value} (h : Below ((w.alloc (.cells #[v0, v1] 32)).alloc zeroPat).heap.size ((w.alloc (.cells #[v0, v1] 32)).alloc zeroPat) w') :
    w'.cell? ⟨w.heap.size, 0, none⟩ = some v0 ∧ w'.cell? ⟨w.heap.size, 1, none⟩ = some v1 ∧ ZBox w' (w.heap.size + 1) := by
  obtain ⟨a, b, _, _⟩ := box2_cells h
  have z := ZBox.one h
  rw [show (w.alloc (.cells #[v0, v1] 32)).heap.size = w.heap.size + 1 by simp] at z
  exact ⟨a, b, z⟩
theorem heads_one {v : BindV} (h : Pt.single v.pat = true) : v.xs.length = 1 ∧ v.b = false ∧ bs v.xs = [v.pat.parts.headD []] := by
  unfold Pt.single BindV.pat at h
  simp only [Bool.and_eq_true, decide_eq_true_eq, Bool.not_eq_true', bs_length] at h
  refine ⟨h.1.1, h.1.2, ?_⟩
  show bs v.xs = [(bs v.xs).headD []]
  match hx : v.xs, h.1.1 with
  | [x], _ => rfl
end Go.Proofs.YtchgbigjfpffeaaDoor

namespace Go.Proofs.YtchgbigjfpffeaaDoor
open Go.RowKit

theorem new_one2 (w : World) (o : Obj) (x : ByteArray) (t : TypeId) : RdS ((w.alloc o).alloc (.cells #[.string x] t)) ((w.alloc o).alloc (.cells #[.string x] t)).heap.size (some ⟨w.heap.size + 1, 0, none⟩) [x] := by
  have h := new_one (w.alloc o) x t
  rw [show (w.alloc o).heap.size = w.heap.size + 1 by simp] at h
  exact h
theorem substOf_step {ps : List (List UInt8)} {L : List Pt.Pat} {k j : Nat} (h : k < ps.length) : Pt.substOf (ps.drop k) (L.drop j) = match Pt.star ps[k] with
    | none => (Pt.substOf (ps.drop (k + 1)) (L.drop j)).map fun r => ps[k] :: r
    | some s => match L[j]? with
      | none => none
      | some v => if Pt.single v = true then (Pt.substOf (ps.drop (k + 1)) (L.drop (j + 1))).map fun r => (v.parts.headD [] ++ s) :: r else none := by
  rw [List.drop_eq_getElem_cons h]
  cases hs : Pt.star ps[k] with
  | none => rw [Pt.substOf_comp _ _ hs]
  | some s =>
    simp only
    by_cases hj : j < L.length
    · rw [List.drop_eq_getElem_cons hj, Pt.substOf_star _ _ _ hs, List.getElem?_eq_getElem hj]
    · rw [List.drop_of_length_le (show L.length ≤ j by omega), List.getElem?_eq_none (by omega), Pt.substOf, hs]
theorem stars_lt {ps : List (List UInt8)} {k : Nat} (h : k < ps.length) (hs : (Pt.star ps[k]).isSome = true) : Pt.stars (ps.take k) < Pt.stars ps := by
  have h1 := stars_take h
  rw [hs] at h1
  have h2 : Pt.stars ps = Pt.stars (ps.take (k + 1)) + Pt.stars (ps.drop (k + 1)) := by
    rw [← Pt.stars_append, List.take_append_drop]
  simp only [if_true] at h1
  omega
theorem subst_none {p : Pt.Pat} {L : List Pt.Pat} (hc : Pt.check p = 0) (hl : L.length = Pt.wilds p) (h : Pt.substPat p L = none) : Pt.substErr p L = 33 := by
  unfold Pt.substErr
  rw [if_pos hc, if_pos hl, h]
theorem subst_some {p : Pt.Pat} {L : List Pt.Pat} {v : Pt.Pat} (hc : Pt.check p = 0) (hl : L.length = Pt.wilds p) (h : Pt.substPat p L = some v) : Pt.substErr p L = (if v.parts.length ≤ 12 then 0 else 31) ∧ (v.parts.length ≤ 12 → Pt.subst p L = v) := by
  have h1 : Pt.substErr p L = (if v.parts.length ≤ 12 then 0 else 31) := by
    unfold Pt.substErr
    rw [if_pos hc, if_pos hl, h]
  refine ⟨h1, fun h2 => ?_⟩
  unfold Pt.subst
  rw [h1, if_pos h2, if_pos rfl, h]
theorem single_false {v : BindV} (h : Pt.single v.pat = false) : v.xs.length ≠ 1 ∨ (v.xs.length = 1 ∧ v.b = true) ∨ (v.b = false ∧ ∃ y, v.xs = [y] ∧ Pt.part y.data.toList = false) := by
  unfold Pt.single BindV.pat at h
  by_cases h1 : v.xs.length = 1
  · cases hb : v.b with
    | true => exact .inr (.inl ⟨h1, rfl⟩)
    | false =>
      match hx : v.xs, h1 with
      | [y], _ =>
        rw [hb, hx] at h
        refine .inr (.inr ⟨rfl, y, rfl, ?_⟩)
        simpa [bs] using h
  · exact .inl h1
theorem single_true {v : BindV} (h : Pt.single v.pat = true) : v.b = false ∧ ∃ y, v.xs = [y] ∧ Pt.part y.data.toList = true ∧ v.pat.parts.headD [] = y.data.toList := by
  unfold Pt.single BindV.pat at h
  simp only [Bool.and_eq_true, decide_eq_true_eq, Bool.not_eq_true', bs_length] at h
  match hx : v.xs, h.1.1 with
  | [y], _ =>
    rw [hx] at h
    refine ⟨h.1.2, y, rfl, by simpa [bs] using h.2, ?_⟩
    show (bs v.xs).headD [] = _
    rw [hx]
    rfl
/-- What lies there once the tail is appended. -/
structure SubEnd (w wx : World) (g : Nat) (A : Option Addr) (xs : List ByteArray) (n c : Nat) (b : Bool) : Prop where
  e0 : wx.cell? ⟨g, 0, none⟩ = some (.slice A n c)
  e1 : wx.cell? ⟨g, 1, none⟩ = some (.bool b)
  pr : PatR wx A xs c b ⟨bs xs, b⟩
  zb : ZBox wx (w.heap.size + 1)
  below : Below w.heap.size w wx
theorem grown_cell {w w' : World} {k : Option Nat} (hg : w.grownBy w' k) {p : Addr} (hp : p.block < w.heap.size) (hk : k ≠ some p.block) : w'.cell? p = w.cell? p := by
  have hb := hg.block p.block hp (fun e => hk e.symm)
  unfold World.cell?
  simp only [hb]
theorem wp_append_sg {w : World} {o : Oper} {a : Act} {K : Act → World → Prop} {Q : Exit → Act → World → Prop} (s x : Operand)
    (ho : o.op = .call { callee := .builtin .append, args := #[s, x], argTypes := #[30, 30] })
    (base : Nat) (v : Value) (ys : List ByteArray) (hs : a.eval s = v) (hown : OwnS w base v ys)
    (A : Option Addr) (xs : List ByteArray) (n c : Nat) (hn : n = xs.length) (hx : a.eval x = .slice A n c) (hr : RdS w w.heap.size A xs) (hnil : A = none → c = 0)
    (hN : ys.length + xs.length ≤ 1000000) (hbase : base ≤ w.heap.size)
    (h : ∀ v' w', OwnS w' base v' (ys ++ xs) → Below base w w' → w.grownBy w' v.ownBlock → K (a.put o.dst v') w') : o.wp Tryd.prog a w K Q := by
  subst hn
  obtain ⟨i, hi, hz, hz1, hz2⟩ := strParts
  cases A with
  | none =>
    obtain rfl := hnil rfl
    have hx0 : xs = [] := by
      rcases hr with h | ⟨g, o', hA, _⟩
      · exact h
      · cases hA
    subst hx0
    have hrun := run_append_owned_none (P := Tryd.prog) (w := w) base 30 o.type 9 i 1 Tryd.underlying30 hi v ys.length (svs ys) hown
    unfold Oper.wp
    simp [execOp, ho, resolve, invoke, builtin, hs, hx, hrun, Result.andThen]
    exact h _ _ (by rw [List.append_nil]; exact hown) (Below.refl _ _) ⟨rfl, rfl, rfl, Nat.le_refl _, fun _ _ _ => rfl⟩
  | some ad =>
    refine wp_append_own w s x _ ho base 9 i _ 1 16 Tryd.underlying30 hi hz hz1 hz2 rfl (by omega) v ys.length (svs ys) hs hown ad xs.length c (svs xs) hx (by simp [svs_length]) hr.svs svs_one
      (by simp only [maxLen]; omega) (by omega) hbase ?_
    intro v' w' hown' hg _
    refine h v' w' ?_ ⟨hg.os, hg.tape, hg.output, hg.size, fun k hk => hg.block k (by omega) (fun e2 => ?_)⟩ hg
    · unfold OwnS
      rw [List.length_append, svs_append]
      exact hown'
    · have := (World.ownsRow.lt hown k e2.symm).1
      omega
/-- append of strings at a step of a region: which block it may write. -/
theorem step_append_sg {w : World} {ops : Array Oper} {o : Oper} {a : Act} {K : Act → World → Prop} {Q : Exit → Act → World → Prop} {E : Prop} (hgd : o.guard = none) (s x : Operand)
    (ho : o.op = .call { callee := .builtin .append, args := #[s, x], argTypes := #[30, 30] })
    (base : Nat) (v : Value) (ys : List ByteArray) (hs : a.eval s = v) (hown : OwnS w base v ys)
    (A : Option Addr) (xs : List ByteArray) (n c : Nat) (hn : n = xs.length) (hx : a.eval x = .slice A n c) (hr : RdS w w.heap.size A xs) (hnil : A = none → c = 0)
    (hN : ys.length + xs.length ≤ 1000000) (hbase : base ≤ w.heap.size)
    (h : ∀ v' w', OwnS w' base v' (ys ++ xs) → Below base w w' → w.grownBy w' v.ownBlock → K (a.put o.dst v') w') : if Region.wanted o (yielded ops a.tmps) = true then Oper.wp Tryd.prog o a w K Q else E := by
  have hw : Region.wanted o (yielded ops a.tmps) = true := by simp [Region.wanted, hgd]
  rw [if_pos hw]
  exact wp_append_sg s x ho base v ys hs hown A xs n c hn hx hr hnil hN hbase h
theorem res_alloc {wr : World} {r : Nat} (o : Obj) (u0 u1 : Value) {v0 v1 : Value} (h : r < wr.heap.size) (y0 : wr.cell? ⟨r, 0, none⟩ = some v0) (y1 : wr.cell? ⟨r, 1, none⟩ = some v1) :
    (((wr.setCell ⟨r, 0, none⟩ u0).setCell ⟨r, 1, none⟩ u1).alloc o).cell? ⟨r, 0, none⟩ = some u0 ∧ (((wr.setCell ⟨r, 0, none⟩ u0).setCell ⟨r, 1, none⟩ u1).alloc o).cell? ⟨r, 1, none⟩ = some u1 := by
  have hb : Below ((wr.setCell ⟨r, 0, none⟩ u0).setCell ⟨r, 1, none⟩ u1).heap.size ((wr.setCell ⟨r, 0, none⟩ u0).setCell ⟨r, 1, none⟩ u1) (((wr.setCell ⟨r, 0, none⟩ u0).setCell ⟨r, 1, none⟩ u1).alloc o) := (Below.refl _ _).alloc (Nat.le_refl _) o
  have hs : r < ((wr.setCell ⟨r, 0, none⟩ u0).setCell ⟨r, 1, none⟩ u1).heap.size := by simpa [World.setCell] using h
  refine ⟨(hb.cell (p := ⟨r, 0, none⟩) hs).trans ?_, (hb.cell (p := ⟨r, 1, none⟩) hs).trans ?_⟩
  · simp [go_sem, y0]
  · simp [go_sem, y1]
end Go.Proofs.YtchgbigjfpffeaaDoor

namespace Go.Proofs.YtchgbigjfpffeaaDoor
open Go.RowKit

theorem same_pats (A B : Option Addr) (xs ys : List ByteArray) (c d : Nat) (b f : Bool) (p : Pt.Pat) (w : World) (hp : PatR w A xs c b p) (hq : PatR w B ys d f p) :
    Calls Tryd.prog 30 #[patV A xs.length c b, patV B ys.length d f] w (GivesBB w true) := by
  have h := rsame_any A B xs ys c d w.heap.size w.heap.size b f w hp.rd hq.rd (Nat.le_refl _) (Nat.le_refl _) (Nat.le_trans hp.le hp.cm) hp.le hq.le (Nat.le_trans hq.le hq.cm)
  have e1 : xs = ys := bs_inj (hp.parts.trans hq.parts.symm)
  have e2 : b = f := hp.rest.trans hq.rest.symm
  have e : samePat b f xs ys = true := by
    unfold samePat
    rw [e1, e2]
    simp
  rw [e] at h
  exact h
end Go.Proofs.YtchgbigjfpffeaaDoor
