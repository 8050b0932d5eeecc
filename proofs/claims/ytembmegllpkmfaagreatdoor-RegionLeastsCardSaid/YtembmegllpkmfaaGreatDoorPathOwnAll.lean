/- Slices of strings of the call's own, and append onto them. Append onto an own slice of strings, with the block that it stays in; strings.Split with the block of its answer. append of strings at a step of a region that draws its order. -/
import Derived.Test.YtembmegllpkmfaaGreatDoorPathAll
import Derived.OwnWalk
import Derived.Laws.OwnMore
import Derived.Laws.MakeOwn
import Derived.Laws.AppendOwnNone
import Derived.LoopTactic
import Derived.Maps.AppendAt
import Derived.RegionTactic
namespace Go.Proofs.YtembmegllpkmfaaGreatDoor
open Go.RowKit

def svs (xs : List ByteArray) : List Value := xs.map Value.string
theorem svs_length (xs : List ByteArray) : (svs xs).length = xs.length := by simp [svs]
theorem svs_append (xs ys : List ByteArray) : svs (xs ++ ys) = svs xs ++ svs ys := by simp [svs]
theorem svs_one {xs : List ByteArray} : ∀ u ∈ svs xs, u.oneCell' = true := by
  intro u hu
  simp only [svs, List.mem_map] at hu
  obtain ⟨b, _, rfl⟩ := hu
  rfl
theorem add_plain (g o j : Nat) : (⟨g, o, none⟩ : Addr).add j = ⟨g, o + j, none⟩ := by unfold Addr.add; split <;> simp_all
/-- A slice of the call's own that holds these strings, in a block from 'base' on. -/
def OwnS (w : World) (base : Nat) (v : Value) (xs : List ByteArray) : Prop := w.ownsRow base 9 1 v xs.length (svs xs)
theorem OwnS.empty (w : World) (base : Nat) : OwnS w base (.slice none 0 0) [] := World.ownsRow_nil w base 9 1
theorem OwnS.form {w : World} {base : Nat} {v : Value} {xs : List ByteArray} (h : OwnS w base v xs) :
    ∃ A c, v = .slice A xs.length c ∧ xs.length ≤ c ∧ c ≤ maxLen ∧ RdS w w.heap.size A xs ∧ (A = none → c = 0) := by
  rcases h.2 with ⟨hv, hn⟩ | ⟨g, cap, cur, hv, hb, hg, hnc, hcm, hcs, ht⟩
  · have : xs = [] := List.eq_nil_of_length_eq_zero hn
    subst this
    exact ⟨none, 0, hv, by simp, by simp, .inl rfl, fun _ => rfl⟩
  · refine ⟨some ⟨g, 0, none⟩, cap, hv, hnc, hcm, .inr ⟨g, 0, rfl, (Array.getElem?_eq_some_iff.1 hg).1, fun j hj => ?_⟩, fun h => by cases h⟩
    have hc := World.ownsRow.cells (show w.ownsRow base 9 1 v xs.length (svs xs) from h) (g := g) (by rw [hv]; rfl) j (.string xs[j]) (by simp [svs, List.getElem?_eq_getElem hj])
    rw [add_plain] at hc
    exact hc
theorem OwnS.below {w w' : World} {base : Nat} {v : Value} {xs : List ByteArray} (h : OwnS w base v xs) (hb : Below w.heap.size w w') : OwnS w' base v xs := by
  refine ⟨h.1, ?_⟩
  rcases h.2 with hv | ⟨g, cap, cur, hv, hbg, hg, r⟩
  · exact .inl hv
  · exact .inr ⟨g, cap, cur, hv, hbg, by rw [hb.block g (Array.getElem?_eq_some_iff.1 hg).1]; exact hg, r⟩
theorem OwnS.more {w : World} {base base' : Nat} {v : Value} {xs : List ByteArray} (h : OwnS w base v xs) (hB : base' ≤ base) : OwnS w base' v xs := by
  refine ⟨h.1, ?_⟩
  rcases h.2 with hv | ⟨g, cap, cur, hv, hbg, r⟩
  · exact .inl hv
  · exact .inr ⟨g, cap, cur, hv, by omega, r⟩

theorem strInfo : (Tryz.prog.info? 9).map (fun i => (i.zero, i.size, i.bytes)) = some (some (.string ⟨#[]⟩), 1, 16) := by kernel_rfl
theorem strParts : ∃ i, Tryz.prog.info? 9 = some i ∧ i.zero = some (.string ⟨#[]⟩) ∧ i.size = 1 ∧ i.bytes = 16 := by
  have hi := strInfo
  cases hx : Tryz.prog.info? 9 with
  | none => rw [hx] at hi; simp at hi
  | some i =>
    rw [hx] at hi
    simp only [Option.map_some, Option.some.injEq, Prod.mk.injEq] at hi
    exact ⟨i, rfl, hi.1, hi.2.1, hi.2.2⟩
theorem RdS.svs {w : World} {B : Nat} {ad : Addr} {xs : List ByteArray} (h : RdS w B (some ad) xs) : ∀ j u, (svs xs)[j]? = some u → w.cell? (ad.add j) = some u := by
  intro j u hu
  rcases h with rfl | ⟨g, o', hA, _, hcell⟩
  · simp [Proofs.YtembmegllpkmfaaGreatDoor.svs] at hu
  · injection hA with hA
    subst hA
    obtain ⟨hj, rfl⟩ := List.getElem?_eq_some_iff.1 hu
    rw [svs_length] at hj
    rw [add_plain, hcell j hj]
    simp [Proofs.YtembmegllpkmfaaGreatDoor.svs]

section
variable {w : World} {ops : Array Oper} {rest : List Oper} {o : Oper} {a : Act} {Q : Exit → Act → World → Prop}

/-- append of strings onto a slice of the call's own. -/
theorem wpList_append_ss (hgd : o.guard = none) (s x : Operand)
    (ho : o.op = .call { callee := .builtin .append, args := #[s, x], argTypes := #[22, 22] })
    (base : Nat) (v : Value) (ys : List ByteArray) (hs : a.eval s = v) (hown : OwnS w base v ys)
    (A : Option Addr) (xs : List ByteArray) (c : Nat) (hx : a.eval x = .slice A xs.length c) (hr : RdS w w.heap.size A xs) (hnil : A = none → c = 0)
    (hN : ys.length + xs.length ≤ 1000000) (hbase : base ≤ w.heap.size)
    (h : ∀ v' w', OwnS w' base v' (ys ++ xs) → Below base w w' → wpList Tryz.prog ops Q rest (a.put o.dst v') w') : wpList Tryz.prog ops Q (o :: rest) a w := by
  obtain ⟨i, hi, hz, hz1, hz2⟩ := strParts
  cases A with
  | none =>
    obtain rfl := hnil rfl
    have hx0 : xs = [] := by
      rcases hr with h | ⟨g, o', hA, _⟩
      · exact h
      · cases hA
    subst hx0
    refine wpList_append_own_none hgd s x _ ho base 9 i 1 Tryz.underlying22 hi v ys.length (svs ys) hs hown hx ?_
    exact h v w (by rw [List.append_nil]; exact hown) (Below.refl _ _)
  | some ad =>
    refine wpList_append_own w hgd s x _ ho base 9 i _ 1 16 Tryz.underlying22 hi hz hz1 hz2 rfl (by omega) v ys.length (svs ys) hs hown ad xs.length c (svs xs) hx (by simp [svs_length]) hr.svs svs_one
      (by simp only [maxLen]; omega) (by omega) hbase ?_
    intro v' w' hown' hg _
    refine h v' w' ?_ ⟨hg.os, hg.tape, hg.output, hg.size, fun k hk => hg.block k (by omega) (fun e2 => ?_)⟩
    · unfold OwnS
      rw [List.length_append, svs_append]
      exact hown'
    · have := (World.ownsRow.lt hown k e2.symm).1
      omega
end
theorem new_one (w : World) (x : ByteArray) (t : TypeId) : RdS (w.alloc (.cells #[.string x] t)) (w.alloc (.cells #[.string x] t)).heap.size (some ⟨w.heap.size, 0, none⟩) [x] := by
  refine .inr ⟨w.heap.size, 0, rfl, by simp, fun j hj => ?_⟩
  simp only [List.length_cons, List.length_nil] at hj
  obtain rfl : j = 0 := by omega
  rw [cell_of_row _ _ _ _ t (0, 0) (heap_alloc_new w _)]
  rfl
end Go.Proofs.YtembmegllpkmfaaGreatDoor

namespace Go.Proofs.YtembmegllpkmfaaGreatDoor
open Go.RowKit

section
variable {w : World} {ops : Array Oper} {rest : List Oper} {o : Oper} {a : Act} {Q : Exit → Act → World → Prop}
/-- append of strings onto a slice of the call's own: what else lies in memory stays, and where the new slice lies. -/
theorem wpList_append_st (hgd : o.guard = none) (s x : Operand)
    (ho : o.op = .call { callee := .builtin .append, args := #[s, x], argTypes := #[22, 22] })
    (base : Nat) (v : Value) (ys : List ByteArray) (hs : a.eval s = v) (hown : OwnS w base v ys)
    (ad : Addr) (xs : List ByteArray) (c : Nat) (hx : a.eval x = .slice (some ad) xs.length c) (hr : RdS w w.heap.size (some ad) xs)
    (hN : ys.length + xs.length ≤ 1000000) (hbase : base ≤ w.heap.size)
    (h : ∀ v' w', OwnS w' base v' (ys ++ xs) → Below base w w' → w.grownBy w' v.ownBlock → (v'.ownBlock = v.ownBlock ∨ v'.ownBlock = some w.heap.size) → wpList Tryz.prog ops Q rest (a.put o.dst v') w') : wpList Tryz.prog ops Q (o :: rest) a w := by
  obtain ⟨i, hi, hz, hz1, hz2⟩ := strParts
  refine wpList_append_own_at w hgd s x _ ho base 9 i _ 1 16 Tryz.underlying22 hi hz hz1 hz2 rfl (by omega) v ys.length (svs ys) hs hown ad xs.length c (svs xs) hx (by simp [svs_length]) hr.svs svs_one
    (by simp only [maxLen]; omega) (by omega) hbase ?_
  intro v' w' hown' hg _ hat
  refine h v' w' ?_ ⟨hg.os, hg.tape, hg.output, hg.size, fun k hk => hg.block k (by omega) (fun e2 => ?_)⟩ hg hat
  · unfold OwnS
    rw [List.length_append, svs_append]
    exact hown'
  · have := (World.ownsRow.lt hown k e2.symm).1
    omega
end
theorem OwnS.lt {w : World} {base : Nat} {v : Value} {xs : List ByteArray} (h : OwnS w base v xs) : ∀ k, v.ownBlock = some k → k < w.heap.size := fun k hk => (World.ownsRow.lt h k hk).2
/-- strings.Split at one separator: the answer's block is the new one. -/
theorem split_new (s sep : ByteArray) (w : World) (hsep : sep.data.toList = [47]) (hs : s.size < 4294967281) (hm : MaxL w) : Calls Tryz.prog 131 #[.string s, .string sep] w (fun e w' =>
    ∃ (xs : List ByteArray), e = .returned (.slice (some ⟨w.heap.size, 0, none⟩) xs.length xs.length) ∧ bs xs = Pm.segs s.data.toList ∧ (∀ j (h : j < xs.length), w'.cell? ⟨w.heap.size, j, none⟩ = some (.string xs[j])) ∧ w.heap.size < w'.heap.size ∧ Below w.heap.size w w') := by
  obtain ⟨m, hm⟩ := hm
  have h1 : 1 ≤ sep.size := by rw [Lib.size_eq, hsep]; simp
  refine (Tryz.strings_Split s sep m w hs hm h1).mono ?_
  rintro e w' ⟨rfl, rfl⟩
  have hb : bs (Lib.splitB sep 0 (Lib.countB s sep) s) = Pm.segs s.data.toList := by
    show (Lib.splitB sep 0 (Lib.countB s sep) s).map (fun x => x.data.toList) = _
    rw [Lib.splitB_data, hsep]
    show Lib.splitK [47] 0 (Lib.count s.data.toList sep.data.toList) s.data.toList = _
    rw [hsep]
    exact Pm.splitK_segs _ _ (Nat.le_refl _)
  have hn : (Lib.splitB sep 0 (Lib.countB s sep) s).length = Lib.countB s sep + 1 := Lib.splitB_all sep h1 0 _ s rfl
  refine ⟨Lib.splitB sep 0 (Lib.countB s sep) s, by rw [hn], hb, fun j hj => ?_, by simp, (Below.refl _ _).alloc (Nat.le_refl _) _⟩
  rw [cell_of_row _ _ _ _ _ (0, 0) (heap_alloc_new w _)]
  simp [List.getElem?_eq_getElem hj]
end Go.Proofs.YtembmegllpkmfaaGreatDoor

namespace Go.Proofs.YtembmegllpkmfaaGreatDoor
open Go.RowKit

theorem wp_append_ss {w : World} {o : Oper} {a : Act} {K : Act → World → Prop} {Q : Exit → Act → World → Prop} (s x : Operand)
    (ho : o.op = .call { callee := .builtin .append, args := #[s, x], argTypes := #[22, 22] })
    (base : Nat) (v : Value) (ys : List ByteArray) (hs : a.eval s = v) (hown : OwnS w base v ys)
    (A : Option Addr) (xs : List ByteArray) (n c : Nat) (hn : n = xs.length) (hx : a.eval x = .slice A n c) (hr : RdS w w.heap.size A xs) (hnil : A = none → c = 0)
    (hN : ys.length + xs.length ≤ 1000000) (hbase : base ≤ w.heap.size)
    (h : ∀ v' w', OwnS w' base v' (ys ++ xs) → Below base w w' → K (a.put o.dst v') w') : o.wp Tryz.prog a w K Q := by
  subst hn
  obtain ⟨i, hi, hz, hz1, hz2⟩ := strParts
  cases A with
  | none =>
    obtain rfl := hnil rfl
    have hx0 : xs = [] := by
      rcases hr with h | ⟨g, o', hA, _⟩
      · exact h
      · cases hA
    subst hx0
    have hrun := run_append_owned_none (P := Tryz.prog) (w := w) base 22 o.type 9 i 1 Tryz.underlying22 hi v ys.length (svs ys) hown
    unfold Oper.wp
    simp [execOp, ho, resolve, invoke, builtin, hs, hx, hrun, Result.andThen]
    exact h _ _ (by rw [List.append_nil]; exact hown) (Below.refl _ _)
  | some ad =>
    refine wp_append_own w s x _ ho base 9 i _ 1 16 Tryz.underlying22 hi hz hz1 hz2 rfl (by omega) v ys.length (svs ys) hs hown ad xs.length c (svs xs) hx (by simp [svs_length]) hr.svs svs_one
      (by simp only [maxLen]; omega) (by omega) hbase ?_
    intro v' w' hown' hg _
    refine h v' w' ?_ ⟨hg.os, hg.tape, hg.output, hg.size, fun k hk => hg.block k (by omega) (fun e2 => ?_)⟩
    · unfold OwnS
      rw [List.length_append, svs_append]
      exact hown'
    · have := (World.ownsRow.lt hown k e2.symm).1
      omega
theorem step_append_ss {w : World} {ops : Array Oper} {o : Oper} {a : Act} {K : Act → World → Prop} {Q : Exit → Act → World → Prop} {E : Prop} (hgd : o.guard = none) (s x : Operand)
    (ho : o.op = .call { callee := .builtin .append, args := #[s, x], argTypes := #[22, 22] })
    (base : Nat) (v : Value) (ys : List ByteArray) (hs : a.eval s = v) (hown : OwnS w base v ys)
    (A : Option Addr) (xs : List ByteArray) (n c : Nat) (hn : n = xs.length) (hx : a.eval x = .slice A n c) (hr : RdS w w.heap.size A xs) (hnil : A = none → c = 0)
    (hN : ys.length + xs.length ≤ 1000000) (hbase : base ≤ w.heap.size)
    (h : ∀ v' w', OwnS w' base v' (ys ++ xs) → Below base w w' → K (a.put o.dst v') w') : if Region.wanted o (yielded ops a.tmps) = true then Oper.wp Tryz.prog o a w K Q else E := by
  have hw : Region.wanted o (yielded ops a.tmps) = true := by simp [Region.wanted, hgd]
  rw [if_pos hw]
  exact wp_append_ss s x ho base v ys hs hown A xs n c hn hx hr hnil hN hbase h
end Go.Proofs.YtembmegllpkmfaaGreatDoor
