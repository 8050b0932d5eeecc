/- Append onto an own slice of strings, with the block that it stays in; strings.Split with the block of its answer. -/
import Derived.Test.YtihboibebhokbaaDoorPathOwn
import Derived.Test.YtihboibebhokbaaDoorPathSeg2
import Derived.Maps.AppendAt
namespace Go.Proofs.YtihboibebhokbaaDoor
open Go.RowKit

section
variable {w : World} {ops : Array Oper} {rest : List Oper} {o : Oper} {a : Act} {Q : Exit → Act → World → Prop}
/-- append of strings onto a slice of the call's own: what else lies in memory stays, and where the new slice lies. -/
theorem wpList_append_st (hgd : o.guard = none) (s x : Operand)
    (ho : o.op = .call { callee := .builtin .append, args := #[s, x], argTypes := #[22, 22] })
    (base : Nat) (v : Value) (ys : List ByteArray) (hs : a.eval s = v) (hown : OwnS w base v ys)
    (ad : Addr) (xs : List ByteArray) (c : Nat) (hx : a.eval x = .slice (some ad) xs.length c) (hr : RdS w w.heap.size (some ad) xs)
    (hN : ys.length + xs.length ≤ 1000000) (hbase : base ≤ w.heap.size)
    (h : ∀ v' w', OwnS w' base v' (ys ++ xs) → Below base w w' → w.grownBy w' v.ownBlock → (v'.ownBlock = v.ownBlock ∨ v'.ownBlock = some w.heap.size) → wpList Tryd.prog ops Q rest (a.put o.dst v') w') : wpList Tryd.prog ops Q (o :: rest) a w := by
  obtain ⟨i, hi, hz, hz1, hz2⟩ := strParts
  refine wpList_append_own_at w hgd s x _ ho base 9 i _ 1 16 Tryd.underlying22 hi hz hz1 hz2 rfl (by omega) v ys.length (svs ys) hs hown ad xs.length c (svs xs) hx (by simp [svs_length]) hr.svs svs_one
    (by simp only [maxLen]; omega) (by omega) hbase ?_
  intro v' w' hown' hg _ hat
  refine h v' w' ?_ ⟨hg.os, hg.tape, hg.output, hg.size, fun k hk => hg.block k (by omega) (fun e2 => ?_)⟩ hg hat
  · unfold OwnS
    rw [List.length_append, svs_append]
    exact hown'
  · have := (World.ownsRow.lt hown k e2.symm).1
    omega
end
theorem OwnS.lt {w : World} {base : Nat} {v : Value} {xs : List ByteArray} (h : OwnS w base v xs) : ∀ k, v.ownBlock = some k → k < w.heap.size := fun k hk => (World.ownsRow.lt h k hk).2
/-- strings.Split at one separator: the answer's block is the new one. -/
theorem split_new (s sep : ByteArray) (w : World) (hsep : sep.data.toList = [47]) (hs : s.size < 4294967281) (hm : MaxL w) : Calls Tryd.prog 64 #[.string s, .string sep] w (fun e w' =>
    ∃ (xs : List ByteArray), e = .returned (.slice (some ⟨w.heap.size, 0, none⟩) xs.length xs.length) ∧ bs xs = Pm.segs s.data.toList ∧ (∀ j (h : j < xs.length), w'.cell? ⟨w.heap.size, j, none⟩ = some (.string xs[j])) ∧ w.heap.size < w'.heap.size ∧ Below w.heap.size w w') := by
  obtain ⟨m, hm⟩ := hm
  have h1 : 1 ≤ sep.size := by rw [Lib.size_eq, hsep]; simp
  refine (Tryd.strings_Split s sep m w hs hm h1).mono ?_
  rintro e w' ⟨rfl, rfl⟩
  have hb : bs (Lib.splitB sep 0 (Lib.countB s sep) s) = Pm.segs s.data.toList := by
    show (Lib.splitB sep 0 (Lib.countB s sep) s).map (fun x => x.data.toList) = _
    rw [Lib.splitB_data, hsep]
    show Lib.splitK [47] 0 (Lib.count s.data.toList sep.data.toList) s.data.toList = _
    rw [hsep]
    exact Pm.splitK_segs _ _ (Nat.le_refl _)
  have hn : (Lib.splitB sep 0 (Lib.countB s sep) s).length = Lib.countB s sep + 1 := Lib.splitB_all sep h1 0 _ s rfl
  refine ⟨Lib.splitB sep 0 (Lib.countB s sep) s, by rw [hn], hb, fun j hj => ?_, by simp, (Below.refl _ _).alloc (Nat.le_refl _) _⟩
  rw [cell_of_row _ _ _ _ _ (0, 0) (heap_alloc_new w _)]
  simp [List.getElem?_eq_getElem hj]
end Go.Proofs.YtihboibebhokbaaDoor
