/- append of strings at a step of a region that draws its order. -/
import Derived.Test.YtihboibebhokbaaDoorPathOwn2
import Derived.RegionTactic
namespace Go.Proofs.YtihboibebhokbaaDoor
open Go.RowKit

theorem wp_append_ss {w : World} {o : Oper} {a : Act} {K : Act → World → Prop} {Q : Exit → Act → World → Prop} (s x : Operand)
    (ho : o.op = .call { callee := .builtin .append, args := #[s, x], argTypes := #[22, 22] })
    (base : Nat) (v : Value) (ys : List ByteArray) (hs : a.eval s = v) (hown : OwnS w base v ys)
    (A : Option Addr) (xs : List ByteArray) (n c : Nat) (hn : n = xs.length) (hx : a.eval x = .slice A n c) (hr : RdS w w.heap.size A xs) (hnil : A = none → c = 0)
    (hN : ys.length + xs.length ≤ 1000000) (hbase : base ≤ w.heap.size)
    (h : ∀ v' w', OwnS w' base v' (ys ++ xs) → Below base w w' → K (a.put o.dst v') w') : o.wp Tryd.prog a w K Q := by
  subst hn
  obtain ⟨i, hi, hz, hz1, hz2⟩ := strParts
  cases A with
  | none =>
    obtain rfl := hnil rfl
    have hx0 : xs = [] := by
      rcases hr with h | ⟨g, o', hA, _⟩
      · exact h
      · cases hA
    subst hx0
    have hrun := run_append_owned_none (P := Tryd.prog) (w := w) base 22 o.type 9 i 1 Tryd.underlying22 hi v ys.length (svs ys) hown
    unfold Oper.wp
    simp [execOp, ho, resolve, invoke, builtin, hs, hx, hrun, Result.andThen]
    exact h _ _ (by rw [List.append_nil]; exact hown) (Below.refl _ _)
  | some ad =>
    refine wp_append_own w s x _ ho base 9 i _ 1 16 Tryd.underlying22 hi hz hz1 hz2 rfl (by omega) v ys.length (svs ys) hs hown ad xs.length c (svs xs) hx (by simp [svs_length]) hr.svs svs_one
      (by simp only [maxLen]; omega) (by omega) hbase ?_
    intro v' w' hown' hg _
    refine h v' w' ?_ ⟨hg.os, hg.tape, hg.output, hg.size, fun k hk => hg.block k (by omega) (fun e2 => ?_)⟩
    · unfold OwnS
      rw [List.length_append, svs_append]
      exact hown'
    · have := (World.ownsRow.lt hown k e2.symm).1
      omega
theorem step_append_ss {w : World} {ops : Array Oper} {o : Oper} {a : Act} {K : Act → World → Prop} {Q : Exit → Act → World → Prop} {E : Prop} (hgd : o.guard = none) (s x : Operand)
    (ho : o.op = .call { callee := .builtin .append, args := #[s, x], argTypes := #[22, 22] })
    (base : Nat) (v : Value) (ys : List ByteArray) (hs : a.eval s = v) (hown : OwnS w base v ys)
    (A : Option Addr) (xs : List ByteArray) (n c : Nat) (hn : n = xs.length) (hx : a.eval x = .slice A n c) (hr : RdS w w.heap.size A xs) (hnil : A = none → c = 0)
    (hN : ys.length + xs.length ≤ 1000000) (hbase : base ≤ w.heap.size)
    (h : ∀ v' w', OwnS w' base v' (ys ++ xs) → Below base w w' → K (a.put o.dst v') w') : if Region.wanted o (yielded ops a.tmps) = true then Oper.wp Tryd.prog o a w K Q else E := by
  have hw : Region.wanted o (yielded ops a.tmps) = true := by simp [Region.wanted, hgd]
  rw [if_pos hw]
  exact wp_append_ss s x ho base v ys hs hown A xs n c hn hx hr hnil hN hbase h
end Go.Proofs.YtihboibebhokbaaDoor
