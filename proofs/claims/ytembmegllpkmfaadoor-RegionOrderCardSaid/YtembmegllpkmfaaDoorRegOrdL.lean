/- Words for the law of order. -/
import Derived.Test.YtembmegllpkmfaaDoorRegAwake
import Derived.Test.YtembmegllpkmfaaDoorOwnPt
namespace Go.Proofs.YtembmegllpkmfaaDoor
open Go.RowKit
theorem frozen_grown {w w' : World} {row : Option Nat} {q i : Nat} (hg : w.grownBy w' row) (hq : q < w.heap.size) (hn : some q ≠ row) : w'.frozen? ⟨q, i, none⟩ = w.frozen? ⟨q, i, none⟩ := by
  have hb := hg.block q hq hn
  unfold World.frozen?
  simp only [hb]
theorem GBox.grow {w w' : World} {q : Nat} {A : Option Addr} {n c : Nat} {b : Bool} {H : Option Addr} {m e : Nat} (h : GBox w q A n c b H m e) {row : Option Nat} (hg : w.grownBy w' row) (hne : row ≠ some q) : GBox w' q A n c b H m e :=
  ⟨hg.cell h.c0 (fun e => hne e.symm), hg.cell h.c1 (fun e => hne e.symm), hg.cell h.c2 (fun e => hne e.symm), Nat.lt_of_lt_of_le h.lt hg.size⟩
theorem ord_store {V w9 w' : World} {q : Nat} {A H H' : Option Addr} {n c m e m' e' : Nat} {b : Bool} {v : Value} {l : List BindV} (hz : GBox w9 q A n c b H m e) (hf : ∀ i, w9.frozen? ⟨q, i, none⟩ = false) (hb : Below V.heap.size V w9) (hq : V.heap.size ≤ q)
    (ho : OwnP w9 (q + 1) v l) (hx : ∀ x ∈ l, ∀ y ∈ adr x.A x.xs, ∀ a, y = some a → a.block ≠ q) (hw : w' = w9.setCell ⟨q, 2, none⟩ (.slice H' m' e')) :
    GBox w' q A n c b H' m' e' ∧ (∀ i, w'.frozen? ⟨q, i, none⟩ = false) ∧ Below V.heap.size V w' ∧ OwnP w' (q + 1) v l := by
  have hg : w9.grownBy w' (some q) := by rw [hw]; exact grown_set _ _ _ _
  refine ⟨⟨by rw [hw]; simp [go_sem, hz.c0], by rw [hw]; simp [go_sem, hz.c1], by rw [hw]; simp [go_sem, hz.c2], Nat.lt_of_lt_of_le hz.lt hg.size⟩, fun i => by rw [hw]; simp [go_sem, hf i], by rw [hw]; exact hb.setCell (p := ⟨q, 2, none⟩) hq _, ?_⟩
  refine ⟨World.ownsRow.kept ho.row hg ?_, fun x hxm => (ho.parts x hxm).grownA hg fun y hy a e => ⟨fun e2 => ?_, (ho.apart x hxm y hy a e).2⟩, fun x hxm y hy a e => ⟨(ho.apart x hxm y hy a e).1, Nat.lt_of_lt_of_le (ho.apart x hxm y hy a e).2 hg.size⟩⟩
  · cases hv : v.ownBlock with
    | none => exact .inl rfl
    | some k => exact .inr fun e => absurd (Option.some.inj e) (by have := (ho.lt k hv).1; omega)
  · injection e2 with e2
    exact hx x hxm y hy a e e2.symm
end Go.Proofs.YtembmegllpkmfaaDoor
