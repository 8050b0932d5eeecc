/- An argument of bindings opened to its cells. -/
import Derived.Test.YtembmegllpkmfaaGreatDoorPatOpen
import Derived.Test.YtembmegllpkmfaaGreatDoorPatSubA
import Derived.Deep.Slices
import Derived.Deep.Fields
import Derived.ChangeSame
namespace Go.Proofs.YtembmegllpkmfaaGreatDoor
open Go.ChangeShapes Go.WideShapes Go.ChangeAt Go.RowKit Go.Deep
open Go.ChangeMaps (open_string shut_string)

theorem weightsAll_in {H : Type} {P : Program} {e : TypeId} : ∀ {l : List (DataW H)} {d : DataW H}, d ∈ l → ∀ n ∈ d.weights P e, n ∈ DataW.weightsAll P e l
  | d' :: r, d, hd, n, hn => by
    simp only [DataW.weightsAll, List.mem_append]
    rcases List.mem_cons.1 hd with rfl | h
    · exact .inl hn
    · exact .inr (weightsAll_in h n hn)
section
variable {H : Type} {enc : TypeId × Value → H} {W : World} {d : DataW H} {p : List MemPlace} {v : Value} {b0 : Nat}
theorem slice_fields {P : Program} {w : World} {base : Nat} {spare : Nat → Bool} {held : Bool} {t e : TypeId} {fs : Array Field} {fuel : Nat} {cs : List Value} {x : DataW H × List MemPlace} (ht : P.underlying t = some (.slice e)) (he : P.underlying e = some (.struct fs))
    (hone : oneCellFields P fs = true) (hC : P.cellsOf e = fs.size) (h : DataW.trod enc P w base spare held fuel t cs = some x) :
    (cs = [.slice none 0 0]) ∨
    ∃ (a : Addr) (len cap : Nat) (D : Nat → DataW H) (R : List (DataW H)), cs = [.slice (some a) len cap] ∧ len ≤ cap ∧ cap ≤ maxLen ∧ x.1 = .slice ((List.range len).map D) R ∧
      ∀ i, i < len → ∃ (ys : List (DataW H × List MemPlace)) (n : Nat), D i = .agg (ys.map (·.1)) ∧ ys.length = fs.size ∧
        ∀ (j : Nat) (f : Field), fs[j]? = some f → ∃ (v : Value) (y : DataW H × List MemPlace), w.cell? (a.add (i * fs.size + j)) = some v ∧ ys[j]? = some y ∧ DataW.trod enc P w base spare held n f.type [v] = some y := by
  rcases open_slice ht h with h0 | ⟨a, len, cap, m, n, D, Pl, hcs, hb, hl, hm, hmm, hx, hi⟩
  · exact .inl h0.1
  · have hlm : len ≤ m := by rw [hmm]; split <;> omega
    refine .inr ⟨a, len, cap, D, _, hcs, hl, hm, by rw [hx], fun i him => ?_⟩
    obtain ⟨cs', hc, ht'⟩ := hi i (by omega)
    rw [hC] at hc
    obtain ⟨ys, n', hn', hy, hlen, hyl, hf⟩ := DataW.trod_struct he ht'
    obtain ⟨_, hcl, hat⟩ := World.cells?_some hc
    simp only [Prod.mk.injEq] at hy
    refine ⟨ys, n', hy.1, hyl, fun j f hj => ?_⟩
    obtain ⟨ho, hk⟩ := hone_of hone j f hj
    have hjl : j < fs.size := (Array.getElem?_eq_some_iff.1 hj).1
    have hcell := hat j hjl
    have hv : cs'[j]? = some (cs'[j]'(by omega)) := List.getElem?_eq_getElem (by omega)
    have h1 := hf j f hj
    rw [ho, hk] at h1
    have hone' : (cs'.drop j).take 1 = [cs'[j]'(by omega)] := by
      rw [List.drop_eq_getElem_cons (by omega)]
      rfl
    rw [hone'] at h1
    have hys : ys[j]? = some (ys[j]'(by omega)) := List.getElem?_eq_getElem (by omega)
    refine ⟨_, _, ?_, hys, h1.trans hys⟩
    rw [← Go.Deep.add_add, hcell, hv]
set_option maxRecDepth 1000000 in
theorem open_binds (hv : Value.okWide Tryz.prog W .any b0 145 v) (h : DataW.Trod enc Tryz.prog W 0 (fun _ => true) true 145 v d p) (hw : ∀ k ∈ DataW.weights Tryz.prog 145 d, k ≤ reachBytes) :
    ∃ (A : Option Addr) (bl : List BindV) (c : Nat), v = .slice A bl.length c ∧ RdB W A bl c ∧ ∀ x ∈ bl, ∀ y ∈ x.xs, y.size ≤ 140737488355000 := by
  obtain ⟨a0, len0, cap0, rfl⟩ := okWide_slice Tryz.underlying145 hv
  obtain ⟨fuel, hf⟩ := h
  have hf' : DataW.trod enc Tryz.prog W 0 (fun _ => true) true fuel 145 [.slice a0 len0 cap0] = some (d, p) := hf
  rcases slice_fields Tryz.underlying145 Tryz.underlying170 (by kernel_rfl) (by kernel_rfl) hf' with hcs | ⟨a, len, cap, D, R, hcs, hl, hm, hd, hi⟩
  · simp only [List.cons.injEq, and_true] at hcs
    rw [hcs]
    exact ⟨none, [], 0, rfl, ⟨.inl rfl, fun x hx => (by cases hx), by simp, by simp, fun _ => rfl⟩, fun x hx => (by cases hx)⟩
  · simp only [List.cons.injEq, and_true] at hcs
    rw [hcs]
    have hd' : d = .slice ((List.range len).map D) R := hd
    have hall : ∀ i : Nat, ∃ b : BindV, i < len → W.cell? (a.add (i * 2)) = some (.slice b.A b.xs.length b.c) ∧ W.cell? (a.add (i * 2 + 1)) = some (.bool b.b) ∧ PatR W b.A b.xs b.c b.b b.pat ∧ ∀ y ∈ b.xs, y.size ≤ 140737488355000 := fun i => by
      by_cases him : i < len
      · obtain ⟨ys, n, hD, hyl, hfs⟩ := hi i him
        obtain ⟨v0, y0, c0, g0, t0⟩ := hfs 0 _ rfl
        obtain ⟨v1, y1, c1, g1, t1⟩ := hfs 1 _ rfl
        obtain ⟨A, xs, c, rfl, x1, x2, x3, x4, x5, x6⟩ := open_strs (v := v0) t0 (fun k hk => hw k (by
          rw [hd', DataW.weights, Tryz.underlying145]
          refine List.mem_cons_of_mem _ (List.mem_append_left _ (weightsAll_in (List.mem_map.2 ⟨i, List.mem_range.2 him, rfl⟩) k ?_))
          rw [hD, DataW.weights, Tryz.underlying170]
          match ys, g0 with
          | z :: r, g0 =>
            simp only [List.getElem?_cons_zero, Option.some.injEq] at g0
            subst g0
            simp only [List.map_cons, DataW.weightsEach]
            exact List.mem_append_left _ hk))
        obtain ⟨b, hb, _⟩ := DataW.trod_bool Tryz.underlying4 t1
        simp only [List.cons.injEq, and_true] at hb
        subst hb
        exact ⟨⟨A, xs, c, b⟩, fun _ => ⟨c0, c1, ⟨x4, rfl, rfl, x1, x2, x3, x5⟩, x6⟩⟩
      · exact ⟨⟨none, [], 0, false⟩, fun h => absurd h him⟩
    obtain ⟨f, hfn⟩ := Classical.skolem.1 hall
    have hin : ∀ x ∈ (List.range len).map f, ∃ i, i < len ∧ x = f i := fun x hx => by
      obtain ⟨i, h1, h2⟩ := List.mem_map.1 hx
      exact ⟨i, List.mem_range.1 h1, h2.symm⟩
    refine ⟨some a, (List.range len).map f, cap, by simp, ⟨?_, fun x hx => ?_, by simpa using hl, hm, fun h => by cases h⟩, fun x hx => ?_⟩
    · by_cases h0 : len = 0
      · left; rw [h0]; rfl
      · obtain ⟨g, o, spot⟩ := a
        have hc0 := (hfn 0 (by omega)).1
        have hspot : spot = none := by simpa [Addr.add] using World.cell?_spot hc0
        subst hspot
        refine .inr ⟨g, o, rfl, World.block_lt_of_cell? W _ hc0, fun k hk => ?_⟩
        have hk' : k < len := by simpa using hk
        have h1 := hfn k hk'
        rw [add_plain, add_plain] at h1
        have e : ((List.range len).map f)[k] = f k := by simp
        rw [e]
        exact ⟨h1.1, h1.2.1⟩
    · obtain ⟨i, h1, rfl⟩ := hin x hx
      exact (hfn i h1).2.2.1
    · obtain ⟨i, h1, rfl⟩ := hin x hx
      exact (hfn i h1).2.2.2
end
end Go.Proofs.YtembmegllpkmfaaGreatDoor
