/- The reading of a region that is an argument. -/
import Derived.Test.YtembmegllpkmfaaGreatDoorRegFnA
import Derived.Test.YtembmegllpkmfaaGreatDoorPatOpenB
namespace Go.Proofs.YtembmegllpkmfaaGreatDoor
open Go.ChangeShapes Go.WideShapes Go.ChangeAt Go.RowKit Go.Deep
open Go.ChangeMaps (open_string shut_string)
section
variable {H : Type} {enc : TypeId × Value → H} {W : World} {d : DataW H} {p : List MemPlace} {v : Value} {b0 : Nat}
theorem open_strsL {n : Nat} {x : DataW H × List MemPlace} (h : DataW.trod enc Tryz.prog W 0 (fun _ => true) true n 22 [v] = some x) (hw : ∀ k ∈ DataW.weights Tryz.prog 22 x.1, k ≤ reachBytes) :
    ∀ (A : Option Addr) (l c : Nat), v = .slice A l c → l ≤ 140737488355328 := by
  intro A l c hv
  rcases open_strings Tryz.underlying22 Tryz.underlying9 (by kernel_rfl) h with ⟨hcs, _⟩ | ⟨x, l', c', ss, hcs, _, hl, hm, hz, rfl, hcell, hws⟩
  · simp only [List.cons.injEq, and_true] at hcs
    rw [hcs] at hv
    injection hv with _ h2
    omega
  · simp only [List.cons.injEq, and_true] at hcs
    rw [hcs] at hv
    injection hv with _ h2
    subst h2
    have h3 := hw _ (by
      rw [DataW.weights, Tryz.underlying22]
      exact List.mem_cons_self)
    have hb : Tryz.prog.bytesOf 9 = 16 := by kernel_rfl
    rw [hb] at h3
    unfold reachBytes at h3
    simp only [if_true] at hz
    have he : (ss.take l').length = l' := by simp; omega
    have hs4 : (strs (H := H) (List.take l' ss)).length = (List.take l' ss).length := by simp [strs]
    omega
set_option maxRecDepth 1000000 in
theorem open_pats {n : Nat} {x : DataW H × List MemPlace} {c2 : Value} (h : DataW.trod enc Tryz.prog W 0 (fun _ => true) true n 25 [c2] = some x) (hw : ∀ k ∈ DataW.weights Tryz.prog 25 x.1, k ≤ reachBytes) :
    ∃ (A : Option Addr) (bl : List BindV) (c : Nat), c2 = .slice A bl.length c ∧ RdB W A bl c ∧ (∀ x ∈ bl, ∀ y ∈ x.xs, y.size ≤ 140737488355000) ∧ ∀ x ∈ bl, x.xs.length ≤ 140737488355328 := by
  rcases slice_fields Tryz.underlying25 Tryz.underlying24 (by kernel_rfl) (by kernel_rfl) h with hcs | ⟨a, len, cap, D, R, hcs, hl, hm, hd, hi⟩
  · simp only [List.cons.injEq, and_true] at hcs
    rw [hcs]
    exact ⟨none, [], 0, rfl, ⟨.inl rfl, fun x hx => (by cases hx), by simp, by simp, fun _ => rfl⟩, fun x hx => (by cases hx), fun x hx => (by cases hx)⟩
  · simp only [List.cons.injEq, and_true] at hcs
    rw [hcs]
    have hd' : x.1 = .slice ((List.range len).map D) R := hd
    have hall : ∀ i : Nat, ∃ b : BindV, i < len → W.cell? (a.add (i * 2)) = some (.slice b.A b.xs.length b.c) ∧ W.cell? (a.add (i * 2 + 1)) = some (.bool b.b) ∧ PatR W b.A b.xs b.c b.b b.pat ∧ (∀ y ∈ b.xs, y.size ≤ 140737488355000) ∧ b.xs.length ≤ 140737488355328 := fun i => by
      by_cases him : i < len
      · obtain ⟨ys, n, hD, hyl, hfs⟩ := hi i him
        obtain ⟨v0, y0, c0, g0, t0⟩ := hfs 0 _ rfl
        obtain ⟨v1, y1, c1, g1, t1⟩ := hfs 1 _ rfl
        have hwk : ∀ k ∈ DataW.weights Tryz.prog 22 y0.1, k ≤ reachBytes := (fun k hk => hw k (by
          rw [hd', DataW.weights, Tryz.underlying25]
          refine List.mem_cons_of_mem _ (List.mem_append_left _ (weightsAll_in (List.mem_map.2 ⟨i, List.mem_range.2 him, rfl⟩) k ?_))
          rw [hD, DataW.weights, Tryz.underlying24]
          match ys, g0 with
          | z :: r, g0 =>
            simp only [List.getElem?_cons_zero, Option.some.injEq] at g0
            subst g0
            simp only [List.map_cons, DataW.weightsEach]
            exact List.mem_append_left _ hk))
        have hL := open_strsL (v := v0) t0 hwk
        obtain ⟨A, xs, c, rfl, x1, x2, x3, x4, x5, x6⟩ := open_strs (v := v0) t0 hwk
        obtain ⟨b, hb, _⟩ := DataW.trod_bool Tryz.underlying4 t1
        simp only [List.cons.injEq, and_true] at hb
        subst hb
        exact ⟨⟨A, xs, c, b⟩, fun _ => ⟨c0, c1, ⟨x4, rfl, rfl, x1, x2, x3, x5⟩, x6, hL _ _ _ rfl⟩⟩
      · exact ⟨⟨none, [], 0, false⟩, fun h => absurd h him⟩
    obtain ⟨f, hfn⟩ := Classical.skolem.1 hall
    have hin : ∀ x ∈ (List.range len).map f, ∃ i, i < len ∧ x = f i := fun x hx => by
      obtain ⟨i, h1, h2⟩ := List.mem_map.1 hx
      exact ⟨i, List.mem_range.1 h1, h2.symm⟩
    refine ⟨some a, (List.range len).map f, cap, by simp, ⟨?_, fun x hx => ?_, by simpa using hl, hm, fun h => by cases h⟩, fun x hx => ?_, fun x hx => ?_⟩
    · by_cases h0 : len = 0
      · left; rw [h0]; rfl
      · obtain ⟨g, o, spot⟩ := a
        have hc0 := (hfn 0 (by omega)).1
        have hspot : spot = none := by simpa [Addr.add] using World.cell?_spot hc0
        subst hspot
        refine .inr ⟨g, o, rfl, World.block_lt_of_cell? W _ hc0, fun k hk => ?_⟩
        have hk' : k < len := by simpa using hk
        have h1 := hfn k hk'
        rw [add_plain, add_plain] at h1
        have e : ((List.range len).map f)[k] = f k := by simp
        rw [e]
        exact ⟨h1.1, h1.2.1⟩
    · obtain ⟨i, h1, rfl⟩ := hin x hx
      exact (hfn i h1).2.2.1
    · obtain ⟨i, h1, rfl⟩ := hin x hx
      exact (hfn i h1).2.2.2.1
    · obtain ⟨i, h1, rfl⟩ := hin x hx
      exact (hfn i h1).2.2.2.2
set_option maxRecDepth 1000000 in
theorem open_patl (hv : Value.okWide Tryz.prog W .any b0 25 v) (h : DataW.Trod enc Tryz.prog W 0 (fun _ => true) true 25 v d p) (hw : ∀ k ∈ DataW.weights Tryz.prog 25 d, k ≤ reachBytes) :
    ∃ (A : Option Addr) (bl : List BindV) (c : Nat), v = .slice A bl.length c ∧ RdB W A bl c ∧ (∀ x ∈ bl, ∀ y ∈ x.xs, y.size ≤ 140737488355000) ∧ ∀ x ∈ bl, x.xs.length ≤ 140737488355328 := by
  obtain ⟨a0, len0, cap0, rfl⟩ := okWide_slice Tryz.underlying25 hv
  obtain ⟨fuel, hf⟩ := h
  have hf' : DataW.trod enc Tryz.prog W 0 (fun _ => true) true fuel 25 [.slice a0 len0 cap0] = some (d, p) := hf
  exact open_pats hf' hw
set_option maxRecDepth 1000000 in
theorem open_reg (hv : Value.okWide Tryz.prog W .any b0 27 v) (h : DataW.Trod enc Tryz.prog W 0 (fun _ => true) true 27 v d p) (hw : ∀ k ∈ DataW.weights Tryz.prog 27 d, k ≤ reachBytes) :
    ∃ (A : Option Addr) (xs : List ByteArray) (c : Nat) (b : Bool) (K : Option Addr) (bl : List BindV) (e : Nat), v = regV A xs.length c b K bl.length e ∧ RegR W A xs c b K bl e ⟨⟨bs xs, b⟩, bl.map BindV.pat⟩ ∧ (∀ x ∈ xs, x.size ≤ 140737488355000) ∧ (∀ x ∈ bl, ∀ y ∈ x.xs, y.size ≤ 140737488355000) ∧ xs.length ≤ 140737488355328 ∧ ∀ x ∈ bl, x.xs.length ≤ 140737488355328 := by
  have hC : Tryz.prog.cellsOf 27 = 3 := by kernel_rfl
  have k0 : Tryz.prog.cellsOf 24 = 2 := by kernel_rfl
  have k1 : Tryz.prog.cellsOf 25 = 1 := by kernel_rfl
  obtain ⟨cs, rfl, hsz⟩ := okWide_struct Tryz.underlying27 hv
  obtain ⟨l⟩ := cs
  match l, hsz.trans hC with
  | [c0, c1, c2], _ =>
    obtain ⟨fuel, hf⟩ := h
    obtain ⟨y0, y1, n, hdp, _, h0, h1⟩ := trod_struct2 Tryz.underlying27 hf
    simp only [Prod.mk.injEq] at hdp
    obtain ⟨rfl, rfl⟩ := hdp
    simp only [k0, k1] at h0 h1
    have w0 : ∀ k ∈ DataW.weights Tryz.prog 24 y0.1, k ≤ reachBytes := fun k hk => hw k (by
      rw [DataW.weights, Tryz.underlying27]
      simp only [List.map_cons, DataW.weightsEach]
      exact List.mem_append_left _ hk)
    obtain ⟨A, xs, c, b, e1, e2, hp, hz⟩ := open_pat2 (c0 := c0) (c1 := c1) h0 w0
    have hlen : xs.length ≤ 140737488355328 := by
      obtain ⟨z0, z1, n', hz0, _, g0, g1⟩ := trod_struct2 Tryz.underlying24 h0
      have q0 : Tryz.prog.cellsOf 22 = 1 := by kernel_rfl
      simp only [q0] at g0
      refine open_strsL (v := c0) g0 (fun k hk => w0 k ?_) A xs.length c e1
      rw [hz0, DataW.weights, Tryz.underlying24]
      simp only [List.map_cons, DataW.weightsEach]
      exact List.mem_append_left _ hk
    obtain ⟨K, bl, e, e3, hr, hzb, hlb⟩ := open_pats (c2 := c2) h1 (fun k hk => hw k (by
      rw [DataW.weights, Tryz.underlying27]
      simp only [List.map_cons, DataW.weightsEach]
      exact List.mem_append_right _ (List.mem_append_left _ hk)))
    subst e1 e2 e3
    exact ⟨A, xs, c, b, K, bl, e, rfl, ⟨hp, hr, rfl⟩, hz, hzb, hlen, hlb⟩
end
end Go.Proofs.YtembmegllpkmfaaGreatDoor
