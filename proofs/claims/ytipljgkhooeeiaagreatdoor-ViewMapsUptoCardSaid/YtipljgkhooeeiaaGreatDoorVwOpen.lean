/- An argument of lines (a slice of api.Rule, one api.Rule) opened to its cells, where what it reads is of small bulk. -/
import Derived.Test.YtipljgkhooeeiaaGreatDoorOwnVw
import Derived.Test.YtipljgkhooeeiaaGreatDoorVwFn2
import Derived.Test.YtipljgkhooeeiaaGreatDoorPatOpen
import Derived.Deep.Slices
import Derived.Deep.Fields
import Derived.ChangeSame
namespace Go.Proofs.YtipljgkhooeeiaaGreatDoor
open Go.ChangeShapes Go.WideShapes Go.ChangeAt Go.RowKit Go.Deep
open Go.ChangeMaps (open_string shut_string)

theorem bulk_one {H : Type} (d : DataW H) : 1 ≤ Rows.uptoBulk d := by
  cases d with
  | lit l => cases l <;> simp [Rows.uptoBulk]
  | nil => simp [Rows.uptoBulk]
  | ptr d => simp [Rows.uptoBulk]
  | slice elems spare => simp [Rows.uptoBulk]
  | agg parts => simp [Rows.uptoBulk]
  | iface t d => simp [Rows.uptoBulk]
  | map entries => simp [Rows.uptoBulk]
  | held h => simp [Rows.uptoBulk]
theorem bulk_part {H : Type} {d : DataW H} {l : List (DataW H)} (h : d ∈ l) : Rows.uptoBulk d ≤ Rows.uptoBulkAll l := by
  induction l with
  | nil => cases h
  | cons x r ih =>
    simp only [Rows.uptoBulkAll]
    cases List.mem_cons.1 h with
    | inl e => subst e; omega
    | inr e => have := ih e; omega
theorem bulk_length {H : Type} (l : List (DataW H)) : l.length ≤ Rows.uptoBulkAll l := by
  induction l with
  | nil => simp [Rows.uptoBulkAll]
  | cons x r ih => have := bulk_one x; simp only [Rows.uptoBulkAll, List.length_cons]; omega
theorem bulk_strs {H : Type} {s : ByteArray} {ss : List ByteArray} (h : s ∈ ss) : s.size + 1 ≤ Rows.uptoBulkAll (strs ss : List (DataW H)) := by
  have h1 : (DataW.lit (.string s.data.toList) : DataW H) ∈ (strs ss : List (DataW H)) := List.mem_map.2 ⟨s, h, rfl⟩
  have h2 := bulk_part h1
  simp only [Rows.uptoBulk] at h2
  rw [Lib.size_eq]
  exact h2
section
variable {H : Type} {enc : TypeId × Value → H} {W : World} {d : DataW H} {p : List MemPlace} {v : Value} {b0 : Nat}
theorem open_strsB {n N : Nat} {x : DataW H × List MemPlace} (h : DataW.trod enc Tryz.prog W 0 (fun _ => true) true n 22 [v] = some x) (hN : Rows.uptoBulk x.1 ≤ N) :
    ∃ (A : Option Addr) (xs : List ByteArray) (c : Nat), v = .slice A xs.length c ∧ xs.length ≤ c ∧ c ≤ maxLen ∧ (A = none → c = 0) ∧ RdS W W.heap.size A xs ∧ (∀ x ∈ xs, x.size ≤ maxLen) ∧ xs.length ≤ N ∧ ∀ x ∈ xs, x.size ≤ N := by
  rcases open_strings Tryz.underlying22 Tryz.underlying9 (by kernel_rfl) h with ⟨hcs, _⟩ | ⟨x, l, c, ss, hcs, _, hl, hm, hz, rfl, hcell, hws⟩
  · simp only [List.cons.injEq, and_true] at hcs
    subst hcs
    exact ⟨none, [], 0, rfl, by simp, by simp, fun _ => rfl, .inl rfl, by simp, by simp, by simp⟩
  · simp only [List.cons.injEq, and_true] at hcs
    subst hcs
    simp only [if_true] at hz
    have he : (ss.take l).length = l := by simp; omega
    simp only [Rows.uptoBulk] at hN
    refine ⟨some x, ss.take l, c, by rw [he], by omega, hm, by simp, strs_rd ⟨x, rfl, by omega, hcell⟩, fun s hs => hws s (List.mem_of_mem_take hs), ?_, fun s hs => ?_⟩
    · have h1 := bulk_length (strs (ss.take l) : List (DataW H))
      simp only [strs, List.length_map] at h1
      simp only [strs] at hN
      omega
    · have h1 := bulk_strs (H := H) hs
      omega
theorem open_pat2B {n N : Nat} {x : DataW H × List MemPlace} {c0 c1 : Value} (h : DataW.trod enc Tryz.prog W 0 (fun _ => true) true n 24 [c0, c1] = some x) (hN : Rows.uptoBulk x.1 ≤ N) :
    ∃ (A : Option Addr) (xs : List ByteArray) (c : Nat) (b : Bool), c0 = .slice A xs.length c ∧ c1 = .bool b ∧ PatR W A xs c b ⟨bs xs, b⟩ ∧ xs.length ≤ N ∧ ∀ x ∈ xs, x.size ≤ N := by
  obtain ⟨y0, y1, n', rfl, _, h0, h1⟩ := trod_struct2 Tryz.underlying24 h
  have k0 : Tryz.prog.cellsOf 22 = 1 := by kernel_rfl
  have k1 : Tryz.prog.cellsOf 4 = 1 := by kernel_rfl
  simp only [k0, k1] at h0 h1
  simp only [Rows.uptoBulk, Rows.uptoBulkAll] at hN
  obtain ⟨A, xs, c, rfl, hl, hm, hn, hr, hx, hz, hz2⟩ := open_strsB (v := c0) (N := N) h0 (by omega)
  obtain ⟨b, hb, _⟩ := DataW.trod_bool Tryz.underlying4 h1
  have hb' : [c1] = [Value.bool b] := hb
  simp only [List.cons.injEq, and_true] at hb'
  exact ⟨A, xs, c, b, rfl, hb', ⟨hr, rfl, rfl, hl, hm, hn, hx⟩, hz, hz2⟩
/-- A line out of its five cells. -/
theorem open_rul5B {n N : Nat} {x : DataW H × List MemPlace} {c0 c1 c2 c3 c4 : Value} (h : DataW.trod enc Tryz.prog W 0 (fun _ => true) true n 94 [c0, c1, c2, c3, c4] = some x) (hN : Rows.uptoBulk x.1 ≤ N) :
    ∃ y : RulV, c0 = .bool y.ex ∧ c1 = .slice y.A y.xs.length y.c ∧ c2 = .bool y.b ∧ c3 = .slice y.B y.ys.length y.d ∧ c4 = .bool y.f ∧ RulV.R W y ∧ y.xs.length ≤ N ∧ y.ys.length ≤ N ∧ (∀ z ∈ y.xs, z.size ≤ N) ∧ ∀ z ∈ y.ys, z.size ≤ N := by
  have k0 : Tryz.prog.cellsOf 24 = 2 := by kernel_rfl
  have k1 : Tryz.prog.cellsOf 4 = 1 := by kernel_rfl
  obtain ⟨y0, y1, y2, n', rfl, _, h0, h1, h2⟩ := trod_struct3 Tryz.underlying94 h
  simp only [k0, k1] at h0 h1 h2
  simp only [Rows.uptoBulk, Rows.uptoBulkAll] at hN
  obtain ⟨ex, hb, _⟩ := DataW.trod_bool Tryz.underlying4 h0
  have hb' : [c0] = [Value.bool ex] := hb
  simp only [List.cons.injEq, and_true] at hb'
  obtain ⟨A, xs, c, b, e1, e2, hp, hz, hz2⟩ := open_pat2B (c0 := c1) (c1 := c2) (N := N) h1 (by omega)
  obtain ⟨B, ys, e, f, e3, e4, hq, hy, hy2⟩ := open_pat2B (c0 := c3) (c1 := c4) (N := N) h2 (by omega)
  exact ⟨⟨ex, A, xs, c, b, B, ys, e, f⟩, hb', e1, e2, e3, e4, ⟨rfl, hp, hq⟩, hz, hy, hz2, hy2⟩
set_option maxRecDepth 1000000 in
theorem open_rulB {N : Nat} (hv : Value.okWide Tryz.prog W .any b0 94 v) (h : DataW.Trod enc Tryz.prog W 0 (fun _ => true) true 94 v d p) (hN : Rows.uptoBulk d ≤ N) :
    ∃ y : RulV, v = rulV y.ex y.A y.xs.length y.c y.b y.B y.ys.length y.d y.f ∧ RulV.R W y ∧ y.xs.length ≤ N ∧ y.ys.length ≤ N ∧ (∀ z ∈ y.xs, z.size ≤ N) ∧ ∀ z ∈ y.ys, z.size ≤ N := by
  have hC : Tryz.prog.cellsOf 94 = 5 := by kernel_rfl
  obtain ⟨cs, rfl, hsz⟩ := okWide_struct Tryz.underlying94 hv
  obtain ⟨l⟩ := cs
  match l, hsz.trans hC with
  | [c0, c1, c2, c3, c4], _ =>
    obtain ⟨fuel, hf⟩ := h
    obtain ⟨y, rfl, rfl, rfl, rfl, rfl, h1⟩ := open_rul5B (N := N) (show DataW.trod enc Tryz.prog W 0 (fun _ => true) true fuel 94 [c0, c1, c2, c3, c4] = some (d, p) from hf) hN
    exact ⟨y, rfl, h1⟩
set_option maxRecDepth 1000000 in
theorem open_rulesB {N : Nat} (hv : Value.okWide Tryz.prog W .any b0 54 v) (h : DataW.Trod enc Tryz.prog W 0 (fun _ => true) true 54 v d p) (hN : Rows.uptoBulk d ≤ N) :
    ∃ (A : Option Addr) (rl : List RulV) (c : Nat), v = .slice A rl.length c ∧ RdV W A rl c ∧ rl.length ≤ N ∧ (∀ x ∈ rl, x.xs.length ≤ N ∧ x.ys.length ≤ N) ∧ SzV N rl := by
  have hC : Tryz.prog.cellsOf 94 = 5 := by kernel_rfl
  obtain ⟨a0, len0, cap0, rfl⟩ := okWide_slice Tryz.underlying54 hv
  obtain ⟨fuel, hf⟩ := h
  have hf' : DataW.trod enc Tryz.prog W 0 (fun _ => true) true fuel 54 [.slice a0 len0 cap0] = some (d, p) := hf
  rcases open_slice Tryz.underlying54 hf' with ⟨hcs, _⟩ | ⟨a, len, cap, m, n, D, Pl, hcs, hb, hl, hm, hmm, hx, hi⟩
  · simp only [List.cons.injEq, and_true] at hcs
    rw [hcs]
    exact ⟨none, [], 0, rfl, ⟨.inl rfl, fun x hx => (by cases hx), by simp, by simp, fun _ => rfl⟩, by simp, fun x hx => (by cases hx), fun x hx => (by cases hx)⟩
  · simp only [List.cons.injEq, and_true] at hcs
    rw [hcs]
    have hlm : len ≤ m := by rw [hmm]; split <;> omega
    have hd : d = .slice ((List.range len).map D) ((List.range (m - len)).map fun j => D (len + j)) := congrArg Prod.fst hx
    rw [hd] at hN
    simp only [Rows.uptoBulk] at hN
    have hpart : ∀ i, i < len → Rows.uptoBulk (D i) ≤ N := fun i h => by
      have := bulk_part (d := D i) (l := (List.range len).map D) (List.mem_map.2 ⟨i, List.mem_range.2 h, rfl⟩)
      omega
    have hall : ∀ i : Nat, ∃ y : RulV, i < len → (W.cell? (a.add (i * 5)) = some (.bool y.ex) ∧ W.cell? (a.add (i * 5 + 1)) = some (.slice y.A y.xs.length y.c) ∧ W.cell? (a.add (i * 5 + 2)) = some (.bool y.b) ∧ W.cell? (a.add (i * 5 + 3)) = some (.slice y.B y.ys.length y.d) ∧ W.cell? (a.add (i * 5 + 4)) = some (.bool y.f)) ∧
        RulV.R W y ∧ y.xs.length ≤ N ∧ y.ys.length ≤ N ∧ (∀ z ∈ y.xs, z.size ≤ N) ∧ ∀ z ∈ y.ys, z.size ≤ N := fun i => by
      by_cases him : i < len
      · obtain ⟨cs', hc, ht'⟩ := hi i (by omega)
        rw [hC] at hc
        obtain ⟨_, hcl, hat⟩ := World.cells?_some hc
        match cs', hcl with
        | [c0, c1, c2, c3, c4], _ =>
          have g0 := hat 0 (by decide)
          have g1 := hat 1 (by decide)
          have g2 := hat 2 (by decide)
          have g3 := hat 3 (by decide)
          have g4 := hat 4 (by decide)
          rw [Go.Deep.add_add] at g0 g1 g2 g3 g4
          obtain ⟨y, e0, e1, e2, e3, e4, h1⟩ := open_rul5B (N := N) ht' (hpart i him)
          refine ⟨y, fun _ => ⟨⟨?_, ?_, ?_, ?_, ?_⟩, h1⟩⟩
          · rw [← e0]; exact g0
          · rw [← e1]; exact g1
          · rw [← e2]; exact g2
          · rw [← e3]; exact g3
          · rw [← e4]; exact g4
      · exact ⟨⟨false, none, [], 0, false, none, [], 0, false⟩, fun h => absurd h him⟩
    obtain ⟨f, hfn⟩ := Classical.skolem.1 hall
    have hin : ∀ x ∈ (List.range len).map f, ∃ i, i < len ∧ x = f i := fun x hx => by
      obtain ⟨i, h1, h2⟩ := List.mem_map.1 hx
      exact ⟨i, List.mem_range.1 h1, h2.symm⟩
    have hlenN : len ≤ N := by
      have := bulk_length ((List.range len).map D)
      simp only [List.length_map, List.length_range] at this
      omega
    refine ⟨some a, (List.range len).map f, cap, by simp, ⟨?_, fun x hx => ?_, by simpa using hl, hm, fun h => by cases h⟩, by simpa using hlenN, fun x hx => ?_, fun x hx => ?_⟩
    · by_cases h0 : len = 0
      · left; rw [h0]; rfl
      · obtain ⟨g, o, spot⟩ := a
        have hc0 := (hfn 0 (by omega)).1.1
        have hspot : spot = none := by simpa [Addr.add] using World.cell?_spot hc0
        subst hspot
        refine .inr ⟨g, o, rfl, World.block_lt_of_cell? W _ hc0, fun k hk => ?_⟩
        have hk' : k < len := by simpa using hk
        have h1 := (hfn k hk').1
        rw [add_plain, add_plain, add_plain, add_plain, add_plain] at h1
        have e : ((List.range len).map f)[k] = f k := by simp
        rw [e]
        exact h1
    · obtain ⟨i, h1, rfl⟩ := hin x hx
      exact (hfn i h1).2.1
    · obtain ⟨i, h1, rfl⟩ := hin x hx
      exact ⟨(hfn i h1).2.2.1, (hfn i h1).2.2.2.1⟩
    · obtain ⟨i, h1, rfl⟩ := hin x hx
      exact ⟨(hfn i h1).2.2.2.2.1, (hfn i h1).2.2.2.2.2⟩
end
end Go.Proofs.YtipljgkhooeeiaaGreatDoor
