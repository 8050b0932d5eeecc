/- slices.DeleteFunc on an own slice of patterns, with the closure of region.simplified. -/
import Derived.Test.YtembmegllpkmfaaGreatDoorRegFnC
import Derived.Test.YtembmegllpkmfaaGreatDoorOwnPt
import Derived.Laws.IdiomCopy
import Derived.Lib.SliceRun
namespace Go.Proofs.YtembmegllpkmfaaGreatDoor
open Go.RowKit
set_option linter.unusedVariables false

theorem grown_of_below {w w' : World} {row : Option Nat} (h : Below w.heap.size w w') : w.grownBy w' row := ⟨h.os, h.tape, h.output, h.size, fun i hi _ => h.block i hi⟩
theorem below_of_grown {w w' : World} {g base : Nat} (h : w.grownBy w' (some g)) (hg : base ≤ g) (hb : base ≤ w.heap.size) : Below base w w' :=
  ⟨h.os, h.tape, h.output, h.size, fun k hk => h.block k (by omega) (fun e => by injection e with e; omega)⟩

theorem cellsP_set : ∀ (m : List BindV) (i : Nat) (x : BindV), i < m.length → cellsP (m.set i x) = ((cellsP m).set (i * 2) (.slice x.A x.xs.length x.c)).set (i * 2 + 1) (.bool x.b)
  | [], i, x, h => by simp at h
  | v :: l, 0, x, h => by simp [cellsP, oneP]
  | v :: l, i + 1, x, h => by
    have ih := cellsP_set l i x (by simpa using h)
    have e : ∀ (y : BindV) (r : List BindV), cellsP (y :: r) = .slice y.A y.xs.length y.c :: .bool y.b :: cellsP r := fun y r => rfl
    rw [List.set_cons_succ, e, ih, e, show (i + 1) * 2 = i * 2 + 1 + 1 by omega, List.set_cons_succ, List.set_cons_succ, List.set_cons_succ, List.set_cons_succ]
theorem cellsP_take : ∀ (m : List BindV) (i : Nat), (cellsP m).take (i * 2) = cellsP (m.take i)
  | [], i => by simp [cellsP]
  | v :: l, 0 => by simp [cellsP]
  | v :: l, i + 1 => by
    have e : ∀ (y : BindV) (r : List BindV), cellsP (y :: r) = .slice y.A y.xs.length y.c :: .bool y.b :: cellsP r := fun y r => rfl
    rw [List.take_succ_cons, e, e, show (i + 1) * 2 = i * 2 + 1 + 1 by omega, List.take_succ_cons, List.take_succ_cons, cellsP_take l i]
/-- Cells stored behind a place: what stands ahead of it stays. -/
theorem own_setCells {e : TypeId} {base size g cap n : Nat} : ∀ (vs : List Value) (j : Nat) (w : World) (xs : List Value), w.ownsRow base e size (.slice (some ⟨g, 0, none⟩) n cap) n xs →
    ∃ ys, (w.setCells g j vs).ownsRow base e size (.slice (some ⟨g, 0, none⟩) n cap) n ys ∧ ys.take j = xs.take j ∧ w.grownBy (w.setCells g j vs) (some g)
  | [], j, w, xs, h => ⟨xs, h, rfl, World.grownBy.refl _ _⟩
  | v :: r, j, w, xs, h => by
    obtain ⟨h1, h2⟩ := World.ownsRow.stored h j v
    obtain ⟨ys, q1, q2, q3⟩ := own_setCells r (j + 1) _ _ h1
    refine ⟨ys, q1, ?_, h2.trans q3⟩
    have q4 := congrArg (List.take j) q2
    rw [List.take_take, List.take_take, Nat.min_eq_left (Nat.le_succ j), List.take_set, List.set_eq_of_length_le (by rw [List.length_take]; exact Nat.min_le_left _ _)] at q4
    exact q4
theorem own_prefix {w : World} {e : TypeId} {base size g cap n i : Nat} {xs : List Value} (h : w.ownsRow base e size (.slice (some ⟨g, 0, none⟩) n cap) n xs) (hi : i ≤ n) :
    w.ownsRow base e size (.slice (some ⟨g, 0, none⟩) i cap) i (xs.take (i * size)) := by
  rcases h.2 with ⟨hv, _⟩ | ⟨g', cap', cur, hv, hbg, hgc, hnc, hcm, hcs, ht⟩
  · cases hv
  · injection hv with h1 h2 h3
    injection h1 with h1
    injection h1 with h1
    subst h1 h3
    have hm : i * size ≤ n * size := Nat.mul_le_mul_right _ hi
    refine ⟨by rw [List.length_take, h.1]; omega, .inr ⟨g, cap, cur, rfl, hbg, hgc, by omega, hcm, hcs, ?_⟩⟩
    rw [← ht, List.take_take, Nat.min_eq_left hm]
theorem run_clearP (w : World) (ty : TypeId) (b o n c : Nat) (hc : ∀ j, j < n * 2 → (w.cell? ⟨b, o + j, none⟩).isSome = true) (hf : ∀ j, j < n * 2 → w.frozen? ⟨b, o + j, none⟩ = false) :
    (Builtin.clear_ #[25] ty #[.slice (some ⟨b, o, none⟩) n c]).run Tryz.prog w = .ok (.tuple #[]) (w.setCells b o (Builtin.zeroCells #[.slice none 0 0, .bool false] n).toList) := by
  cases n with
  | zero => simp [Builtin.clear_, Builtin.zeroCells, World.setCells, run_underlying Tryz.underlying25]
  | succ m =>
    have hl : (Builtin.zeroCells #[.slice none 0 0, .bool false] (m + 1)).toList.length = (m + 1) * 2 := by simp [Builtin.zeroCells]
    have hst := run_storeCells_cells (P := Tryz.prog) b o (Builtin.zeroCells #[.slice none 0 0, .bool false] (m + 1)).toList 0 w (by rw [hl]; simpa using hc) (by rw [hl]; simpa using hf) (by
      intro v hv
      simp only [Builtin.zeroCells, Array.toList_map, List.mem_map] at hv
      obtain ⟨i, _, rfl⟩ := hv
      have hi : i % 2 = 0 ∨ i % 2 = 1 := by omega
      rcases hi with hi | hi <;> simp [hi, Value.oneCell'])
    simp only [Nat.add_zero] at hst
    have hz : (Value.agg #[.slice none 0 0, .bool false]).cells = #[.slice none 0 0, .bool false] := rfl
    simp [Builtin.clear_, run_underlying Tryz.underlying25, hz, hst]

/-- The row of the loop: 'kept' ahead, what was not looked at yet behind. -/
structure Del (P : BindV → Bool) (bl m : List BindV) (i j : Nat) : Prop where
  len : m.length = bl.length
  kept : m.take i = (bl.take j).filter (fun x => !P x)
  rest : m.drop j = bl.drop j
  mem : ∀ x ∈ m, x ∈ bl
  lt : i < j
theorem Del.start {P : BindV → Bool} {bl : List BindV} {i : Nat} (hi : i < bl.length) (hp : P bl[i] = true) (hn : ∀ k (h : k < bl.length), k < i → P bl[k] = false) : Del P bl bl i (i + 1) := by
  refine ⟨rfl, ?_, rfl, fun x hx => hx, Nat.lt_succ_self i⟩
  rw [List.take_succ_eq_append_getElem hi, List.filter_append]
  have h1 : (bl.take i).filter (fun x => !P x) = bl.take i := by
    rw [List.filter_eq_self]
    intro x hx
    obtain ⟨k, hk, rfl⟩ := List.getElem_of_mem hx
    have hk' : k < i := by rw [List.length_take] at hk; omega
    rw [List.getElem_take, hn k (by omega) hk']
    rfl
  rw [h1]
  simp [hp]
theorem Del.skip {P : BindV → Bool} {bl m : List BindV} {i j : Nat} (h : Del P bl m i j) (hj : j < bl.length) (hp : P bl[j] = true) : Del P bl m i (j + 1) := by
  refine ⟨h.len, ?_, ?_, h.mem, Nat.lt_succ_of_lt h.lt⟩
  · rw [List.take_succ_eq_append_getElem hj, List.filter_append, h.kept]
    simp [hp]
  · have := congrArg (List.drop 1) h.rest
    rwa [List.drop_drop, List.drop_drop] at this
theorem Del.at {P : BindV → Bool} {bl m : List BindV} {i j : Nat} (h : Del P bl m i j) (hj : j < bl.length) (hj' : j < m.length) : m[j] = bl[j] := by
  have h1 := congrArg (fun l => l[0]?) h.rest
  simp only [List.getElem?_drop, Nat.add_zero] at h1
  rw [List.getElem?_eq_getElem hj', List.getElem?_eq_getElem hj] at h1
  exact Option.some.inj h1
theorem Del.keep {P : BindV → Bool} {bl m : List BindV} {i j : Nat} (h : Del P bl m i j) (hj : j < bl.length) (hp : P bl[j] = false) : Del P bl (m.set i bl[j]) (i + 1) (j + 1) := by
  have hl := h.len
  have hij := h.lt
  refine ⟨by rw [List.length_set, hl], ?_, ?_, fun x hx => ?_, by omega⟩
  · rw [List.take_succ_eq_append_getElem hj, List.filter_append, ← h.kept, List.take_succ_eq_append_getElem (by rw [List.length_set]; omega), List.getElem_set_self, List.take_set, List.set_eq_of_length_le (by rw [List.length_take]; exact Nat.min_le_left _ _)]
    simp [hp]
  · rw [List.drop_set_of_lt (by omega)]
    have := congrArg (List.drop 1) h.rest
    rwa [List.drop_drop, List.drop_drop] at this
  · rcases List.mem_or_eq_of_mem_set hx with hx | hx
    · exact h.mem x hx
    · rw [hx]; exact List.getElem_mem _
theorem own_set {w : World} {base g cap : Nat} {m : List BindV} {i : Nat} {x : BindV} (h : OwnP w base (.slice (some ⟨g, 0, none⟩) m.length cap) m) (hi : i < m.length) (hx : x ∈ m) :
    OwnP ((w.setCell ⟨g, i * 2, none⟩ (.slice x.A x.xs.length x.c)).setCell ⟨g, i * 2 + 1, none⟩ (.bool x.b)) base (.slice (some ⟨g, 0, none⟩) m.length cap) (m.set i x) ∧
    w.grownBy ((w.setCell ⟨g, i * 2, none⟩ (.slice x.A x.xs.length x.c)).setCell ⟨g, i * 2 + 1, none⟩ (.bool x.b)) (some g) := by
  obtain ⟨h1, h2⟩ := World.ownsRow.stored h.row (i * 2) (.slice x.A x.xs.length x.c)
  obtain ⟨h3, h4⟩ := World.ownsRow.stored h1 (i * 2 + 1) (.bool x.b)
  have hg := h2.trans h4
  have hm : ∀ y ∈ m.set i x, y ∈ m := fun y hy => by
    rcases List.mem_or_eq_of_mem_set hy with hy | hy
    · exact hy
    · rw [hy]; exact hx
  refine ⟨⟨?_, fun y hy => (h.parts y (hm y hy)).grownA hg fun z hz a e => h.apart y (hm y hy) z hz a e, fun y hy z hz a e => ⟨(h.apart y (hm y hy) z hz a e).1, Nat.lt_of_lt_of_le (h.apart y (hm y hy) z hz a e).2 hg.size⟩⟩, hg⟩
  rw [List.length_set, cellsP_set _ _ _ hi]
  exact h3
theorem own_clear {w : World} {base g cap : Nat} {m : List BindV} {i : Nat} (vs : List Value) (h : OwnP w base (.slice (some ⟨g, 0, none⟩) m.length cap) m) (hi : i ≤ m.length) :
    OwnP (w.setCells g (i * 2) vs) base (.slice (some ⟨g, 0, none⟩) (m.take i).length cap) (m.take i) ∧ w.grownBy (w.setCells g (i * 2) vs) (some g) := by
  obtain ⟨ys, q1, q2, q3⟩ := own_setCells vs (i * 2) w _ h.row
  have q4 := own_prefix q1 hi
  rw [q2, cellsP_take] at q4
  have hl : (m.take i).length = i := by rw [List.length_take]; omega
  have hm : ∀ y ∈ m.take i, y ∈ m := fun y hy => List.mem_of_mem_take hy
  refine ⟨⟨by rw [hl]; exact q4, fun y hy => (h.parts y (hm y hy)).grownA q3 fun z hz a e => h.apart y (hm y hy) z hz a e, fun y hy z hz a e => ⟨(h.apart y (hm y hy) z hz a e).1, Nat.lt_of_lt_of_le (h.apart y (hm y hy) z hz a e).2 q3.size⟩⟩, q3⟩
/-- Cells and no freeze of an own row. -/
theorem OwnP.cell2 {w : World} {base g cap : Nat} {m : List BindV} (h : OwnP w base (.slice (some ⟨g, 0, none⟩) m.length cap) m) (k : Nat) (hk : k < m.length) :
    w.cell? ⟨g, k * 2, none⟩ = some (.slice m[k].A m[k].xs.length m[k].c) ∧ w.cell? ⟨g, k * 2 + 1, none⟩ = some (.bool m[k].b) := by
  have hcell : ∀ i, i < 2 → ∀ u, (oneP m[k])[i]? = some u → w.cell? ⟨g, k * 2 + i, none⟩ = some u := fun i hi u hu => by
    have hc := World.ownsRow.cells h.row (g := g) rfl (k * 2 + i) u (by rw [cellsP_get m k hk i hi]; exact hu)
    rw [add_plain, Nat.zero_add] at hc
    exact hc
  exact ⟨hcell 0 (by decide) _ rfl, hcell 1 (by decide) _ rfl⟩
theorem OwnP.warm {w : World} {base g cap : Nat} {m : List BindV} (h : OwnP w base (.slice (some ⟨g, 0, none⟩) m.length cap) m) (j : Nat) : w.frozen? ⟨g, j, none⟩ = false := World.ownsRow.frozenAt h.row j
theorem OwnP.isSome {w : World} {base g cap : Nat} {m : List BindV} (h : OwnP w base (.slice (some ⟨g, 0, none⟩) m.length cap) m) (j : Nat) (hj : j < m.length * 2) : (w.cell? ⟨g, j, none⟩).isSome = true := by
  rw [World.ownsRow.cellAt h.row j hj]
  rw [Option.isSome_iff_ne_none]
  intro e
  rw [List.getElem?_eq_none_iff, cellsP_length] at e
  omega
theorem OwnP.grown {w w' : World} {base g cap : Nat} {m : List BindV} (h : OwnP w base (.slice (some ⟨g, 0, none⟩) m.length cap) m) (hb : Below w.heap.size w w') : OwnP w' base (.slice (some ⟨g, 0, none⟩) m.length cap) m := h.below hb

set_option maxHeartbeats 2000000 in
/-- slices.IndexFunc with simplified's second closure: the first index. -/
theorem idxF_s2 (lb0 : Value) (P : Nat → Bool) (H : Option Addr) (bl : List BindV) (e : Nat) (w : World) (hr : RdB w H bl e)
    (hf : ∀ (k : Nat) (hk : k < bl.length) (w' : World), Below w.heap.size w w' → Calls Tryz.prog 67 #[patV bl[k].A bl[k].xs.length bl[k].c bl[k].b, lb0] w' (GivesBB w' (P k))) :
    Calls Tryz.prog 108 #[.slice H bl.length e, .func (.func 67) #[] #[lb0]] w fun en w' => (∃ r : Int, en = .returned (.int .i64 r) ∧ ((r = -1 ∧ ∀ k, k < bl.length → P k = false) ∨ ∃ k : Nat, r = (k : Int) ∧ k < bl.length ∧ P k = true ∧ ∀ j, j < k → P j = false)) ∧ Below w.heap.size w w' := by
  have HR := Lib.hid hr
  have HF := Lib.hid hf
  have hcm := hr.cm
  have hle := hr.le
  have hmi : (bl.length : Int) ≤ 9223372036854775807 := by unfold maxLen at hcm; omega
  clear hr hf hcm hle
  go_enter Tryz.func108, Tryz.ntmps108
  go_wp2
  go_loopg [8] bl.length (fun gg s8 wx => ∃ (k : Nat), k + gg = bl.length ∧ s8 = .int .i64 (k : Int) ∧ Below w.heap.size w wx ∧ Aside (∀ j, j < k → P j = false))
  case atStart => exact ⟨0, by omega, rfl, Below.refl _ _, fun j h => absurd h (Nat.not_lt_zero _)⟩
  case round =>
    obtain ⟨k, hk, rfl, hbw, HA⟩ := hrel
    have HBW := Lib.hid hbw
    by_cases hkn : k < bl.length
    · have i1 : (k : Int) < (bl.length : Int) := by omega
      obtain ⟨q, o, hA, hq, hcell⟩ := (HR.out.keep hbw).at (by omega)
      subst hA
      obtain ⟨e0, e1⟩ := hcell k hkn
      have HC := Lib.hid (HF.out k hkn wr hbw)
      clear hcell hbw
      cases hp : P k with
      | true =>
        rw [hp] at HC
        have HP := Lib.hid hp
        clear hp
        go_wp2_with fail
        with_reducible refine HC.out.mono ?_
        rintro e w1 ⟨rfl, hb1⟩
        have HB1 := Lib.hid hb1
        clear hb1
        go_wp2
        go_ret
        exact ⟨⟨(k : Int), rfl, .inr ⟨k, rfl, hkn, HP.out, HA.out⟩⟩, HBW.out.trans (HB1.out.mono HBW.out.size)⟩
      | false =>
        rw [hp] at HC
        have HP := Lib.hid hp
        clear hp
        go_wp2_with fail
        with_reducible refine HC.out.mono ?_
        rintro e w1 ⟨rfl, hb1⟩
        have HB1 := Lib.hid hb1
        clear hb1
        go_wp2
        go_roundg (bl.length - (k + 1))
        case measure => go_light; omega
        case rel =>
          go_light
          refine ⟨k + 1, by omega, by go_num, HBW.out.trans (HB1.out.mono HBW.out.size), (show Aside _ from fun j hj => ?_)⟩
          by_cases ej : j = k
          · rw [ej]; exact HP.out
          · exact HA.out j (by omega)
    · have i1 : ¬ (k : Int) < (bl.length : Int) := by omega
      clear hbw
      go_wp2
      go_ret
      refine ⟨⟨-1, rfl, .inl ⟨rfl, fun j hj => HA.out j (by omega)⟩⟩, HBW.out⟩
end Go.Proofs.YtembmegllpkmfaaGreatDoor
