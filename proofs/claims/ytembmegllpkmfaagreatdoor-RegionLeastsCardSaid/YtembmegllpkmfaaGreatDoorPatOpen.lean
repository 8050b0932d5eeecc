/- What the frames of layer 3's cards share: the wrap with the sizes; a pattern, a slice of strings, out of an argument's reading. -/
import Derived.Test.YtembmegllpkmfaaGreatDoorPathAll
import Derived.Test.YtembmegllpkmfaaGreatDoorPathOwnAll
import Derived.Test.YtembmegllpkmfaaGreatDoorPatFnA
import Derived.Lib.SmallJoins
import Derived.SliceStrings
import Derived.SizedLaws
import Derived.ChangeOld
namespace Go.Proofs.YtembmegllpkmfaaGreatDoor
open Go.RowKit Go.ChangeShapes Go.WideShapes Go.Joins

set_option maxRecDepth 1000000 in
theorem sizedWrap {H : Type} {enc : TypeId × Value → H} {os : Os} {f : FuncId} {fn : Func} {s : ChangeSpec} {laid : List (String × DataW Unit)}
    (own : ownKnob Tryz.checked.prog.godebug = none) (started : os.Started) (noInit : Tryz.checked.prog.inits.idxOf? f = none) (hfn : Tryz.checked.prog.funcs[f]? = some fn)
    (witness : ∃ (w : World) (tape : Tape) (i : Input), w.os = os ∧ (w.forCall tape i).Shaped Tryz.checked.prog ∧ i.vars = [] ∧ Input.okWide Tryz.checked.prog (w.forCall tape i) .any w.heap.size f i ∧
      ((s.pre enc Tryz.checked.prog fn [] false (w.forCall tape i).memory i.args ∧ laidMetH Tryz.checked.prog laid (w.forCall tape i).memory) ∧ sizedMet enc Tryz.checked.prog fn (OpenSpec.ofChange s) false (w.forCall tape i).memory i.args) ∧
      ({} : Assume).holds Tryz.checked.prog (lone (Frame.enter Tryz.checked.prog f i.args .normal) [] (w.forCall tape i)))
    (walk : ∀ (W : World) (base : Nat) (args : Array Value) (ds gs : List (DataW H)) (before : List MemPlace),
      (∀ (j : Nat) t v, fn.params[j]? = some t → args[j]? = some v → Value.okWide Tryz.checked.prog W .any base t v) →
      DataW.Whole enc Tryz.checked.prog fn.params.toList s.vars false W args.toList ds gs before → W.ShapedOpen Tryz.checked.prog →
      (DataW.weightsEach Tryz.checked.prog (fn.params.toList ++ s.plain.varTypes Tryz.checked.prog) (ds ++ gs)).all (· ≤ reachBytes) = true →
      Calls Tryz.checked.prog f args W fun e W' => ∃ v, e = .returned v ∧ s.post enc Tryz.checked.prog fn false true false false W args v W') :
    ReturnsInHanded {} Tryz.checked os f .any (fun w args => (s.pre enc Tryz.checked.prog fn [] false w args ∧ laidMetH Tryz.checked.prog laid w) ∧ sizedMet enc Tryz.checked.prog fn (OpenSpec.ofChange s) false w args) (s.post enc Tryz.checked.prog fn false true false false) := by
  refine returnsInHanded_of_calls own started noInit witness ?_
  intro w tape i _ hsh _ hok hpre _
  obtain ⟨_, _, _, g, hg, _, _, _, _, hval⟩ := hok
  obtain rfl : g = fn := Option.some.inj (hg.symm.trans hfn)
  obtain ⟨_, _, ds, gs, before, hw, hz⟩ := hpre
  refine (walk (w.forCall tape i) w.heap.size i.args ds gs before hval (DataW.Whole.of_heap (w' := w.forCall tape i) (by rfl) hw) hsh hz).mono fun e W' ⟨v, he, hp⟩ => ?_
  subst he
  exact ChangeSpec.post_blind hp

theorem laidOutW : laidOutB Tryz.prog = true := by kernel_rfl
theorem strs_rd {w : World} {a : Option Addr} {len : Nat} {ss : List ByteArray} (h : ∃ x : Addr, a = some x ∧ len ≤ ss.length ∧ ∀ i, i < ss.length → w.cell? (x.add i) = some (.string (ss.getD i ByteArray.empty))) :
    RdS w w.heap.size a (ss.take len) := by
  obtain ⟨x, rfl, hl, hc⟩ := h
  by_cases h0 : len = 0
  · left; rw [h0]; simp
  · obtain ⟨g, o, spot⟩ := x
    have hc0 := hc 0 (by omega)
    have hspot : spot = none := by simpa [Addr.add] using World.cell?_spot hc0
    subst hspot
    refine .inr ⟨g, o, rfl, World.block_lt_of_cell? w _ hc0, fun j hj => ?_⟩
    simp only [List.length_take] at hj
    have hj1 := hc j (by omega)
    rw [add_plain] at hj1
    rw [hj1, List.getElem_take]
    simp [List.getD, List.getElem?_eq_getElem (show j < ss.length by omega)]
theorem strs_weight {H : Type} {P : Program} {e : TypeId} {s : ByteArray} : ∀ {ss : List ByteArray}, s ∈ ss → s.size ∈ DataW.weightsAll P e (strs ss : List (DataW H))
  | [], h => by cases h
  | x :: r, h => by
    rcases List.mem_cons.1 h with rfl | h
    · rw [Lib.size_eq]
      simp [strs, DataW.weightsAll, DataW.weights]
    · have := strs_weight (H := H) (P := P) (e := e) h
      simp only [strs, List.map_cons, DataW.weightsAll, List.mem_append] at this ⊢
      exact .inr this
section
variable {H : Type} {enc : TypeId × Value → H} {W : World} {d : DataW H} {p : List MemPlace} {v : Value} {b0 : Nat}
/-- A slice of strings out of its cell's reading. -/
theorem open_strs {n : Nat} {x : DataW H × List MemPlace} (h : DataW.trod enc Tryz.prog W 0 (fun _ => true) true n 22 [v] = some x) (hw : ∀ k ∈ DataW.weights Tryz.prog 22 x.1, k ≤ reachBytes) :
    ∃ (A : Option Addr) (xs : List ByteArray) (c : Nat), v = .slice A xs.length c ∧ xs.length ≤ c ∧ c ≤ maxLen ∧ (A = none → c = 0) ∧ RdS W W.heap.size A xs ∧ (∀ x ∈ xs, x.size ≤ maxLen) ∧ ∀ x ∈ xs, x.size ≤ 140737488355000 := by
  rcases open_strings Tryz.underlying22 Tryz.underlying9 (by kernel_rfl) h with ⟨hcs, _⟩ | ⟨x, l, c, ss, hcs, _, hl, hm, hz, rfl, hcell, hws⟩
  · simp only [List.cons.injEq, and_true] at hcs
    subst hcs
    exact ⟨none, [], 0, rfl, by simp, by simp, fun _ => rfl, .inl rfl, by simp, by simp⟩
  · simp only [List.cons.injEq, and_true] at hcs
    subst hcs
    simp only [if_true] at hz
    have he : (ss.take l).length = l := by simp; omega
    refine ⟨some x, ss.take l, c, by rw [he], by omega, hm, by simp, strs_rd ⟨x, rfl, by omega, hcell⟩, fun s hs => hws s (List.mem_of_mem_take hs), fun s hs => ?_⟩
    have h1 := strs_weight (H := H) (P := Tryz.prog) (e := 9) hs
    have h2 := hw s.size (by
      rw [DataW.weights, Tryz.underlying22]
      exact List.mem_cons_of_mem _ (List.mem_append_left _ h1))
    unfold reachBytes at h2
    omega
set_option maxRecDepth 1000000 in
theorem open_pat (hv : Value.okWide Tryz.prog W .any b0 24 v) (h : DataW.Trod enc Tryz.prog W 0 (fun _ => true) true 24 v d p) (hw : ∀ k ∈ DataW.weights Tryz.prog 24 d, k ≤ reachBytes) :
    ∃ (A : Option Addr) (xs : List ByteArray) (c : Nat) (b : Bool), v = patV A xs.length c b ∧ PatR W A xs c b ⟨bs xs, b⟩ ∧ ∀ x ∈ xs, x.size ≤ 140737488355000 := by
  obtain ⟨v0, v1, y0, y1, n, rfl, rfl, _, h0, h1⟩ := open_agg2 Tryz.underlying24 (by kernel_rfl) (by kernel_rfl) hv h
  obtain ⟨A, xs, c, rfl, hl, hm, hn, hr, hx, hz⟩ := open_strs h0 (fun k hk => hw k (by
    rw [DataW.weights, Tryz.underlying24]
    simp only [List.map_cons, DataW.weightsEach]
    exact List.mem_append_left _ hk))
  obtain ⟨b, hb, _⟩ := DataW.trod_bool Tryz.underlying4 h1
  simp only [List.cons.injEq, and_true] at hb
  subst hb
  exact ⟨A, xs, c, b, rfl, ⟨hr, rfl, rfl, hl, hm, hn, hx⟩, hz⟩
set_option maxRecDepth 1000000 in
theorem open_list (hv : Value.okWide Tryz.prog W .any b0 22 v) (h : DataW.Trod enc Tryz.prog W 0 (fun _ => true) true 22 v d p) (hw : ∀ k ∈ DataW.weights Tryz.prog 22 d, k ≤ reachBytes) :
    ∃ (A : Option Addr) (xs : List ByteArray) (c : Nat), v = .slice A xs.length c ∧ xs.length ≤ c ∧ c ≤ maxLen ∧ (A = none → c = 0) ∧ RdS W W.heap.size A xs ∧ (∀ x ∈ xs, x.size ≤ maxLen) ∧ ∀ x ∈ xs, x.size ≤ 140737488355000 := by
  obtain ⟨a0, len0, cap0, rfl⟩ := okWide_slice Tryz.underlying22 hv
  obtain ⟨fuel, hf⟩ := h
  exact open_strs (n := fuel) (by simpa [Value.cells] using hf) hw
end
/-- The weights of an argument. -/
theorem weighed {H : Type} {P : Program} {ts : List TypeId} {ds : List (DataW H)} (h : (DataW.weightsEach P ts ds).all (· ≤ reachBytes) = true) {j : Nat} {t : TypeId} {d : DataW H} (ht : ts[j]? = some t) (hd : ds[j]? = some d) :
    ∀ k ∈ DataW.weights P t d, k ≤ reachBytes := fun k hk => of_decide_eq_true (List.all_eq_true.1 h _ (DataW.weights_mem_each ht hd k hk))
end Go.Proofs.YtembmegllpkmfaaGreatDoor
