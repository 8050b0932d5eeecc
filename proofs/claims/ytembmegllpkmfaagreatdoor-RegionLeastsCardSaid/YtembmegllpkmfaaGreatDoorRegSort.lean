/- slices.SortFunc of patterns by their texts: a sorted permutation, in place. -/
import Derived.Test.YtembmegllpkmfaaGreatDoorMono
import Derived.Test.YtembmegllpkmfaaGreatDoorSort
import Derived.Test.YtembmegllpkmfaaGreatDoorOwnPt
import Derived.Test.YtembmegllpkmfaaGreatDoorRegFnC
namespace Go.Proofs.YtembmegllpkmfaaGreatDoor
open Go.RowKit

theorem below_grow {W w' : World} (h : Below W.heap.size W w') (hd : W.drawn ≤ w'.drawn) : ∃ q os', w' = Go.Sort.grow (W.drewN q) os' := by
  refine ⟨w'.drawn - W.drawn, w'.heap.extract W.heap.size w'.heap.size, ?_⟩
  have hh : w'.heap = W.heap ++ w'.heap.extract W.heap.size w'.heap.size := by
    apply Array.ext_getElem?
    intro i
    rw [Array.getElem?_append]
    by_cases hi : i < W.heap.size
    · rw [if_pos hi]
      exact h.block i hi
    · rw [if_neg hi, Array.getElem?_extract]
      have hs := h.size
      by_cases h2 : i < w'.heap.size
      · rw [if_pos (by omega)]
        congr 1
        omega
      · rw [if_neg (by omega), Array.getElem?_eq_none (by omega)]
  obtain ⟨heap, tape, drawn, os, output⟩ := w'
  unfold Go.Sort.grow World.drewN
  simp only [World.mk.injEq]
  exact ⟨hh, h.tape, by simp only at hd ⊢; omega, h.os, h.output⟩
theorem take_put (F cur : Array Value) (h : F.size ≤ cur.size) : (Sort.putCells id 0 F cur).toList.take F.size = F.toList := by
  apply List.ext_getElem
  · simp [Sort.putCells]; omega
  · intro i h1 h2
    have h3 : i < F.size := by simpa using h2
    simp [Sort.putCells, h3]
section
variable {G : BindV → Prop}
abbrev encG (x : {x : BindV // G x}) : List Value := oneP x.1
theorem flat_cells [Inhabited {x : BindV // G x}] (dk : Array {x : BindV // G x}) : (Sort.flatK (encG (G := G)) 2 dk).toList = cellsP (dk.toList.map Subtype.val) := by
  apply List.ext_getElem?
  intro t
  by_cases ht : t < dk.size * 2
  · have hk : t / 2 < dk.size := by omega
    have hk' : t / 2 < (dk.toList.map Subtype.val).length := by simpa using hk
    have hc := cellsP_get (dk.toList.map Subtype.val) (t / 2) hk' (t % 2) (by omega)
    rw [show t / 2 * 2 + t % 2 = t by omega] at hc
    rw [hc, List.getElem_map, Array.getElem_toList]
    have hf := Sort.get_flatK (encG (G := G)) 2 dk t ht
    have hs : t < (Sort.flatK (encG (G := G)) 2 dk).size := by simpa using ht
    rw [getElem!_pos (Sort.flatK (encG (G := G)) 2 dk) t hs, getElem!_pos dk (t / 2) hk] at hf
    rw [Array.getElem?_toList, Array.getElem?_eq_getElem hs, hf]
    have hlen : (oneP dk[t / 2].1).length = 2 := rfl
    have h2 : t % 2 < (oneP dk[t / 2].1).length := by omega
    rw [List.getElem?_eq_getElem h2]
    simp only [encG]
    rw [getElem!_pos (oneP dk[t / 2].1) (t % 2) h2]
  · rw [List.getElem?_eq_none (by simp; omega), List.getElem?_eq_none (by rw [cellsP_length]; simp; omega)]
/-- The worlds that the sort passes through. -/
theorem sort_grown [Inhabited {x : BindV // G x}] (w : World) (g m : Nat) (dk : Array {x : BindV // G x}) (os : Array Obj) : w.grownBy (sortWorldK (encG (G := G)) 2 w g 0 m dk os) (some g) := by
  refine ⟨rfl, rfl, rfl, ?_, fun k hk hne => ?_⟩
  · unfold sortWorldK Go.Sort.grow
    simp [Sort.putRowK]
  · have hkg : g ≠ k := fun e => hne (by rw [e])
    unfold sortWorldK Go.Sort.grow
    rw [Array.getElem?_append_left (by simpa [Sort.putRowK] using hk)]
    simp only [Sort.putRowK, Sort.putRow, Sort.mapBlock, Sort.heap_ahead]
    rw [Array.getElem?_modify, if_neg hkg]
theorem sort_block [Inhabited {x : BindV // G x}] {w : World} {g m : Nat} {dk : Array {x : BindV // G x}} {os : Array Obj} {cur : Array Value} {e : TypeId} (h : w.heap[g]? = some (.cells cur e (0, 0))) :
    (sortWorldK (encG (G := G)) 2 w g 0 m dk os).heap[g]? = some (.cells (Sort.putCells id 0 (Sort.flatK (encG (G := G)) 2 dk) cur) e (0, 0)) := by
  have hg : g < w.heap.size := (Array.getElem?_eq_some_iff.1 h).1
  unfold sortWorldK Go.Sort.grow
  rw [Array.getElem?_append_left (by simpa [Sort.putRowK] using hg)]
  simp only [Sort.putRowK, Sort.putRow, Sort.mapBlock, Sort.heap_ahead]
  rw [Array.getElem?_modify, if_pos rfl, h]
  rfl
theorem sort_own [Inhabited {x : BindV // G x}] {w : World} {base g cap m : Nat} {bl : List BindV} {dk : Array {x : BindV // G x}} {os : Array Obj} (hown : OwnP w base (.slice (some ⟨g, 0, none⟩) bl.length cap) bl) (hn : dk.size = bl.length)
    (hp : ∀ x : {x : BindV // G x}, PatR w x.1.A x.1.xs x.1.c x.1.b x.1.pat) (ha : ∀ x : {x : BindV // G x}, ∀ y ∈ adr x.1.A x.1.xs, ∀ a, y = some a → (some g : Option Nat) ≠ some a.block ∧ a.block < w.heap.size) :
    OwnP (sortWorldK (encG (G := G)) 2 w g 0 m dk os) base (.slice (some ⟨g, 0, none⟩) bl.length cap) (dk.toList.map Subtype.val) := by
  have hg := sort_grown (G := G) w g m dk os
  refine ⟨?_, fun x hx => ?_, fun x hx y hy a e => ?_⟩
  · rcases hown.row.2 with ⟨hv, _⟩ | ⟨g', cap', cur, hv, hbg, hgc, hnc, hcm, hcs, _⟩
    · cases hv
    · injection hv with h1 h2 h3
      injection h1 with h1
      injection h1 with h1
      subst h1 h3
      have hF : (Sort.flatK (encG (G := G)) 2 dk).size = bl.length * 2 := by simp [hn]
      refine ⟨by rw [cellsP_length], .inr ⟨g, cap, _, by simp [hn], hbg, sort_block hgc, by simpa [hn] using hnc, hcm, by simp [Sort.putCells, hcs], ?_⟩⟩
      have ht := take_put (Sort.flatK (encG (G := G)) 2 dk) cur (by rw [hF, hcs]; exact Nat.mul_le_mul_right _ hnc)
      rw [hF] at ht
      rw [show (dk.toList.map Subtype.val).length = bl.length by simp [hn], ht, flat_cells]
  · obtain ⟨y, _, rfl⟩ := List.mem_map.1 hx
    exact (hp y).grownA hg (ha y)
  · obtain ⟨z, _, rfl⟩ := List.mem_map.1 hx
    have h1 := ha z y hy a e
    exact ⟨h1.1, Nat.lt_of_lt_of_le h1.2 hg.size⟩
end
/-- A short text. -/
def shortP (p : Pt.Pat) : Prop := (Lib.join p.parts [47]).length ≤ 100000000
set_option maxHeartbeats 4000000 in
/-- The comparison. -/
theorem s3_any (A B : Option Addr) (xs ys : List ByteArray) (c d : Nat) (b f : Bool) (p q : Pt.Pat) (w : World) (hp : PatR w A xs c b p) (hq : PatR w B ys d f q) (kp : Pt.check p = 0) (kq : Pt.check q = 0) (lp : shortP p) (lq : shortP q) :
    Calls Tryz.prog 69 #[patV A xs.length c b, patV B ys.length d f] w fun e w' => e = .returned (.int .i64 (Lib.compareBytes (Pt.text p) (Pt.text q))) ∧ Below w.heap.size w w' := by
  have hxl : xs.length ≤ 140737488355328 := by have := (Pt.check_ok.1 kp).2; rw [hp.len] at this; omega
  have hyl : ys.length ≤ 140737488355328 := by have := (Pt.check_ok.1 kq).2; rw [hq.len] at this; omega
  obtain ⟨W0, hW0⟩ : ∃ W0, W0 = (w.alloc (.cells #[.slice A xs.length c, .bool b] 24)).alloc (.cells #[.slice B ys.length d, .bool f] 24) := ⟨_, rfl⟩
  have hal : Below w.heap.size w W0 := by rw [hW0]; exact ((Below.refl _ _).alloc (Nat.le_refl _) _).alloc (by simp) _
  have HAL := Lib.hid hal
  have hcl := fun (w' : World) (hb : Below W0.heap.size W0 w') => box2_cells (w := w) (w' := w') (v0 := .slice A xs.length c) (v1 := .bool b) (u0 := .slice B ys.length d) (u1 := .bool f) (t := 24) (by rw [← hW0]; exact hb)
  have HCL := Lib.hid hcl
  have HTP := Lib.hid (fun (w' : World) (hb : Below W0.heap.size W0 w') => gtext_any A xs c b p w' ((hp.keep hal).keep hb) kp (by unfold shortP at lp; omega) hxl)
  have HTQ := Lib.hid (fun (w' : World) (hb : Below W0.heap.size W0 w') => gtext_any B ys d f q w' ((hq.keep hal).keep hb) kq (by unfold shortP at lq; omega) hyl)
  unfold GivesS at HTP HTQ
  obtain ⟨c0, c1, c2, c3⟩ := hcl W0 (Below.refl _ _)
  obtain ⟨z, hz⟩ : ∃ z, z = Lib.compareBytes (Pt.text p) (Pt.text q) := ⟨_, rfl⟩
  obtain ⟨S, hS⟩ : ∃ S : ByteArray, S = ⟨(Pt.text p).toArray⟩ := ⟨_, rfl⟩
  obtain ⟨T, hT⟩ : ∃ T : ByteArray, T = ⟨(Pt.text q).toArray⟩ := ⟨_, rfl⟩
  rw [← hz]
  rw [← hS] at HTP
  rw [← hT] at HTQ
  have HCM := Lib.hid (show Lib.compareBytes S.data.toList T.data.toList = z by rw [hS, hT, hz])
  generalize xs.length = n at *
  generalize ys.length = m at *
  clear hp hq kp kq lp lq hal hcl hS hT hz hxl hyl
  go_enter Tryz.func69, Tryz.ntmps69
  go_upto_region 1 with fail
  generalize hwg : (w.alloc (.cells #[.slice A n c, .bool b] 24)).alloc (.cells #[.slice B m d, .bool f] 24) = W
  have hWW : W = W0 := by rw [← hwg, hW0]
  subst hWW
  clear hwg hW0
  set_option maxRecDepth 100000 in
  go_region_held3 (fun w' => w'.cell? ⟨w.heap.size, 0, none⟩ = some (.slice A n c) ∧ w'.cell? ⟨w.heap.size, 1, none⟩ = some (.bool b) ∧ w'.cell? ⟨w.heap.size + 1, 0, none⟩ = some (.slice B m d) ∧ w'.cell? ⟨w.heap.size + 1, 1, none⟩ = some (.bool f))
    (first | exact HCL.out _ b6 | exact HCL.out _ b5 | exact HCL.out _ (below_drew (Below.refl _ _)) | exact HCL.out _ (Below.refl _ _) | go_keep)
    (first
      | (go_at_call 70; refine (Tryz.strings_Compare _ _ _).mono ?_; rintro e w7 ⟨rfl, rfl⟩)
      | (go_at_call 71; have hcc := HTQ.out _ b5; with_reducible refine hcc.mono ?_; intro e w6 hh; obtain ⟨rfl, hb6⟩ := hh
         have b6 : Below W.heap.size W w6 := b5.trans (hb6.mono b5.size))
      | (go_at_call 71; have hcc := HTP.out _ (below_drew (Below.refl _ _)); with_reducible refine hcc.mono ?_; intro e w5 hh; obtain ⟨rfl, hb5⟩ := hh
         have b5 : Below W.heap.size W w5 := (below_drew (Below.refl _ _)).trans hb5))
  rw [HCM.out]
  go_wp2
  go_ret
  exact ⟨rfl, HAL.out.trans (b6.mono HAL.out.size)⟩
theorem sort_swo {α : Type} (t : α → List UInt8) : Sort.SWO (ltOf fun x y : α => Lib.compareBytes (t x) (t y)) where
  irrefl x := by
    show decide (Lib.compareBytes (t x) (t x) < 0) = false
    rw [Pm.compareBytes_self]
    rfl
  trans x y z h1 h2 := by
    unfold ltOf at *
    exact decide_eq_true (Pt.Rg.cb_trans (of_decide_eq_true h1) (of_decide_eq_true h2))
  ntrans x y z h1 h2 := by
    unfold ltOf at *
    have h3 : ¬ Lib.compareBytes (t x) (t y) < 0 := of_decide_eq_false h1
    have h4 : ¬ Lib.compareBytes (t y) (t z) < 0 := of_decide_eq_false h2
    have e1 := Pt.Rg.cb_neg (t x) (t y)
    have e2 := Pt.Rg.cb_neg (t y) (t z)
    have e3 := Pt.Rg.cb_neg (t x) (t z)
    have h5 := Pt.Rg.cb_le_trans (a := t z) (b := t y) (c := t x) (by omega) (by omega)
    exact decide_eq_false (show ¬ Lib.compareBytes (t x) (t z) < 0 by omega)
set_option maxHeartbeats 4000000 in
/-- The sort of a slice of the call's own that isn't empty. -/
theorem sort_some (base g cap : Nat) (bl : List BindV) (w : World) (hown : OwnP w base (.slice (some ⟨g, 0, none⟩) bl.length cap) bl) (hk : ∀ x ∈ bl, Pt.check x.pat = 0) (hl : ∀ x ∈ bl, shortP x.pat) (hn : bl.length ≤ 1000000) (h0 : bl ≠ []) :
    Calls Tryz.prog 68 #[.slice (some ⟨g, 0, none⟩) bl.length cap, .func (.func 69) #[] #[]] w fun e w' => e = .returned (.tuple #[]) ∧ ∃ bl' : List BindV, bl'.Perm bl ∧ (bl'.map BindV.pat).Pairwise (fun a b => Lib.compareBytes (Pt.text a) (Pt.text b) ≤ 0) ∧
      OwnP w' base (.slice (some ⟨g, 0, none⟩) bl.length cap) bl' ∧ Below base w w' := by
  obtain ⟨x0, r, hx0⟩ : ∃ x0 r, bl = x0 :: r := by cases bl with | nil => exact absurd rfl h0 | cons a t => exact ⟨a, t, rfl⟩
  let G : BindV → Prop := fun x => x ∈ bl
  haveI : Inhabited {x : BindV // G x} := ⟨⟨x0, show x0 ∈ bl by rw [hx0]; exact List.mem_cons_self⟩⟩
  obtain ⟨d, hd⟩ : ∃ d : Array {x : BindV // G x}, d = (bl.attach.map fun x => (⟨x.1, x.2⟩ : {x : BindV // G x})).toArray := ⟨_, rfl⟩
  have hds : d.size = bl.length := by rw [hd]; simp
  have hdl : d.toList.map Subtype.val = bl := by rw [hd]; simp
  have hp : ∀ x : {x : BindV // G x}, PatR w x.1.A x.1.xs x.1.c x.1.b x.1.pat := fun x => hown.parts x.1 x.2
  have ha : ∀ x : {x : BindV // G x}, ∀ y ∈ adr x.1.A x.1.xs, ∀ a, y = some a → (some g : Option Nat) ≠ some a.block ∧ a.block < w.heap.size := fun x y hy a e => hown.apart x.1 x.2 y hy a e
  have hblk : g < w.heap.size := (hown.lt g rfl).2
  have hH : Sort.HoldsK (encG (G := G)) 2 w g 0 d := by
    intro j hj
    have hj2 : j < bl.length * 2 := by simpa [hds] using hj
    have hF : (Sort.flatK (encG (G := G)) 2 d).toList = cellsP bl := by rw [flat_cells, hdl]
    have hc := World.ownsRow.cellAt hown.row j hj2
    have hf := World.ownsRow.frozenAt hown.row j
    rw [Nat.zero_add]
    refine ⟨?_, hf⟩
    rw [hc, ← hF, Array.getElem?_toList, getElem!_pos (Sort.flatK (encG (G := G)) 2 d) j hj, Array.getElem?_eq_getElem hj]
    rfl
  have eg : ∀ args w, (callFunc 69 args).run Tryz.prog w = .ok (.enter 69 args) w := enters_of Tryz.func69 (by kernel_rfl) rfl
  have hcmp : CmpLays Tryz.prog 69 #[] (encG (G := G)) 2 (fun x y => Lib.compareBytes (Pt.text x.1.pat) (Pt.text y.1.pat)) g 0 d.size w := by
    intro m os dk hs x y
    have hg := sort_grown (G := G) w g m dk os
    have hpx := (hp x).grownA hg (ha x)
    have hpy := (hp y).grownA hg (ha y)
    have h := calls_drawn (s3_any x.1.A y.1.A x.1.xs y.1.xs x.1.c y.1.c x.1.b y.1.b x.1.pat y.1.pat _ hpx hpy (hk _ x.2) (hk _ y.2) (hl _ x.2) (hl _ y.2))
    refine h.mono ?_
    rintro e w' ⟨⟨rfl, hb⟩, hdr⟩
    exact ⟨rfl, below_grow hb (hdr _ rfl)⟩
  have hcon := AnyQ.slices_SortFunc Tryz.laysSort 2 Tryz.isAgg24 Tryz.sizeOf24 (encG (G := G)) (fun _ => rfl) (fun x v hv => by
    simp only [encG, oneP, List.mem_cons, List.not_mem_nil, or_false] at hv
    rcases hv with rfl | rfl <;> rfl) (fun x y => Lib.compareBytes (Pt.text x.1.pat) (Pt.text y.1.pat)) (sort_swo fun x : {x : BindV // G x} => Pt.text x.1.pat) 69 #[] g 0 cap d w eg hcmp hH hblk (by rw [hds]; omega)
  rw [hds] at hcon
  change Calls Tryz.prog 68 _ _ _ at hcon
  refine hcon.mono ?_
  rintro e w' ⟨rfl, d', n, os, hperm, hsort, rfl⟩
  obtain ⟨q1, q2, q3⟩ := hperm
  have hd's : d'.size = bl.length := by rw [q1, hds]
  refine ⟨rfl, d'.toList.map Subtype.val, ?_, ?_, sort_own hown hd's hp ha, ?_⟩
  · have e1 : d'.extract 0 bl.length = d' := by rw [← hd's]; exact Array.extract_size
    have e2 : d.extract 0 bl.length = d := by rw [← hds]; exact Array.extract_size
    rw [e1, e2] at q3
    have := q3.map Subtype.val
    rwa [hdl] at this
  · rw [List.map_map, List.pairwise_map, List.pairwise_iff_getElem]
    intro i j hi hj hij
    have hi' : i < d'.size := by simpa using hi
    have hj' : j < d'.size := by simpa using hj
    have h := hsort i j (Nat.zero_le _) hij (by rw [← hd's]; exact hj')
    rw [getElem!_pos d' i hi', getElem!_pos d' j hj'] at h
    unfold ltOf at h
    have h2 : ¬ Lib.compareBytes (Pt.text (d'[j]).1.pat) (Pt.text (d'[i]).1.pat) < 0 := of_decide_eq_false h
    have e := Pt.Rg.cb_neg (Pt.text (d'[i]).1.pat) (Pt.text (d'[j]).1.pat)
    simp only [Function.comp_apply, Array.getElem_toList]
    omega
  · have hg := sort_grown (G := G) w g n d' os
    have hgb : base ≤ g := (hown.lt g rfl).1
    exact ⟨hg.os, hg.tape, hg.output, hg.size, fun k hk => hg.block k (by omega) (fun e => by injection e with e; omega)⟩
theorem ins_nil (cv : Value) (w : World) : Calls Tryz.prog 138 #[.slice none 0 0, .int .i64 0, .int .i64 0, cv] w fun e w' => e = .returned (.tuple #[]) ∧ w' = w := by
  go_enter Tryz.func138, Tryz.ntmps138
  go_wp2
  go_loopg [8] 1 (fun gg s8 wx => s8 = .int .i64 1 ∧ wx = w)
  case atStart => exact ⟨rfl, rfl⟩
  case round =>
    obtain ⟨rfl, rfl⟩ := hrel
    go_wp2
    go_end0
    exact ⟨rfl, rfl⟩
set_option maxRecDepth 1000000 in
theorem pdq_nil (l : Int) (cv : Value) (w : World) : Calls Tryz.prog 110 #[.slice none 0 0, .int .i64 0, .int .i64 0, .int .i64 l, cv] w fun e w' => e = .returned (.tuple #[]) ∧ w' = w := by
  have HI := Lib.hid (fun w' => ins_nil cv w')
  go_enter Tryz.func110, Tryz.ntmps110
  go_wp2
  go_loopg [1, 2] 1 (fun gg s1 s2 wx => s1 = .int .i64 0 ∧ s2 = .int .i64 0 ∧ wx = w)
  case atStart => exact ⟨rfl, rfl, rfl⟩
  case round =>
    obtain ⟨rfl, rfl, rfl⟩ := hrel
    go_wp2_with fail
    with_reducible refine (HI.out _).mono ?_
    rintro e w1 ⟨rfl, rfl⟩
    go_wp2
    refine bodyPost_ret (results_none rfl _ _ _) rfl ?_
    exact ⟨rfl, rfl⟩
theorem sort_nil (cv : Value) (w : World) : Calls Tryz.prog 68 #[.slice none 0 0, cv] w fun e w' => e = .returned (.tuple #[]) ∧ w' = w := by
  have HP := Lib.hid (fun (l : Int) (w' : World) => pdq_nil l cv w')
  have HL := Lib.hid (show Calls Tryz.prog 111 #[.int .u64 0] w fun e w' => (∃ l : Int, e = .returned (.int .i64 l)) ∧ w' = w from by
    have h := Any.bits_Len (SlLaysF0.n15.bits (P := Tryz.prog) (ρ := Tryz.laysSort_ren) { Tryz.laysSort with }) 0 w (by decide) (by decide)
    exact h.mono fun e w' ⟨he, hw⟩ => ⟨⟨_, he⟩, hw⟩)
  go_enter Tryz.func68, Tryz.ntmps68
  go_wp2_with fail
  with_reducible refine HL.out.mono ?_
  rintro e w1 ⟨⟨l, rfl⟩, rfl⟩
  go_wp2_with fail
  with_reducible refine (HP.out l _).mono ?_
  rintro e w2 ⟨rfl, rfl⟩
  go_wp2
  go_end0
  exact ⟨rfl, rfl⟩
end Go.Proofs.YtembmegllpkmfaaGreatDoor
