/- region.simplified: what its walk asks of lists. -/
import Derived.Test.YtembmegllpkmfaaGreatDoorRegDel2
import Derived.Test.YtembmegllpkmfaaGreatDoorRegSort
import Derived.Test.YtembmegllpkmfaaGreatDoorMeetF
namespace Go.Proofs.YtembmegllpkmfaaGreatDoor
open Go.RowKit
set_option linter.unusedVariables false

theorem delF_any (lb0 : Value) (P : BindV → Bool) (base e3 : Nat) (A3 : Option Addr) (m : List BindV) (w : World) (hown : OwnP w base (.slice A3 m.length e3) m)
    (hf : ∀ x ∈ m, ∀ w', w.grownBy w' (Value.slice A3 m.length e3).ownBlock → PatR w' x.A x.xs x.c x.b x.pat → Calls Tryz.prog 67 #[patV x.A x.xs.length x.c x.b, lb0] w' (GivesBB w' (P x))) :
    Calls Tryz.prog 66 #[.slice A3 m.length e3, .func (.func 67) #[] #[lb0]] w fun e w' => ∃ bl', e = .returned (.slice A3 bl'.length e3) ∧ bl' = m.filter (fun x => !P x) ∧
      OwnP w' base (.slice A3 bl'.length e3) bl' ∧ w.grownBy w' (Value.slice A3 m.length e3).ownBlock := by
  rcases hown.row.2 with ⟨hv, hn⟩ | ⟨g, cap, cur, hv, _⟩
  · obtain rfl := List.eq_nil_of_length_eq_zero hn
    injection hv with h1 h2 h3
    subst h1 h3
    refine (delF_nil lb0 w).mono ?_
    rintro e w' ⟨rfl, hb⟩
    exact ⟨[], rfl, rfl, OwnP.empty _ _, grown_of_below hb⟩
  · injection hv with h1 h2 h3
    subst h1 h3
    exact delF_own lb0 P base g e3 m w hown hf
theorem sort_any (base e3 : Nat) (A3 : Option Addr) (m : List BindV) (w : World) (hown : OwnP w base (.slice A3 m.length e3) m) (hk : ∀ x ∈ m, Pt.check x.pat = 0) (hl : ∀ x ∈ m, shortP x.pat) (hn : m.length ≤ 1000000) (h0 : m = [] → A3 = none ∧ e3 = 0) :
    Calls Tryz.prog 68 #[.slice A3 m.length e3, .func (.func 69) #[] #[]] w fun e w' => e = .returned (.tuple #[]) ∧ ∃ bl' : List BindV, bl'.Perm m ∧ (bl'.map BindV.pat).Pairwise (fun a b => Lib.compareBytes (Pt.text a) (Pt.text b) ≤ 0) ∧
      OwnP w' base (.slice A3 m.length e3) bl' ∧ Below base w w' := by
  by_cases hm : m = []
  · obtain ⟨h1, h2⟩ := h0 hm
    subst hm h1 h2
    refine (sort_nil _ w).mono ?_
    rintro e w' ⟨rfl, rfl⟩
    exact ⟨rfl, [], List.Perm.refl _, List.Pairwise.nil, OwnP.empty _ _, Below.refl _ _⟩
  · rcases hown.row.2 with ⟨hv, hn0⟩ | ⟨g, cap, cur, hv, _⟩
    · exact absurd (List.eq_nil_of_length_eq_zero hn0) hm
    · injection hv with h1 h2 h3
      subst h1 h3
      exact sort_some base g e3 m w hown hk hl hn hm
theorem OwnP.rdB {w : World} {base e3 : Nat} {A3 : Option Addr} {m : List BindV} (h : OwnP w base (.slice A3 m.length e3) m) : RdB w A3 m e3 := by
  obtain ⟨A, c, hv, hrd, _⟩ := h.rd
  injection hv with h1 _ h3
  subst h1 h3
  exact hrd
theorem FreshA.more {w w' w'' : World} {A : Option Addr} (h : FreshA w w' A) (hs : w'.heap.size ≤ w''.heap.size) : FreshA w w'' A := fun a e => ⟨(h a e).1, Nat.lt_of_lt_of_le (h a e).2 hs⟩
theorem FreshA.old {w w1 w' : World} {A : Option Addr} (h : FreshA w1 w' A) (hs : w.heap.size ≤ w1.heap.size) : FreshA w w' A := fun a e => ⟨Nat.le_trans hs (h a e).1, (h a e).2⟩
/-- What the loop keeps. -/
structure SInv (W0 : World) (B : Pt.Pat) (hs : List Pt.Pat) (wx : World) (A3 : Option Addr) (e3 : Nat) (m : List BindV) (k : Nat) : Prop where
  own : OwnP wx W0.heap.size (.slice A3 m.length e3) m
  acc : m.map BindV.pat = (hs.take k).foldl (Pt.Rg.stepHole B) []
  fresh : ∀ x ∈ m, FreshA W0 wx x.A
  nil : m = [] → A3 = none ∧ e3 = 0
  len : m.length ≤ k
theorem fold_succ {α β : Type} (f : β → α → β) (a : β) (l : List α) (k : Nat) (h : k < l.length) : (l.take (k + 1)).foldl f a = f ((l.take k).foldl f a) l[k] := by
  rw [List.take_succ_eq_append_getElem h, List.foldl_append]
  rfl
theorem SInv.skip {W0 : World} {B : Pt.Pat} {hs : List Pt.Pat} {wx wy : World} {A3 : Option Addr} {e3 : Nat} {m : List BindV} {k : Nat} (h : SInv W0 B hs wx A3 e3 m k) (hb : Below wx.heap.size wx wy) (hk : k < hs.length)
    (hn : Pt.Rg.stepHole B (m.map BindV.pat) hs[k] = m.map BindV.pat) : SInv W0 B hs wy A3 e3 m (k + 1) :=
  ⟨h.own.below hb, by rw [fold_succ _ _ _ _ hk, ← h.acc]; exact hn.symm, fun x hx => (h.fresh x hx).more hb.size, h.nil, Nat.le_succ_of_le h.len⟩
theorem any_pat (m : List BindV) (p : Pt.Pat) : ((m.map BindV.pat).any fun q => Pt.within p q) = m.any fun x => Pt.within p x.pat := by rw [List.any_map]; rfl
theorem filter_pat (m : List BindV) (p : Pt.Pat) : ((m.map BindV.pat).filter fun q => !Pt.within q p) = (m.filter fun x => !Pt.within x.pat p).map BindV.pat := by rw [List.filter_map]; rfl
theorem step_none {B h : Pt.Pat} {acc : List Pt.Pat} (e : Pt.meet B h = none) : Pt.Rg.stepHole B acc h = acc := by unfold Pt.Rg.stepHole; rw [e]
theorem step_in {B h p : Pt.Pat} {m : List BindV} (e : Pt.meet B h = some p) (ha : (m.any fun x => Pt.within p x.pat) = true) : Pt.Rg.stepHole B (m.map BindV.pat) h = m.map BindV.pat := by
  unfold Pt.Rg.stepHole
  rw [e]
  show Pt.Rg.addHole _ p = _
  unfold Pt.Rg.addHole
  rw [any_pat, if_pos ha]
theorem step_out {B h p : Pt.Pat} {m : List BindV} (e : Pt.meet B h = some p) (ha : (m.any fun x => Pt.within p x.pat) = false) : Pt.Rg.stepHole B (m.map BindV.pat) h = (m.filter fun x => !Pt.within x.pat p).map BindV.pat ++ [p] := by
  unfold Pt.Rg.stepHole
  rw [e]
  show Pt.Rg.addHole _ p = _
  unfold Pt.Rg.addHole
  rw [any_pat, if_neg (by rw [ha]; decide), filter_pat]
theorem any_opt (m : List BindV) (f : BindV → Bool) : (m.any f = true) ↔ ∃ k, k < m.length ∧ (m[k]?.map f).getD false = true := by
  rw [List.any_eq_true]
  constructor
  · rintro ⟨x, hx, hf⟩
    obtain ⟨k, hk, rfl⟩ := List.getElem_of_mem hx
    exact ⟨k, hk, by rw [List.getElem?_eq_getElem hk]; exact hf⟩
  · rintro ⟨k, hk, hf⟩
    rw [List.getElem?_eq_getElem hk] at hf
    exact ⟨_, List.getElem_mem hk, hf⟩
theorem PBox.grown {w w' : World} {q : Nat} {A : Option Addr} {n c : Nat} {b : Bool} {row : Option Nat} (h : PBox w q A n c b) (hg : w.grownBy w' row) (hne : row ≠ some q) : PBox w' q A n c b :=
  ⟨hg.cell h.c0 (fun e => hne e.symm), hg.cell h.c1 (fun e => hne e.symm), Nat.lt_of_lt_of_le h.lt hg.size⟩
/-- The round that lays a hole beside the others. -/
theorem SInv.add {W0 : World} {B p : Pt.Pat} {hs : List Pt.Pat} {wx wy : World} {A3 A4 : Option Addr} {e3 e4 : Nat} {m m' : List BindV} {y : BindV} {k : Nat} (h : SInv W0 B hs wx A3 e3 m k) (hk : k < hs.length)
    (hm : Pt.meet B hs[k] = some p) (ha : (m.any fun x => Pt.within p x.pat) = false) (hm' : m' = m.filter fun x => !Pt.within x.pat p) (hy : y.pat = p) (hown : OwnP wy W0.heap.size (.slice A4 (m' ++ [y]).length e4) (m' ++ [y]))
    (hf : FreshA W0 wy y.A) (hsz : wx.heap.size ≤ wy.heap.size) : SInv W0 B hs wy A4 e4 (m' ++ [y]) (k + 1) := by
  refine ⟨hown, ?_, fun x hx => ?_, fun e => ?_, ?_⟩
  · rw [fold_succ _ _ _ _ hk, ← h.acc, step_out hm ha, hm', List.map_append, List.map_cons, List.map_nil, hy]
  · rcases List.mem_append.1 hx with hx | hx
    · rw [hm'] at hx
      exact (h.fresh x (List.mem_filter.1 hx).1).more hsz
    · rw [List.mem_singleton.1 hx]; exact hf
  · simp at e
  · have h1 := h.len
    have h2 : m'.length ≤ m.length := by rw [hm']; exact List.length_filter_le _ _
    simp
    omega
/-- The end: the sorted row is THE simplified one. -/
theorem SInv.done {W0 : World} {B : Pt.Pat} {hs : List Pt.Pat} {wx : World} {A3 : Option Addr} {e3 : Nat} {m bl' : List BindV} (h : SInv W0 B hs wx A3 e3 m hs.length) (hp : bl'.Perm m)
    (hs' : (bl'.map BindV.pat).Pairwise fun a b => Lib.compareBytes (Pt.text a) (Pt.text b) ≤ 0) : bl'.map BindV.pat = Pt.Rg.simpL B hs := by
  have h1 := h.acc
  rw [List.take_length] at h1
  have h2 := Pt.Rg.holds_all B hs
  rw [← h1] at h2
  exact (Pt.Rg.simp_of_sorted h2 (hp.map _) hs').eq
theorem SInv.met {W0 : World} {B : Pt.Pat} {hs : List Pt.Pat} {wx : World} {A3 : Option Addr} {e3 : Nat} {m : List BindV} (h : SInv W0 B hs wx A3 e3 m hs.length) : ∀ x ∈ m, x.pat ∈ Pt.Rg.met B hs := by
  have h1 := h.acc
  rw [List.take_length] at h1
  have h2 := Pt.Rg.holds_all B hs
  rw [← h1] at h2
  exact fun x hx => ((h2.mem _).1 (List.mem_map_of_mem hx)).1
theorem delF_round (base e3 N q : Nat) (A3 : Option Addr) (m : List BindV) (w : World) (A6 : Option Addr) (xs6 : List ByteArray) (c6 : Nat) (b6 : Bool) (p : Pt.Pat) (hown : OwnP w base (.slice A3 m.length e3) m) (hpb : PBox w q A6 xs6.length c6 b6) (hpp : PatR w A6 xs6 c6 b6 p)
    (hlo : ∀ gg, (Value.slice A3 m.length e3).ownBlock = some gg → gg < N) (hq : N ≤ q) (hf : ∀ a, A6 = some a → N ≤ a.block) :
    Calls Tryz.prog 66 #[.slice A3 m.length e3, .func (.func 67) #[] #[.pointer (some ⟨q, 0, none⟩)]] w fun e w' => ∃ bl', e = .returned (.slice A3 bl'.length e3) ∧ bl' = m.filter (fun x => !Pt.within x.pat p) ∧
      OwnP w' base (.slice A3 bl'.length e3) bl' ∧ PBox w' q A6 xs6.length c6 b6 ∧ PatR w' A6 xs6 c6 b6 p ∧ w.grownBy w' (Value.slice A3 m.length e3).ownBlock := by
  have ga : ∀ z ∈ adr A6 xs6, ∀ a, z = some a → (Value.slice A3 m.length e3).ownBlock ≠ some a.block ∧ a.block < w.heap.size := fun z hz a ha => ⟨fun e => by
    have h1 := hlo _ e
    have h2 := hf a (by rw [← ha]; exact (adr_mem hz).symm)
    omega, hpp.adr_lt z hz a ha⟩
  have gq : (Value.slice A3 m.length e3).ownBlock ≠ some q := fun e => by
    have h1 := hlo _ e
    omega
  refine (delF_any (.pointer (some ⟨q, 0, none⟩)) (fun x => Pt.within x.pat p) base e3 A3 m w hown (fun x hx w' hg hp => s2_any A6 x.A xs6 x.xs c6 x.c b6 x.b p x.pat q w' (hpb.grown hg gq) (hpp.grownA hg ga) hp)).mono ?_
  rintro e w' ⟨bl', rfl, h1, h2, h3⟩
  exact ⟨bl', rfl, h1, h2, hpb.grown h3 gq, hpp.grownA h3 ga, h3⟩
theorem own_block (A3 : Option Addr) (n n' e3 : Nat) : (Value.slice A3 n e3).ownBlock = (Value.slice A3 n' e3).ownBlock := by cases A3 <;> rfl
theorem PatR.pat {w : World} {A : Option Addr} {xs : List ByteArray} {c : Nat} {b : Bool} {p : Pt.Pat} (h : PatR w A xs c b p) : (⟨A, xs, c, b⟩ : BindV).pat = p := by
  have h1 := h.parts
  have h2 := h.rest
  unfold BindV.pat
  show (⟨bs xs, b⟩ : Pt.Pat) = p
  rw [h1, h2]
theorem one_apart {A6 : Option Addr} {xs6 : List ByteArray} {c6 : Nat} {b6 : Bool} {v : Value} {N S : Nat} (hlo : ∀ gg, v.ownBlock = some gg → gg < N) (hf : ∀ a, A6 = some a → N ≤ a.block ∧ a.block < S) :
    ∀ x ∈ [(⟨A6, xs6, c6, b6⟩ : BindV)], ∀ z ∈ adr x.A x.xs, ∀ a, z = some a → v.ownBlock ≠ some a.block ∧ a.block < S := by
  intro x hx z hz a ha
  rw [List.mem_singleton] at hx
  subst hx
  have h := hf a (by rw [← ha]; exact (adr_mem hz).symm)
  exact ⟨fun e => by have h1 := hlo _ e; omega, h.2⟩
theorem filt_le {m bl' : List BindV} {p : Pt.Pat} {k : Nat} (h : bl' = m.filter fun x => !Pt.within x.pat p) (hm : m.length ≤ k) (hk : k ≤ 1000000) : (bl'.length + [p].length) * 32 ≤ 140737488355328 := by
  have h2 : bl'.length ≤ m.length := by rw [h]; exact List.length_filter_le _ _
  simp
  omega
theorem below_row {w w' : World} {row : Option Nat} {base : Nat} (h : w.grownBy w' row) (hlo : ∀ g, row = some g → base ≤ g) (hb : base ≤ w.heap.size) : Below base w w' :=
  ⟨h.os, h.tape, h.output, h.size, fun k hk => h.block k (by omega) (fun e => by have := hlo k e.symm; omega)⟩
theorem grown_set (w : World) (q j : Nat) (u : Value) : w.grownBy (w.setCell ⟨q, j, none⟩ u) (some q) :=
  ⟨rfl, rfl, rfl, by simp, fun k _ hk => heap_setCell_other w ⟨q, j, none⟩ k u (fun e => hk (by simp [e]))⟩
theorem RdB.grownQ {w w' : World} {q : Nat} {A : Option Addr} {bl : List BindV} {c : Nat} (h : RdB w A bl c) (hg : w.grownBy w' (some q)) (hA : ∀ a, A = some a → a.block ≠ q) (hx : ∀ x ∈ bl, ∀ a, x.A = some a → a.block ≠ q) : RdB w' A bl c := by
  refine ⟨?_, fun x hxm => (h.parts x hxm).grownA hg fun y hy a e => ⟨fun e2 => hx x hxm a (by rw [← e]; exact (adr_mem hy).symm) (by injection e2 with e2; exact e2.symm), (h.parts x hxm).adr_lt y hy a e⟩, h.le, h.cm, h.nil⟩
  rcases h.cells with h0 | ⟨g, o, hA', hlt, hc⟩
  · exact .inl h0
  · have hne : g ≠ q := hA _ hA'
    exact .inr ⟨g, o, hA', Nat.lt_of_lt_of_le hlt hg.size, fun k hk => ⟨hg.cell (hc k hk).1 (fun e => hne (by injection e)), hg.cell (hc k hk).2 (fun e => hne (by injection e))⟩⟩
theorem simp_fin {w w0 W w' : World} {g : Pt.Rg.Reg} {xs : List ByteArray} {b : Bool} {c cz e3 q : Nat} {A C A3 : Option Addr} {bl' : List BindV} (hq : w.heap.size ≤ q) (hqW : q < W.heap.size)
    (hbase : PatR w0 A xs c b g.base) (hrd : RdS w' w'.heap.size C xs) (hle : xs.length ≤ cz) (hcm : cz ≤ maxLen) (hnil : C = none → cz = 0) (hfr : ∀ a, C = some a → W.heap.size ≤ a.block ∧ a.block < w'.heap.size)
    (hown : OwnP w' W.heap.size (.slice A3 bl'.length e3) bl') (heq : bl'.map BindV.pat = Pt.Rg.simpL g.base g.holes) (hfx : ∀ x ∈ bl', FreshA W w' x.A) (hb : Below w.heap.size w w') (u0 u1 u2 : Value) (w'' : World)
    (hw : w'' = ((w'.setCell ⟨q, 0, none⟩ u0).setCell ⟨q, 1, none⟩ u1).setCell ⟨q, 2, none⟩ u2) :
    RegR w'' C xs cz b A3 bl' e3 g.simp ∧ Below w.heap.size w w'' ∧ FreshA w w'' C ∧ FreshA w w'' A3 ∧ ∀ x ∈ bl', FreshA w w'' x.A := by
  have hg : w'.grownBy w'' (some q) := by
    rw [hw]
    exact ((grown_set _ _ _ _).trans (grown_set _ _ _ _)).trans (grown_set _ _ _ _)
  have hp : PatR w' C xs cz b g.base := ⟨hrd, hbase.parts, hbase.rest, hle, hcm, hnil, hbase.sz⟩
  have hA3 : ∀ a, A3 = some a → W.heap.size ≤ a.block ∧ a.block < w'.heap.size := fun a ha => hown.lt a.block (by rw [ha]; rfl)
  have hWw : w.heap.size ≤ W.heap.size := by omega
  refine ⟨⟨hp.grownA hg fun y hy a e => ⟨fun e2 => ?_, hp.adr_lt y hy a e⟩, hown.rdB.grownQ hg (fun a ha e => ?_) (fun x hx a ha e => ?_), heq⟩, hb.trans (below_row hg (fun k hk => by injection hk with hk; omega) hb.size), fun a ha => ?_, fun a ha => ?_, fun x hx a ha => ?_⟩
  · have h1 := (hfr a (by rw [← e]; exact (adr_mem hy).symm)).1
    injection e2 with e2
    omega
  · have h1 := (hA3 a ha).1
    omega
  · have h1 := (hfx x hx a ha).1
    omega
  · exact ⟨Nat.le_trans hWw (hfr a ha).1, Nat.lt_of_lt_of_le (hfr a ha).2 hg.size⟩
  · exact ⟨Nat.le_trans hWw (hA3 a ha).1, Nat.lt_of_lt_of_le (hA3 a ha).2 hg.size⟩
  · exact ⟨Nat.le_trans hWw (hfx x hx a ha).1, Nat.lt_of_lt_of_le (hfx x hx a ha).2 hg.size⟩
end Go.Proofs.YtembmegllpkmfaaGreatDoor
