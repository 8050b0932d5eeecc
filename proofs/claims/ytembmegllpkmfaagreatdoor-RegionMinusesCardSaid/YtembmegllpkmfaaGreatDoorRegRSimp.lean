/- The reference's Simplify. -/
import Derived.Test.YtembmegllpkmfaaGreatDoorRegRM
import Derived.Test.YtembmegllpkmfaaGreatDoorMeetR
import Derived.Test.YtembmegllpkmfaaGreatDoorRegSimp
namespace Go.Proofs.YtembmegllpkmfaaGreatDoor
open Go.RowKit
set_option linter.unusedVariables false
/-- What the first loop keeps. -/
structure MInv (W : World) (B : Pt.Pat) (hs : List Pt.Pat) (wx : World) (A3 : Option Addr) (e3 : Nat) (m : List BindV) (k : Nat) : Prop where
  own : OwnP wx W.heap.size (.slice A3 m.length e3) m
  acc : m.map BindV.pat = Pt.Rg.met B (hs.take k)
  fresh : ∀ x ∈ m, FreshA W wx x.A
  len : m.length ≤ k
theorem MInv.skip {W : World} {B : Pt.Pat} {hs : List Pt.Pat} {wx wy : World} {A3 : Option Addr} {e3 : Nat} {m : List BindV} {k : Nat} (h : MInv W B hs wx A3 e3 m k) (hb : Below wx.heap.size wx wy) (hk : k < hs.length)
    (hn : Pt.meet B hs[k] = none) : MInv W B hs wy A3 e3 m (k + 1) :=
  ⟨h.own.below hb, by rw [List.take_succ_eq_append_getElem hk, Pt.Rg.met_append, ← h.acc]; simp [Pt.Rg.met, hn], fun x hx => (h.fresh x hx).more hb.size, Nat.le_succ_of_le h.len⟩
theorem MInv.add {W : World} {B p : Pt.Pat} {hs : List Pt.Pat} {wx wy : World} {A3 A4 : Option Addr} {e3 e4 : Nat} {m : List BindV} {y : BindV} {k : Nat} (h : MInv W B hs wx A3 e3 m k) (hk : k < hs.length)
    (hm : Pt.meet B hs[k] = some p) (hy : y.pat = p) (hown : OwnP wy W.heap.size (.slice A4 (m ++ [y]).length e4) (m ++ [y])) (hf : FreshA W wy y.A) (hsz : wx.heap.size ≤ wy.heap.size) : MInv W B hs wy A4 e4 (m ++ [y]) (k + 1) := by
  refine ⟨hown, ?_, fun x hx => ?_, by have := h.len; simp; omega⟩
  · rw [List.take_succ_eq_append_getElem hk, Pt.Rg.met_append, ← h.acc]
    simp [Pt.Rg.met, hm, hy]
  · rcases List.mem_append.1 hx with hx | hx
    · exact (h.fresh x hx).more hsz
    · rw [List.mem_singleton.1 hx]; exact hf
/-- What the sort keeps: the same row in another order. -/
structure RInv (W : World) (m0 : List BindV) (wx : World) (A3 : Option Addr) (e3 : Nat) (m : List BindV) : Prop where
  own : OwnP wx W.heap.size (.slice A3 m.length e3) m
  perm : m.Perm m0
  below : Below W.heap.size W wx
  fresh : ∀ x ∈ m, FreshA W wx x.A
theorem RInv.next {W : World} {m0 : List BindV} {wx wy : World} {A3 : Option Addr} {e3 : Nat} {m : List BindV} (h : RInv W m0 wx A3 e3 m) (hb : Below wx.heap.size wx wy) : RInv W m0 wy A3 e3 m :=
  ⟨h.own.below hb, h.perm, h.below.trans (hb.mono h.below.size), fun x hx => (h.fresh x hx).more hb.size⟩
theorem RInv.swap {W : World} {m0 : List BindV} {wx : World} {g e3 : Nat} {m : List BindV} {i j : Nat} (h : RInv W m0 wx (some ⟨g, 0, none⟩) e3 m) (hi : i < m.length) (hj : j < m.length) :
    RInv W m0 ((((wx.setCell ⟨g, i * 2, none⟩ (.slice m[j].A m[j].xs.length m[j].c)).setCell ⟨g, i * 2 + 1, none⟩ (.bool m[j].b)).setCell ⟨g, j * 2, none⟩ (.slice m[i].A m[i].xs.length m[i].c)).setCell ⟨g, j * 2 + 1, none⟩ (.bool m[i].b)) (some ⟨g, 0, none⟩) e3 ((m.set i m[j]).set j m[i]) := by
  obtain ⟨h1, h2⟩ := own_swap h.own hi hj
  refine ⟨?_, (swap_perm hi hj).trans h.perm, h.below.trans (below_row h2 (fun k hk => ?_) h.below.size), fun x hx => (h.fresh x ((swap_perm hi hj).mem_iff.1 hx)).more h2.size⟩
  · have hl : ((m.set i m[j]).set j m[i]).length = m.length := by simp
    rw [hl]
    exact h1
  · injection hk with hk
    rw [← hk]
    exact (h.own.lt g rfl).1
theorem RInv.len {W : World} {m0 : List BindV} {wx : World} {A3 : Option Addr} {e3 : Nat} {m : List BindV} (h : RInv W m0 wx A3 e3 m) : m.length = m0.length := h.perm.length_eq
theorem RInv.addr {W : World} {m0 : List BindV} {wx : World} {A3 : Option Addr} {e3 : Nat} {m : List BindV} (h : RInv W m0 wx A3 e3 m) (h0 : 0 < m.length) : ∃ g, A3 = some ⟨g, 0, none⟩ := by
  rcases h.own.row.2 with ⟨hv, hn⟩ | ⟨g, cap, cur, hv, _⟩
  · injection hv with h1 h2
    omega
  · injection hv with h1
    exact ⟨g, h1⟩
/-- What the last loop keeps: those of the sorted row that stay. -/
structure KInv (W1 : World) (m : List BindV) (wx : World) (A5 : Option Addr) (e5 : Nat) (ol : List BindV) (i : Nat) : Prop where
  own : OwnP wx W1.heap.size (.slice A5 ol.length e5) ol
  acc : ol.map BindV.pat = ((List.range i).filter (Pt.Rg.keptAt (m.map BindV.pat))).map fun j => (m.map BindV.pat).getD j Pt.none_
  mem : ∀ x ∈ ol, x ∈ m
  len : ol.length ≤ i
theorem KInv.skip {W1 : World} {m : List BindV} {wx wy : World} {A5 : Option Addr} {e5 : Nat} {ol : List BindV} {i : Nat} (h : KInv W1 m wx A5 e5 ol i) (hb : Below wx.heap.size wx wy) (hk : Pt.Rg.keptAt (m.map BindV.pat) i = false) : KInv W1 m wy A5 e5 ol (i + 1) :=
  ⟨h.own.below hb, by rw [List.range_succ, List.filter_append, List.map_append, ← h.acc]; simp [hk], h.mem, Nat.le_succ_of_le h.len⟩
theorem KInv.add {W1 : World} {m : List BindV} {wx wy : World} {A5 A6 : Option Addr} {e5 e6 : Nat} {ol : List BindV} {i : Nat} (h : KInv W1 m wx A5 e5 ol i) (hi : i < m.length) (hk : Pt.Rg.keptAt (m.map BindV.pat) i = true)
    (hown : OwnP wy W1.heap.size (.slice A6 (ol ++ [m[i]]).length e6) (ol ++ [m[i]])) : KInv W1 m wy A6 e6 (ol ++ [m[i]]) (i + 1) := by
  refine ⟨hown, ?_, fun x hx => ?_, by have := h.len; simp; omega⟩
  · rw [List.map_append, h.acc, List.range_succ, List.filter_append, List.map_append]
    simp [hk, hi]
  · rcases List.mem_append.1 hx with hx | hx
    · exact h.mem x hx
    · rw [List.mem_singleton.1 hx]; exact List.getElem_mem hi
/-- One pair of the last loop's inner one. -/
def badP (M : List Pt.Pat) (i j : Nat) : Bool := decide (i ≠ j) && Pt.within (M.getD i Pt.none_) (M.getD j Pt.none_) && (decide (j < i) || !decide (M.getD i Pt.none_ = M.getD j Pt.none_))
theorem kept_bad (M : List Pt.Pat) (i : Nat) : Pt.Rg.keptAt M i = (List.range M.length).all fun j => !badP M i j := rfl
theorem bad_same (M : List Pt.Pat) (i : Nat) : badP M i i = false := by simp [badP]
theorem bad_at {m : List BindV} {i j : Nat} (hi : i < m.length) (hj : j < m.length) : badP (m.map BindV.pat) i j = (decide (i ≠ j) && Pt.within m[i].pat m[j].pat && (decide (j < i) || !decide (m[i].pat = m[j].pat))) := by
  unfold badP
  have e1 : (m.map BindV.pat).getD i Pt.none_ = m[i].pat := by simp [hi]
  have e2 : (m.map BindV.pat).getD j Pt.none_ = m[j].pat := by simp [hj]
  rw [e1, e2]
theorem all_succ (f : Nat → Bool) (j : Nat) : (List.range (j + 1)).all f = ((List.range j).all f && f j) := by
  rw [List.range_succ, List.all_append]
  simp
theorem all_good5 {f : Nat → Bool} {d : Nat} {kp : Bool} (h : kp = (List.range d).all fun t => !f t) (hb : f d = false) : kp = (List.range (d + 1)).all fun t => !f t := by rw [all_succ, ← h, hb]; simp
theorem all_bad5 {f : Nat → Bool} {d : Nat} (hb : f d = true) : false = (List.range (d + 1)).all fun t => !f t := by rw [all_succ, hb]; simp
theorem pat_at {m : List BindV} {i : Nat} (hi : i < m.length) : (m.map BindV.pat).getD i Pt.none_ = m[i].pat := by simp [hi]
theorem KInv.done {W1 : World} {m : List BindV} {wx : World} {A5 : Option Addr} {e5 : Nat} {ol : List BindV} (h : KInv W1 m wx A5 e5 ol m.length) {B : Pt.Pat} {H : List Pt.Pat} (hp : (m.map BindV.pat).Perm (Pt.Rg.met B H)) (hs : SS m m.length) : ol.map BindV.pat = Pt.Rg.simpL B H := by
  have h1 := (Pt.Rg.kept_simp hp hs.pw).eq
  rw [← h1, h.acc]
  unfold Pt.Rg.keptOf
  rw [List.length_map]
theorem eq_pats (A B : Option Addr) (xs ys : List ByteArray) (c d : Nat) (b f : Bool) (p q : Pt.Pat) (w : World) (hp : PatR w A xs c b p) (hq : PatR w B ys d f q) :
    Calls Tryz.prog 45 #[patV A xs.length c b, patV B ys.length d f] w (GivesBB w (decide (p = q))) := by
  have h := rsame_any A B xs ys c d w.heap.size w.heap.size b f w hp.rd hq.rd (Nat.le_refl _) (Nat.le_refl _) (Nat.le_trans hp.le hp.cm) hp.le hq.le (Nat.le_trans hq.le hq.cm)
  have e : samePat b f xs ys = decide (p = q) := by
    by_cases he : p = q
    · subst he
      have e1 : xs = ys := bs_inj (hp.parts.trans hq.parts.symm)
      have e2 : b = f := hp.rest.trans hq.rest.symm
      rw [decide_eq_true rfl]
      unfold samePat
      rw [e1, e2]
      simp
    · rw [decide_eq_false he, Bool.eq_false_iff]
      intro hs
      apply he
      unfold samePat at hs
      simp only [Bool.and_eq_true, beq_iff_eq, decide_eq_true_eq] at hs
      exact Pt.Pat.ext' (by rw [← hp.parts, ← hq.parts]; simp [hs]) (by rw [← hp.rest, ← hq.rest]; simp [hs])
  rw [e] at h
  exact h
theorem OwnP.aside {w w' : World} {base q : Nat} {v : Value} {l : List BindV} (h : OwnP w base v l) (hg : w.grownBy w' (some q)) (hq : ∀ k, v.ownBlock = some k → k ≠ q) (hx : ∀ x ∈ l, ∀ y ∈ adr x.A x.xs, ∀ a, y = some a → a.block ≠ q) : OwnP w' base v l := by
  refine ⟨World.ownsRow.kept h.row hg ?_, fun x hxm => (h.parts x hxm).grownA hg fun y hy a e => ⟨fun e2 => ?_, (h.apart x hxm y hy a e).2⟩, fun x hxm y hy a e => ⟨(h.apart x hxm y hy a e).1, Nat.lt_of_lt_of_le (h.apart x hxm y hy a e).2 hg.size⟩⟩
  · cases hv : v.ownBlock with
    | none => exact .inl rfl
    | some k => exact .inr fun e => by injection e with e; exact hq k hv e
  · injection e2 with e2
    exact hx x hxm y hy a e e2.symm
theorem cut_storeR {V w5 w9 : World} {q base n c m e : Nat} {A H : Option Addr} {b : Bool} {u0 u1 u2 : Value} {l : List BindV} (hb : Below V.heap.size V w5) (hq : V.heap.size ≤ q) (hqb : q < base) (k0 : w5.cell? ⟨q, 0, none⟩ = some u0) (k1 : w5.cell? ⟨q, 1, none⟩ = some u1) (k2 : w5.cell? ⟨q, 2, none⟩ = some u2)
    (hown : OwnP w5 base (.slice H m e) l) (hx : ∀ x ∈ l, ∀ y ∈ adr x.A x.xs, ∀ a, y = some a → a.block < V.heap.size) (hw : w9 = ((w5.setCell ⟨q, 0, none⟩ (.slice A n c)).setCell ⟨q, 1, none⟩ (.bool b)).setCell ⟨q, 2, none⟩ (.slice H m e)) :
    GBox w9 q A n c b H m e ∧ Below V.heap.size V w9 ∧ OwnP w9 base (.slice H m e) l := by
  have hlt : q < w5.heap.size := World.block_lt_of_cell? w5 ⟨q, 0, none⟩ k0
  have hg : w5.grownBy w9 (some q) := by
    rw [hw]
    exact ((grown_set _ _ _ _).trans (grown_set _ _ _ _)).trans (grown_set _ _ _ _)
  refine ⟨⟨by rw [hw]; simp [go_sem, k0], by rw [hw]; simp [go_sem, k1], by rw [hw]; simp [go_sem, k2], Nat.lt_of_lt_of_le hlt hg.size⟩, hb.trans (below_row hg (fun k hk => by injection hk with hk; omega) hb.size), hown.aside hg (fun k hk => ?_) (fun x hxm y hy a ha => ?_)⟩
  · have := (hown.lt k hk).1
    omega
  · have := hx x hxm y hy a ha
    omega
theorem GBox.grow {w w' : World} {q : Nat} {A : Option Addr} {n c : Nat} {b : Bool} {H : Option Addr} {m e : Nat} (h : GBox w q A n c b H m e) {row : Option Nat} (hg : w.grownBy w' row) (hne : row ≠ some q) : GBox w' q A n c b H m e :=
  ⟨hg.cell h.c0 (fun e => hne e.symm), hg.cell h.c1 (fun e => hne e.symm), hg.cell h.c2 (fun e => hne e.symm), Nat.lt_of_lt_of_le h.lt hg.size⟩
theorem bytesLess_cb : ∀ x y : List UInt8, Op.bytesLess x y = decide (Lib.compareBytes x y < 0)
  | [], [] => by rw [Op.bytesLess]; decide
  | _ :: _, [] => by rw [Op.bytesLess, Lib.compareBytes]; rfl
  | [], _ :: _ => by rw [Op.bytesLess, Lib.compareBytes]; rfl
  | a :: x, b :: y => by
    rw [Op.bytesLess, Pt.Rg.cb_cons, bytesLess_cb x y]
    by_cases h1 : a < b
    · simp [h1]
    · by_cases h2 : b < a
      · have h3 : ¬ a = b := fun e => by subst e; exact UInt8.lt_irrefl _ h2
        simp [h1, h2, h3]
      · have h3 : a = b := UInt8.le_antisymm (UInt8.not_lt.1 h2) (UInt8.not_lt.1 h1)
        simp [h3]
def GivesGR (w : World) (A : Option Addr) (xs : List ByteArray) (c : Nat) (b : Bool) (g : Pt.Rg.Reg) (e : Ending) (w' : World) : Prop :=
  ∃ K ol f, e = .returned (regV A xs.length c b K (List.length ol) f) ∧ RegR w' A xs c b K ol f g ∧ Below w.heap.size w w' ∧ FreshA w w' K ∧ ∀ x ∈ ol, FreshA w w' x.A
set_option maxHeartbeats 16000000 in
theorem gsimp_any (A : Option Addr) (xs : List ByteArray) (c : Nat) (b : Bool) (H : Option Addr) (bl : List BindV) (e : Nat) (p : Pt.Pat) (w : World) (hp : PatR w A xs c b p) (hr : RdB w H bl e) (hn : bl.length ≤ 1000000) (hs : ∀ h ∈ bl, ∀ x, Pt.meet p h.pat = some x → shortP x) :
    Calls Tryz.prog 44 #[patV A xs.length c b, .slice H bl.length e] w (GivesGR w A xs c b ⟨p, Pt.Rg.simpL p (bl.map BindV.pat)⟩) := by
  obtain ⟨W0, hW0⟩ : ∃ W0, W0 = (w.alloc (.cells #[.slice A xs.length c, .bool b] 24)).alloc (regObj none 0 0 false none 0 0) := ⟨_, rfl⟩
  have hal : Below w.heap.size w W0 := by rw [hW0]; exact ((Below.refl _ _).alloc (Nat.le_refl _) _).alloc (by simp) _
  have HAL := Lib.hid hal
  have hpb : PBox W0 w.heap.size A xs.length c b := by rw [hW0]; exact (PBox.new ..).keep ((Below.refl _ _).alloc (Nat.le_refl _) _)
  have HPB := Lib.hid (fun (w' : World) (hb : Below W0.heap.size W0 w') => hpb.keep hb)
  have hzb : GBox W0 (w.heap.size + 1) none 0 0 false none 0 0 := by
    have h := GBox.new (w.alloc (.cells #[.slice A xs.length c, .bool b] 24)) none 0 0 false none 0 0
    rw [hW0]
    simpa using h
  have HZB := Lib.hid (fun (w' : World) (hb : Below W0.heap.size W0 w') => hzb.keep hb)
  have HFZ0 : ∀ i, W0.frozen? ⟨w.heap.size + 1, i, none⟩ = false := fun i => by rw [hW0]; simp [regObj]
  have HFZ := Lib.hid (fun (w' : World) (hb : Below W0.heap.size W0 w') (i : Nat) => (hb.frozen (p := ⟨w.heap.size + 1, i, none⟩) hzb.lt).trans (HFZ0 i))
  have HRD := Lib.hid (fun (w' : World) (hb : Below W0.heap.size W0 w') => (hr.keep hal).keep hb)
  have HMT := Lib.hid (fun (k : Nat) (hk : k < bl.length) (w' : World) (hb : Below W0.heap.size W0 w') => rmeetF_any A bl[k].A xs bl[k].xs c bl[k].c b bl[k].b p bl[k].pat w' ((hp.keep hal).keep hb) (((hr.keep hal).keep hb).parts _ (List.getElem_mem hk)))
  have HPP := Lib.hid (fun (w' : World) (hb : Below W0.heap.size W0 w') => (hp.keep hal).keep hb)
  have HPA := Lib.hid (fun y hy a ha => hp.adr_lt y hy a ha)
  have HS := Lib.hid hs
  have hWz : W0.heap.size = w.heap.size + 1 + 1 := by rw [hW0]; simp
  have HWZ := Lib.hid hWz
  have hmi : (bl.length : Int) ≤ 1000000 := by omega
  have hz : w.heap.size + 1 < W0.heap.size := hzb.lt
  obtain ⟨t0, t1, tl⟩ := hpb
  obtain ⟨nX, hX⟩ : ∃ n, n = xs.length := ⟨_, rfl⟩
  obtain ⟨nH, hH⟩ : ∃ n, n = bl.length := ⟨_, rfl⟩
  have HX := Lib.hid hX
  have HH := Lib.hid hH
  rw [← hX] at hW0 t0 HPB HMT ⊢
  rw [← hH] at hmi ⊢
  clear hp hr hal hzb hs hn hX hH HFZ0 hWz
  go_enter Tryz.func44, Tryz.ntmps44
  go_wp2
  generalize hwg : (w.alloc (.cells #[.slice A nX c, .bool b] 24)).alloc (regObj none 0 0 false none 0 0) = W
  have hWW : W = W0 := by rw [← hwg, hW0]
  subst hWW
  clear hwg hW0
  go_loopg [20, 5] nH (fun gg s20 s5 wx => ∃ (k n3 : Nat) (A3 : Option Addr) (e3 : Nat), k + gg = nH ∧ s20 = .int .i64 (k : Int) ∧ s5 = .slice A3 n3 e3 ∧ Below W.heap.size W wx ∧ Aside (∃ m : List BindV, n3 = m.length ∧ MInv W p (bl.map BindV.pat) wx A3 e3 m k))
  case atStart => exact ⟨0, 0, none, 0, by omega, rfl, rfl, Below.refl _ _, [], rfl, OwnP.empty _ _, rfl, fun x h => (by cases h), Nat.le_refl _⟩
  case round =>
    obtain ⟨k, n3, A3, e3, hk, rfl, rfl, hbw, HA⟩ := hrel
    obtain ⟨m, hm3, hI⟩ := HA.out
    have HI := Lib.hid hI
    have HM3 := Lib.hid hm3
    have HBW := Lib.hid hbw
    by_cases hkn : k < nH
    · have i1 : (k : Int) < (nH : Int) := by omega
      have hkb : k < bl.length := by rw [← HH.out]; exact hkn
      have HKH : Hid (k < (bl.map BindV.pat).length) := Lib.hid (by rw [List.length_map]; exact hkb)
      obtain ⟨t0, t1, tl⟩ := HPB.out _ hbw
      obtain ⟨q, o, hA, hq, hcell⟩ := (HRD.out _ hbw).at (by omega)
      subst hA
      obtain ⟨e0, e1⟩ := hcell k hkb
      have hb1 : Below wr.heap.size wr (wr.alloc (.cells #[.slice bl[k].A bl[k].xs.length bl[k].c, .bool bl[k].b] 24)) := (Below.refl _ _).alloc (Nat.le_refl _) _
      have HC := HMT.out k hkb _ (hbw.trans (hb1.mono hbw.size))
      have HME : Hid (∀ r, Pt.meet p bl[k].pat = r → Pt.meet p ((bl.map BindV.pat)[k]'HKH.out) = r) := Lib.hid (by intro r h; rw [List.getElem_map]; exact h)
      have HB1 := Lib.hid hb1
      generalize hor : Pt.meet p bl[k].pat = o' at HC
      have HOR := Lib.hid (HME.out _ hor)
      have HC := Lib.hid HC
      clear hcell hbw hb1 hor HME hI hm3
      generalize bl[k] = y at *
      clear hkb
      go_wp2_with fail
      with_reducible refine HC.out.mono ?_
      intro en w2 hh
      obtain ⟨A6, xs6, c6, b6, rfl, hp6, hb2, hf6⟩ := hh
      have HP6 := Lib.hid hp6
      have HB2 := Lib.hid hb2
      have HF6 := Lib.hid hf6
      have HW2 : Hid (Below wr.heap.size wr w2) := Lib.hid (HB1.out.trans (hb2.mono HB1.out.size))
      have hs2 := HW2.out.size
      have hsW := HBW.out.size
      clear hp6 hf6 hb2 t0 t1 tl e0 e1
      cases o' with
      | none =>
        go_wp2
        go_roundg (nH - (k + 1))
        case measure => go_light; omega
        case rel =>
          go_light
          have hbx := HW2.out.trans (((Below.refl w2.heap.size w2).alloc (Nat.le_refl _) (.cells #[.slice A6 xs6.length c6, .bool b6] 24)).mono hs2)
          exact ⟨k + 1, n3, A3, e3, by omega, by go_num, rfl, HBW.out.trans (hbx.mono HBW.out.size), m, HM3.out, HI.out.skip hbx HKH.out HOR.out⟩
      | some p6 =>
        obtain ⟨W2, hW2⟩ : ∃ W2, W2 = w2.alloc (.cells #[.slice A6 xs6.length c6, .bool b6] 24) := ⟨_, rfl⟩
        have hal2 : Below w2.heap.size w2 W2 := by rw [hW2]; exact (Below.refl _ _).alloc (Nat.le_refl _) _
        have hbx : Below wr.heap.size wr W2 := HW2.out.trans (hal2.mono hs2)
        have hpb : PBox W2 w2.heap.size A6 xs6.length c6 b6 := by rw [hW2]; exact PBox.new ..
        have hpp : PatR W2 A6 xs6 c6 b6 p6 := (show PatR w2 A6 xs6 c6 b6 p6 from HP6.out).keep hal2
        have HBX := Lib.hid hbx
        have HOO := Lib.hid (HI.out.own.below hbx)
        have HYP : Hid ((⟨A6, xs6, c6, b6⟩ : BindV).pat = p6) := Lib.hid hpp.pat
        have HNP := Lib.hid (newP W2 ⟨A6, xs6, c6, b6⟩ (by rw [HYP.out]; exact hpp))
        have hz2 : W2.heap.size = w2.heap.size + 1 := by rw [hW2]; simp
        have HAP := Lib.hid (one_apart (xs6 := xs6) (c6 := c6) (b6 := b6) (v := .slice A3 m.length e3) (N := wr.heap.size) (S := W2.heap.size + 1) (fun gg h => (HI.out.own.lt gg h).2) (fun a ha => ⟨Nat.le_trans HB1.out.size (HF6.out a ha).1, by have := (HF6.out a ha).2; omega⟩))
        have HFR : Hid (∀ a, A6 = some a → W.heap.size ≤ a.block ∧ a.block < W2.heap.size) := Lib.hid fun a ha => ⟨Nat.le_trans hsW (Nat.le_trans HB1.out.size (HF6.out a ha).1), by have := (HF6.out a ha).2; omega⟩
        have hlm := HI.out.len
        have HLM := Lib.hid hlm
        obtain ⟨q0, q1, ql⟩ := hpb
        have hsW2 : W.heap.size ≤ W2.heap.size := by omega
        clear hal2 hbx hpp
        subst hW2
        rw [HM3.out] at *
        go_wp2_with (refine wpList_append_pt rfl _ _ rfl W.heap.size (.slice A3 m.length e3) m rfl (HOO.out.below ((Below.refl _ _).alloc (Nat.le_refl _) _)) (some ⟨w2.heap.size + 1, 0, none⟩) [⟨A6, xs6, c6, b6⟩] 1 1 rfl rfl ?_ ?_ (by simp; omega) (by simp; omega) ?_; (simpa using HNP.out); (simpa using HAP.out); intro v9 w9 hown9 hb9 hg9)
        obtain ⟨A9, e9, hv9, _⟩ := hown9.form
        subst hv9
        go_roundg (nH - (k + 1))
        case measure => go_light; omega
        case rel =>
          go_light
          have hal9 : Below (w2.heap.size + 1) (w2.alloc (.cells #[.slice A6 xs6.length c6, .bool b6] 24)) ((w2.alloc (.cells #[.slice A6 xs6.length c6, .bool b6] 24)).alloc (.cells #[.slice A6 xs6.length c6, .bool b6] 24)) := (Below.refl _ _).alloc (by simp) _
          have q3 : Below W.heap.size W w9 := (HBW.out.trans ((HBX.out.trans (hal9.mono (by omega))).mono HBW.out.size)).trans hb9
          have q4 : w2.heap.size + 1 ≤ w9.heap.size := by have := hb9.size; simp at this; omega
          have q6 : FreshA W w9 A6 := fun a ha => ⟨(HFR.out a ha).1, by have := (HFR.out a ha).2; simp at this; omega⟩
          exact ⟨k + 1, _, A9, e9, by omega, by go_num, rfl, q3, m ++ [⟨A6, xs6, c6, b6⟩], rfl, HI.out.add HKH.out HOR.out HYP.out hown9 q6 (by omega)⟩
    · have i1 : ¬ (k : Int) < (nH : Int) := by omega
      have hkk : k = (bl.map BindV.pat).length := by rw [List.length_map, ← HH.out]; omega
      have HID : Hid (MInv W p (bl.map BindV.pat) wr A3 e3 m (bl.map BindV.pat).length) := Lib.hid (by rw [← hkk]; exact hI)
      have HACC : Hid (m.map BindV.pat = Pt.Rg.met p (bl.map BindV.pat)) := Lib.hid (by have h := HID.out.acc; rwa [List.take_length] at h)
      have HOKM : Hid (∀ x ∈ m, (Lib.join x.pat.parts [47]).length ≤ 140737488350000 ∧ x.xs.length ≤ 140737488355328) := Lib.hid (fun x hx => by
        have h1 : x.pat ∈ Pt.Rg.met p (bl.map BindV.pat) := by rw [← HACC.out]; exact List.mem_map_of_mem hx
        obtain ⟨h, hh, he⟩ := Pt.Rg.met_mem.1 h1
        obtain ⟨y, hy, rfl⟩ := List.mem_map.1 hh
        have h2 := HS.out y hy _ he
        have h3 := (Pt.check_ok.1 (Pt.meet_ok he)).2
        unfold shortP at h2
        have h4 : x.pat.parts.length = x.xs.length := by unfold BindV.pat; exact bs_length _
        exact ⟨by omega, by omega⟩)
      have HR0 : Hid (RInv W m wr A3 e3 m) := Lib.hid ⟨HID.out.own, List.Perm.refl _, hbw, HID.out.fresh⟩
      have hlm := HI.out.len
      have HN3 := Lib.hid hm3
      have hn3i : (n3 : Int) ≤ 1000000 := by omega
      have hc3 : (n3 : Int) ≤ (e3 : Int) := by have := HID.out.own.rdB.le; omega
      have hc3m : (e3 : Int) ≤ 9223372036854775807 := by have := HID.out.own.rdB.cm; unfold maxLen at this; omega
      clear hkk hI hbw hm3 hlm
      go_wp2
      go_loopg [38] n3 (fun gg s38 wx => ∃ i : Nat, i + gg = n3 ∧ s38 = .int .i64 (i : Int) ∧ Below W.heap.size W wx ∧ Aside (∃ m', n3 = m'.length ∧ RInv W m wx A3 e3 m' ∧ SS m' i))
      case atStart => exact ⟨0, by omega, rfl, HR0.out.below, m, HN3.out, HR0.out, fun a b _ _ _ h => absurd h (Nat.not_lt_zero _)⟩
      case round =>
        obtain ⟨i, hi, rfl, hbw, HA2⟩ := hrel
        by_cases hin : i < n3
        · have j1 : (i : Int) < (n3 : Int) := by omega
          have HA3 := Lib.hid (show ∃ m', n3 = m'.length ∧ RInv W m wr A3 e3 m' ∧ SB m' i i from by obtain ⟨m', a, b, c⟩ := HA2.out; exact ⟨m', a, b, c.start⟩)
          have HBI := Lib.hid hbw
          go_wp2
          go_loopg [11] i (fun gg s11 wx => s11 = .int .i64 ((gg : Nat) : Int) ∧ gg ≤ i ∧ Below W.heap.size W wx ∧ Aside (∃ m', n3 = m'.length ∧ RInv W m wx A3 e3 m' ∧ SB m' gg i))
          case atStart => exact ⟨rfl, Nat.le_refl _, HBI.out, HA3.out⟩
          case round =>
            obtain ⟨rfl, hki, hbw2, HB3⟩ := hrel
            obtain ⟨m', hm', hR, hSB⟩ := HB3.out
            have HRI := Lib.hid hR
            have HSB := Lib.hid hSB
            have HM' := Lib.hid hm'
            cases gk with
            | zero =>
              have HSS := Lib.hid (show SS m' (i + 1) from HSB.out.zero)
              clear hR hSB hm'
              go_wp2
              go_quiet (fail)
              go_wp2
              go_roundg (n3 - (i + 1))
              case measure => go_light; omega
              case rel =>
                go_light
                have hd := below_drewN (Below.refl wr.heap.size wr) nq
                exact ⟨i + 1, by omega, by go_num, (HRI.out.next hd).below, m', HM'.out, HRI.out.next hd, HSS.out⟩
            | succ j =>
              obtain ⟨g3, hg3⟩ := hR.addr (by omega)
              have hjm : j < m'.length := by omega
              have hjm1 : j + 1 < m'.length := by omega
              subst hg3
              obtain ⟨c0, c1⟩ := hR.own.cell2 (j + 1) hjm1
              obtain ⟨d0, d1⟩ := hR.own.cell2 j hjm
              have P1 := hR.own.parts _ (List.getElem_mem hjm1)
              have P0 := hR.own.parts _ (List.getElem_mem hjm)
              have K1 := HOKM.out _ (hR.perm.mem_iff.1 (List.getElem_mem hjm1))
              have K0 := HOKM.out _ (hR.perm.mem_iff.1 (List.getElem_mem hjm))
              have ht1 := fun (w' : World) (hb : Below wr.heap.size wr w') => rtext_any m'[j + 1].A m'[j + 1].xs m'[j + 1].c m'[j + 1].b m'[j + 1].pat w' (P1.keep hb) K1.1 K1.2
              have ht0 := fun (w' : World) (hb : Below wr.heap.size wr w') => rtext_any m'[j].A m'[j].xs m'[j].c m'[j].b m'[j].pat w' (P0.keep hb) K0.1 K0.2
              unfold GivesS at ht1 ht0
              have hlt := (hR.own.lt g3 rfl).2
              have hfz := fun t => hR.own.warm t
              obtain ⟨S, hS⟩ : ∃ S : ByteArray, S = ⟨(Pt.text m'[j + 1].pat).toArray⟩ := ⟨_, rfl⟩
              obtain ⟨T, hT⟩ : ∃ T : ByteArray, T = ⟨(Pt.text m'[j].pat).toArray⟩ := ⟨_, rfl⟩
              rw [← hS] at ht1
              rw [← hT] at ht0
              have HT1 := Lib.hid ht1
              have HT0 := Lib.hid ht0
              have HCC : Hid (Op.bytesLess S.toList T.toList = decide (cbp m'[j + 1] m'[j] < 0)) := Lib.hid (by rw [bytesLess_cb, ByteArray.toList_eq, ByteArray.toList_eq, hS, hT]; rfl)
              have HKE := Lib.hid (fun (w' : World) (hb : Below wr.heap.size wr w') => (⟨(hb.cell (p := ⟨g3, (j + 1) * 2, none⟩) hlt).trans c0, (hb.cell (p := ⟨g3, (j + 1) * 2 + 1, none⟩) hlt).trans c1, (hb.cell (p := ⟨g3, j * 2, none⟩) hlt).trans d0, (hb.cell (p := ⟨g3, j * 2 + 1, none⟩) hlt).trans d1⟩ : w'.cell? ⟨g3, (j + 1) * 2, none⟩ = some (.slice m'[j + 1].A m'[j + 1].xs.length m'[j + 1].c) ∧ w'.cell? ⟨g3, (j + 1) * 2 + 1, none⟩ = some (.bool m'[j + 1].b) ∧ w'.cell? ⟨g3, j * 2, none⟩ = some (.slice m'[j].A m'[j].xs.length m'[j].c) ∧ w'.cell? ⟨g3, j * 2 + 1, none⟩ = some (.bool m'[j].b)))
              have k1 : ¬ (j : Int) + 1 ≤ 0 := by omega
              have k2 : (0 : Int) < (j : Int) + 1 := by omega
              have k3 : (j : Int) + 1 < (n3 : Int) := by omega
              have k4 : (j : Int) < (n3 : Int) := by omega
              have k5 : (0 : Int) ≤ (j : Int) := Int.natCast_nonneg _
              have k6 : (0 : Int) ≤ (j : Int) + 1 := by omega
              have k7 : IntKind.i64.wrap (j : Int) = (j : Int) := IntWalk.i64_in _ (by omega)
              have k8 : IntKind.i64.wrap ((j : Int) + 1 - 1) = (j : Int) := by rw [show (j : Int) + 1 - 1 = (j : Int) by omega]; exact k7
              rw [Int.natCast_succ]
              clear hR hSB hm' P1 P0 K1 K0 ht1 ht0 hS hT
              go_upto_region 13 with fail
              set_option maxRecDepth 100000 in
              go_region_held3 (fun w' => w'.cell? ⟨g3, (j + 1) * 2, none⟩ = some (.slice m'[j + 1].A m'[j + 1].xs.length m'[j + 1].c) ∧ w'.cell? ⟨g3, (j + 1) * 2 + 1, none⟩ = some (.bool m'[j + 1].b) ∧ w'.cell? ⟨g3, j * 2, none⟩ = some (.slice m'[j].A m'[j].xs.length m'[j].c) ∧ w'.cell? ⟨g3, j * 2 + 1, none⟩ = some (.bool m'[j].b))
                (first | exact HKE.out _ b6 | exact HKE.out _ b5 | exact HKE.out _ (below_drew (Below.refl _ _)) | exact HKE.out _ (Below.refl _ _) | go_keep)
                (first
                  | (go_at_call 94; have hcc := HT0.out _ b5; with_reducible refine hcc.mono ?_; intro e w6 hh; obtain ⟨rfl, hb6⟩ := hh
                     have b6 : Below wr.heap.size wr w6 := b5.trans (hb6.mono b5.size))
                  | (go_at_call 94; have hcc := HT1.out _ (below_drew (Below.refl _ _)); with_reducible refine hcc.mono ?_; intro e w5 hh; obtain ⟨rfl, hb5⟩ := hh
                     have b5 : Below wr.heap.size wr w5 := (below_drew (Below.refl _ _)).trans hb5))
              rw [HCC.out]
              have HR6 := Lib.hid (HRI.out.next b6)
              obtain ⟨x0, x1, y0, y1⟩ := HKE.out _ b6
              have f0 : w6.frozen? ⟨g3, (j + 1) * 2, none⟩ = false := HR6.out.own.warm _
              have f1 : w6.frozen? ⟨g3, (j + 1) * 2 + 1, none⟩ = false := HR6.out.own.warm _
              have f2 : w6.frozen? ⟨g3, j * 2, none⟩ = false := HR6.out.own.warm _
              have f3 : w6.frozen? ⟨g3, j * 2 + 1, none⟩ = false := HR6.out.own.warm _
              clear c0 c1 d0 d1
              by_cases hc : cbp m'[j + 1] m'[j] < 0
              · rw [decide_eq_true hc]
                have HSW := Lib.hid (HR6.out.swap (i := j + 1) (j := j) hjm1 hjm)
                have HSB2 := Lib.hid (HSB.out.swap (by omega) hjm1 hki hc)
                clear hc
                go_wp2
                go_region
                go_wp2
                go_roundg j
                case measure => go_light; omega
                case rel =>
                  go_light
                  have hd := HSW.out.next (below_drew (Below.refl _ _))
                  exact ⟨by go_num, by omega, hd.below, _, by simpa using HM'.out, hd, HSB2.out⟩
              · rw [decide_eq_false hc]
                have HSS := Lib.hid (HSB.out.stop (by omega) hjm1 hki hc)
                clear hc
                go_wp2
                go_roundg (n3 - (i + 1))
                case measure => go_light; omega
                case rel =>
                  go_light
                  exact ⟨i + 1, by omega, by go_num, HR6.out.below, m', HM'.out, HR6.out, HSS.out⟩
        · have j1 : ¬ (i : Int) < (n3 : Int) := by omega
          obtain ⟨w8, hw8⟩ : ∃ w8, w8 = wr := ⟨_, rfl⟩
          subst hw8
          obtain ⟨m', hm', hR, hSS⟩ := HA2.out
          have HSS : Hid (SS m' m'.length) := Lib.hid (by
            have e : i = m'.length := by omega
            rw [← e]
            exact hSS)
          have HM' := Lib.hid hm'
          have HR8 := Lib.hid hR
          have HB8 := Lib.hid hbw
          have HPM : Hid ((m'.map BindV.pat).Perm (Pt.Rg.met p (bl.map BindV.pat))) := Lib.hid (by rw [← HACC.out]; exact hR.perm.map _)
          obtain ⟨t0, t1, tl⟩ := HPB.out _ hbw
          obtain ⟨W1, hW1⟩ : ∃ W1, W1 = w8.alloc (regObj A nX c b none 0 0) := ⟨_, rfl⟩
          have hal1 : Below w8.heap.size w8 W1 := by rw [hW1]; exact (Below.refl _ _).alloc (Nat.le_refl _) _
          have hob : GBox W1 w8.heap.size A nX c b none 0 0 := by rw [hW1]; exact GBox.new ..
          have hof : ∀ t, W1.frozen? ⟨w8.heap.size, t, none⟩ = false := fun t => by rw [hW1]; simp [regObj]
          have hz1 : W1.heap.size = w8.heap.size + 1 := by rw [hW1]; simp
          have HAL1 := Lib.hid hal1
          have HOB := Lib.hid hob
          have HOF := Lib.hid hof
          have HRX := Lib.hid (fun (w' : World) (hb : Below w8.heap.size w8 w') => hR.next hb)
          have HWI := Lib.hid (fun (a d : Nat) (ha : a < m'.length) (hd : d < m'.length) (w' : World) (hb : Below w8.heap.size w8 w') => rwithin_any m'[a].A m'[d].A m'[a].xs m'[d].xs m'[a].c m'[d].c m'[a].b m'[d].b m'[a].pat m'[d].pat w' ((hR.next hb).own.parts _ (List.getElem_mem ha)) ((hR.next hb).own.parts _ (List.getElem_mem hd)))
          have HEP := Lib.hid (fun (a d : Nat) (ha : a < m'.length) (hd : d < m'.length) (w' : World) (hb : Below w8.heap.size w8 w') => eq_pats m'[a].A m'[d].A m'[a].xs m'[d].xs m'[a].c m'[d].c m'[a].b m'[d].b m'[a].pat m'[d].pat w' ((hR.next hb).own.parts _ (List.getElem_mem ha)) ((hR.next hb).own.parts _ (List.getElem_mem hd)))
          clear hR hSS hm' hbw hal1 hob hof
          go_wp2
          generalize hwg1 : w8.alloc (regObj A nX c b none 0 0) = V1
          have hWW1 : V1 = W1 := by rw [← hwg1, hW1]
          subst hWW1
          clear hwg1 hW1
          go_loopg [81] n3 (fun gg s81 wx => ∃ (i2 n5 : Nat) (A5 : Option Addr) (e5 : Nat), i2 + gg = n3 ∧ s81 = .int .i64 (i2 : Int) ∧ GBox wx w8.heap.size A nX c b A5 n5 e5 ∧ (∀ t, wx.frozen? ⟨w8.heap.size, t, none⟩ = false) ∧ Below w8.heap.size w8 wx ∧ V1.heap.size ≤ wx.heap.size ∧ Aside (∃ ol, n5 = ol.length ∧ KInv V1 m' wx A5 e5 ol i2))
          case atStart => exact ⟨0, 0, none, 0, by omega, rfl, HOB.out, HOF.out, HAL1.out, Nat.le_refl _, [], rfl, ⟨OwnP.empty _ _, rfl, fun x h => (by cases h), Nat.le_refl _⟩⟩
          case round =>
            obtain ⟨i2, n5, A5, e5, hi2, rfl, hgb, hfz, hbx, hzx, HA5⟩ := hrel
            obtain ⟨ol, hol, hK⟩ := HA5.out
            have HK := Lib.hid hK
            have HOL := Lib.hid hol
            have HGB := Lib.hid hgb
            have HFZ2 := Lib.hid hfz
            have HBX := Lib.hid hbx
            by_cases hin2 : i2 < n3
            · have j2 : (i2 : Int) < (n3 : Int) := by omega
              have hia : i2 < m'.length := by rw [← HM'.out]; exact hin2
              obtain ⟨g3, hg3⟩ := HR8.out.addr (by omega)
              subst hg3
              obtain ⟨c0, c1⟩ := (HRX.out _ hbx).own.cell2 i2 hia
              obtain ⟨W2, hW2⟩ : ∃ W2, W2 = wr.alloc (.cells #[.slice m'[i2].A m'[i2].xs.length m'[i2].c, .bool m'[i2].b] 24) := ⟨_, rfl⟩
              have hal2 : Below wr.heap.size wr W2 := by rw [hW2]; exact (Below.refl _ _).alloc (Nat.le_refl _) _
              have hpb2 : PBox W2 wr.heap.size m'[i2].A m'[i2].xs.length m'[i2].c m'[i2].b := by rw [hW2]; exact PBox.new ..
              have HPB2 := Lib.hid (fun (w' : World) (hb : Below W2.heap.size W2 w') => hpb2.keep hb)
              have HB82 := Lib.hid (hbx.trans (hal2.mono hbx.size))
              have HAL2 := Lib.hid hal2
              have HIA := Lib.hid hia
              have hz8 : w8.heap.size < wr.heap.size := by omega
              clear hgb hfz hbx hK hol hal2 hpb2
              go_wp2
              generalize hwg2 : wr.alloc (.cells #[.slice m'[i2].A m'[i2].xs.length m'[i2].c, .bool m'[i2].b] 24) = V2
              have hWW2 : V2 = W2 := hwg2.symm.trans hW2.symm
              subst hWW2
              clear hwg2 hW2 c0 c1
              obtain ⟨zr, hzr⟩ : ∃ z, z = wr.heap.size := ⟨_, rfl⟩
              have HZR := Lib.hid hzr
              rw [← hzr] at HPB2 hz8 ⊢
              clear hzr
              go_loopg [88, 15] n3 (fun gg s88 s15 wx => ∃ (d : Nat) (kp : Bool), d + gg = n3 ∧ s88 = .int .i64 (d : Int) ∧ s15 = .bool kp ∧ Below V2.heap.size V2 wx ∧ Aside (kp = (List.range d).all fun t => !badP (m'.map BindV.pat) i2 t))
              case atStart => exact ⟨0, true, by omega, rfl, rfl, Below.refl _ _, rfl⟩
              case round =>
                obtain ⟨d, kp, hd, rfl, rfl, hbi, HKP⟩ := hrel
                have HBI := Lib.hid hbi
                have hb8i := HB82.out.trans (hbi.mono HB82.out.size)
                have HB8I := Lib.hid hb8i
                by_cases hdn : d < n3
                · have j3 : (d : Int) < (n3 : Int) := by omega
                  have hda : d < m'.length := by rw [← HM'.out]; exact hdn
                  obtain ⟨d0, d1⟩ := (HRX.out _ hb8i).own.cell2 d hda
                  obtain ⟨W3, hW3⟩ : ∃ W3, W3 = wr.alloc (.cells #[.slice m'[d].A m'[d].xs.length m'[d].c, .bool m'[d].b] 24) := ⟨_, rfl⟩
                  have hal3 : Below wr.heap.size wr W3 := by rw [hW3]; exact (Below.refl _ _).alloc (Nat.le_refl _) _
                  have hpb3 : PBox W3 wr.heap.size m'[d].A m'[d].xs.length m'[d].c m'[d].b := by rw [hW3]; exact PBox.new ..
                  have hbi3 := hbi.trans (hal3.mono hbi.size)
                  have HBI3 := Lib.hid hbi3
                  have HB83 := Lib.hid (hb8i.trans (hal3.mono hb8i.size))
                  have HPB3 := Lib.hid (fun (w' : World) (hb : Below W3.heap.size W3 w') => hpb3.keep hb)
                  obtain ⟨p0, p1, pl⟩ := HPB2.out _ hbi3
                  obtain ⟨q0, q1, ql⟩ := hpb3
                  have HBAD := Lib.hid (bad_at HIA.out hda)
                  have HC := Lib.hid (HWI.out i2 d HIA.out hda W3 HB83.out)
                  have HE := Lib.hid (fun (w' : World) (hb : Below W3.heap.size W3 w') => HEP.out i2 d HIA.out hda w' (HB83.out.trans (hb.mono HB83.out.size)))
                  clear hbi hb8i hal3 hbi3
                  subst hW3
                  by_cases hid : i2 = d
                  · have j4 : ((i2 : Int) == (d : Int)) = true := by rw [beq_iff_eq]; omega
                    have j5 : ((i2 : Int) != (d : Int)) = false := by rw [bne, j4]; rfl
                    have HID2 := Lib.hid hid
                    clear hid HC HE
                    go_wp2
                    go_roundg (n3 - (d + 1))
                    case measure => go_light; omega
                    case rel =>
                      go_light
                      exact ⟨d + 1, kp, by omega, by go_num, rfl, HBI3.out, all_good5 HKP.out (by rw [HID2.out]; exact bad_same _ _)⟩
                  · have j4 : ((i2 : Int) == (d : Int)) = false := by rw [beq_eq_false_iff_ne]; omega
                    have j5 : ((i2 : Int) != (d : Int)) = true := by rw [bne, j4]; rfl
                    have HNE := Lib.hid hid
                    generalize hwv : Pt.within m'[i2].pat m'[d].pat = wv at HC HBAD
                    clear hid hwv
                    go_wp2_with fail
                    with_reducible refine HC.out.mono ?_
                    rintro en u4 ⟨rfl, hb4⟩
                    have HBU := Lib.hid (HBI3.out.trans (hb4.mono HBI3.out.size))
                    have HE4 := Lib.hid (HE.out u4 hb4)
                    obtain ⟨p0', p1', pl'⟩ := HPB2.out _ HBU.out
                    obtain ⟨q0', q1', ql'⟩ := HPB3.out _ hb4
                    clear hb4 p0 p1 pl q0 q1 ql d0 d1
                    cases wv with
                    | false =>
                      go_wp2
                      go_roundg (n3 - (d + 1))
                      case measure => go_light; omega
                      case rel =>
                        go_light
                        exact ⟨d + 1, kp, by omega, by go_num, rfl, HBU.out, all_good5 HKP.out (by rw [HBAD.out]; simp)⟩
                    | true =>
                      by_cases hlt : d < i2
                      · have j6 : (d : Int) < (i2 : Int) := by omega
                        have HLT := Lib.hid hlt
                        clear hlt
                        go_wp2
                        go_roundg (n3 - (d + 1))
                        case measure => go_light; omega
                        case rel =>
                          go_light
                          exact ⟨d + 1, false, by omega, by go_num, rfl, HBU.out, all_bad5 (by rw [HBAD.out]; simp [HLT.out, HNE.out])⟩
                      · have j6 : ¬ (d : Int) < (i2 : Int) := by omega
                        have HLT := Lib.hid hlt
                        generalize hqe : decide (m'[i2].pat = m'[d].pat) = qe at HE4 HBAD
                        clear hqe hlt
                        cases qe with
                        | true =>
                          go_wp2_with fail
                          with_reducible refine HE4.out.mono ?_
                          rintro en u5 ⟨rfl, hb5⟩
                          have HBV := Lib.hid (HBU.out.trans (hb5.mono HBU.out.size))
                          clear hb5
                          go_wp2
                          go_roundg (n3 - (d + 1))
                          case measure => go_light; omega
                          case rel =>
                            go_light
                            exact ⟨d + 1, kp, by omega, by go_num, rfl, HBV.out, all_good5 HKP.out (by rw [HBAD.out]; simp [HLT.out])⟩
                        | false =>
                          go_wp2_with fail
                          with_reducible refine HE4.out.mono ?_
                          rintro en u5 ⟨rfl, hb5⟩
                          have HBV := Lib.hid (HBU.out.trans (hb5.mono HBU.out.size))
                          clear hb5
                          go_wp2
                          go_roundg (n3 - (d + 1))
                          case measure => go_light; omega
                          case rel =>
                            go_light
                            exact ⟨d + 1, false, by omega, by go_num, rfl, HBV.out, all_bad5 (by rw [HBAD.out]; simp [HLT.out, HNE.out])⟩
                · have j3 : ¬ (d : Int) < (n3 : Int) := by omega
                  have hkp : kp = Pt.Rg.keptAt (m'.map BindV.pat) i2 := by
                    rw [HKP.out, kept_bad, List.length_map, ← HM'.out, show d = n3 by omega]
                  have HKT := Lib.hid hkp
                  have hbz := HAL2.out.trans (hbi.mono HAL2.out.size)
                  have HBZ' := Lib.hid hbz
                  have hq8 := Nat.lt_of_lt_of_eq hz8 HZR.out
                  have hqw : w8.heap.size < wr.heap.size := Nat.lt_of_lt_of_le hq8 hbz.size
                  have HQ8 := Lib.hid hq8
                  obtain ⟨z0, z1, z2, zl⟩ := HGB.out
                  have y0 := (hbz.cell (p := ⟨w8.heap.size, 0, none⟩) hq8).trans z0
                  have y1 := (hbz.cell (p := ⟨w8.heap.size, 1, none⟩) hq8).trans z1
                  have y2 := (hbz.cell (p := ⟨w8.heap.size, 2, none⟩) hq8).trans z2
                  have f2 := (hbz.frozen (p := ⟨w8.heap.size, 2, none⟩) hq8).trans (HFZ2.out 2)
                  obtain ⟨p0, p1, pl⟩ := HPB2.out _ hbi
                  have hz1' : w8.heap.size < V1.heap.size := HOB.out.lt
                  have HZ0 := Lib.hid z0
                  have HZ1 := Lib.hid z1
                  clear hkp hbi hb8i hbz z0 z1 z2 zl hq8
                  cases kp with
                  | false =>
                    go_wp2
                    go_roundg (n3 - (i2 + 1))
                    case measure => go_light; omega
                    case rel =>
                      go_light
                      have hg : Below V2.heap.size V2 wr := HBI.out
                      have q1 : Below w8.heap.size w8 wr := HB8I.out
                      exact ⟨i2 + 1, n5, A5, e5, by omega, by go_num, ⟨y0, y1, y2, hqw⟩, fun t => (HBZ'.out.frozen (p := ⟨w8.heap.size, t, none⟩) HQ8.out).trans (HFZ2.out t), q1, Nat.le_trans hzx HBZ'.out.size, ol, HOL.out, HK.out.skip HBZ'.out (HKT.out).symm⟩
                  | true =>
                    have HOO := Lib.hid (HK.out.own.below HBZ'.out)
                    have HNP := Lib.hid (newP wr m'[i2] ((HRX.out _ HB8I.out).own.parts _ (List.getElem_mem HIA.out)))
                    have HLOW : Hid (∀ gg, (Value.slice A5 ol.length e5).ownBlock = some gg → V1.heap.size ≤ gg) := Lib.hid fun gg h => (HK.out.own.lt gg h).1
                    have HAP : Hid (∀ x ∈ [m'[i2]], ∀ y ∈ adr x.A x.xs, ∀ a, y = some a → (Value.slice A5 ol.length e5).ownBlock ≠ some a.block ∧ a.block < wr.heap.size + 1) := Lib.hid fun x hx y hy a ha => by
                      rw [List.mem_singleton.1 hx] at hy
                      have h1 := (HR8.out.own.apart _ (List.getElem_mem HIA.out) y hy a ha).2
                      exact ⟨fun e9 => by have h2 := HLOW.out _ e9; omega, by omega⟩
                    have hol5 := HK.out.len
                    have hv1 : V1.heap.size ≤ wr.heap.size := Nat.le_trans hzx HBZ'.out.size
                    have HNN : Hid ((ol.length + [m'[i2]].length) * 32 ≤ 140737488355328) := Lib.hid (by simp; omega)
                    have hn5 : n5 = ol.length := HOL.out
                    subst hn5
                    go_wp2_with (refine wpList_append_pt rfl _ _ rfl V1.heap.size (.slice A5 ol.length e5) ol rfl (HOO.out.below ((Below.refl _ _).alloc (Nat.le_refl _) _)) (some ⟨wr.heap.size, 0, none⟩) [m'[i2]] 1 1 rfl rfl HNP.out (by simpa using HAP.out) HNN.out (by simp; omega) ?_; intro v9 w9 hown9 hb9 hg9
                                 obtain ⟨A9, e9, hv9, _⟩ := hown9.form
                                 subst hv9
                                 have HOWN9 := Lib.hid hown9
                                 have HB9 := Lib.hid hb9
                                 have x0 := (hb9.cell (p := ⟨w8.heap.size, 0, none⟩) (by exact hz1')).trans ((Lib.cell?_alloc_some _ y0))
                                 have x1 := (hb9.cell (p := ⟨w8.heap.size, 1, none⟩) (by exact hz1')).trans ((Lib.cell?_alloc_some _ y1))
                                 have x2 := (hb9.cell (p := ⟨w8.heap.size, 2, none⟩) (by exact hz1')).trans ((Lib.cell?_alloc_some _ y2))
                                 have kf2 : w9.frozen? ⟨w8.heap.size, 2, none⟩ = false := (hb9.frozen (p := ⟨w8.heap.size, 2, none⟩) (by exact hz1')).trans ((((Below.refl wr.heap.size wr).alloc (Nat.le_refl _) _).frozen (p := ⟨w8.heap.size, 2, none⟩) (by exact hqw)).trans f2)
                                 clear hown9 hb9 hg9)
                    go_roundg (n3 - (i2 + 1))
                    case measure => go_light; omega
                    case rel =>
                      go_light
                      have hg : w9.grownBy (w9.setCell ⟨w8.heap.size, 2, none⟩ (.slice A9 (ol.length + 1) e9)) (some w8.heap.size) := grown_set _ _ _ _
                      have hal : Below wr.heap.size wr (wr.alloc (.cells #[.slice m'[i2].A m'[i2].xs.length m'[i2].c, .bool m'[i2].b] 24)) := (Below.refl _ _).alloc (Nat.le_refl _) _
                      have h81 : w8.heap.size ≤ V1.heap.size := by omega
                      have b1 : Below w8.heap.size w8 w9 := (HB8I.out.trans (hal.mono (by omega))).trans (HB9.out.mono h81)
                      have b2 := b1.trans (below_row hg (fun k hk => by injection hk with hk; omega) (Nat.le_trans (Nat.le_of_lt hqw) (by have := HB9.out.size; simp at this; omega)))
                      have hs9 : wr.heap.size + 1 ≤ w9.heap.size := by have := HB9.out.size; simpa using this
                      refine ⟨i2 + 1, ol.length + 1, A9, e9, by omega, by go_num, ⟨?_, ?_, ?_, ?_⟩, fun t => ?_, b2, ?_, ol ++ [m'[i2]], by simp, HK.out.add HIA.out HKT.out.symm (HOWN9.out.aside hg (fun k hk => ?_) (fun x hx y hy a ha => ?_))⟩
                      · exact (World.cell?_setCell_other _ _ _ _ (by simp)).trans x0
                      · exact (World.cell?_setCell_other _ _ _ _ (by simp)).trans x1
                      · exact World.cell?_setCell_same _ _ _ x2
                      · simp [World.setCell]; omega
                      · have h := ((HB9.out.frozen (p := ⟨w8.heap.size, t, none⟩) hz1').trans (hal.frozen (p := ⟨w8.heap.size, t, none⟩) hqw)).trans ((HBZ'.out.frozen (p := ⟨w8.heap.size, t, none⟩) HQ8.out).trans (HFZ2.out t))
                        simpa using h
                      · simp [World.setCell]; omega
                      · have h1 := (HOWN9.out.lt k hk).1
                        omega
                      · have h1 : a.block < w8.heap.size := by
                          rcases List.mem_append.1 hx with hx | hx
                          · exact (HR8.out.own.apart x (HK.out.mem x hx) y hy a ha).2
                          · rw [List.mem_singleton.1 hx] at hy
                            exact (HR8.out.own.apart _ (List.getElem_mem HIA.out) y hy a ha).2
                        omega
            · have j2 : ¬ (i2 : Int) < (n3 : Int) := by omega
              obtain ⟨x0, x1, x2, xl⟩ := hgb
              have hbW := HB8.out.trans (hbx.mono HB8.out.size)
              have HBW2 := Lib.hid hbW
              obtain ⟨z0, z1, z2, zl⟩ := HZB.out _ hbW
              have y0 := HFZ.out _ hbW 0
              have y1 := HFZ.out _ hbW 1
              have y2 := HFZ.out _ hbW 2
              clear hfz hbx hbW hK hol
              go_wp2
              refine bodyPost_ret (v := regV A nX c b A5 n5 e5) (by simp [results, Tryz.results44, go_sem, z0, z1, z2, regV]) rfl ?_
              have hg : wr.grownBy (((wr.setCell ⟨w.heap.size + 1, 0, none⟩ (.slice A nX c)).setCell ⟨w.heap.size + 1, 1, none⟩ (.bool b)).setCell ⟨w.heap.size + 1, 2, none⟩ (.slice A5 n5 e5)) (some (w.heap.size + 1)) := ((grown_set _ _ _ _).trans (grown_set _ _ _ _)).trans (grown_set _ _ _ _)
              have e8 : i2 = m'.length := by have := HM'.out; omega
              have hW2 := HWZ.out
              have h88 := HB8.out.size
              have hV1 := HOB.out.lt
              have hKK := HK.out
              rw [e8] at hKK
              have hsim := hKK.done HPM.out HSS.out
              have hwW := HAL.out.size
              have hA5 : ∀ a, A5 = some a → V1.heap.size ≤ a.block ∧ a.block < wr.heap.size := fun a ha => hKK.own.lt a.block (by rw [ha]; rfl)
              have hfx : ∀ x ∈ ol, FreshA W wr x.A := fun x hx => (HR8.out.fresh x (hKK.mem x hx)).more (by omega)
              refine ⟨A5, ol, e5, by rw [HX.out, HOL.out], ⟨(HPP.out _ HBW2.out).grownA hg fun y hy a ha => ⟨fun e2 => ?_, ((HPP.out _ HBW2.out).adr_lt y hy a ha)⟩, hKK.own.rdB.grownQ hg (fun a ha e2 => ?_) (fun x hx a ha e2 => ?_), hsim⟩, ?_, fun a ha => ?_, fun x hx a ha => ?_⟩
              · have h1 := HPA.out y hy a ha
                injection e2 with e2
                omega
              · have h1 := (hA5 a ha).1
                omega
              · have h1 := (hfx x hx a ha).1
                omega
              · exact (HAL.out.trans (HBW2.out.mono hwW)).trans (below_row hg (fun k hk => by injection hk with hk; omega) (Nat.le_trans hwW HBW2.out.size))
              · have h1 := hA5 a ha
                exact ⟨by omega, Nat.lt_of_lt_of_le h1.2 hg.size⟩
              · have h1 := hfx x hx a ha
                exact ⟨by omega, Nat.lt_of_lt_of_le h1.2 hg.size⟩
end Go.Proofs.YtembmegllpkmfaaGreatDoor
