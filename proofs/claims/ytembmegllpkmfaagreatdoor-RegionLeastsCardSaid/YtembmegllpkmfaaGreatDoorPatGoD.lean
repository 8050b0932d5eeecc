/- The contracts of the program's narrower and of slices.Clone; words for the program's Meet. The contract of the program's Meet. -/
import Derived.Test.YtembmegllpkmfaaGreatDoorPatGoB
import Derived.Test.YtembmegllpkmfaaGreatDoorPatFnC
namespace Go.Proofs.YtembmegllpkmfaaGreatDoor
open Go.RowKit

theorem narrower_any (x y : ByteArray) (w : World) (hx : x.size ≤ maxLen) (hy : y.size ≤ maxLen) : Calls Tryz.prog 91 #[.string x, .string y] w fun e w' => e = .returned (.tuple #[.string (if (Pt.narrO x.data.toList y.data.toList).isSome then y else x), .bool ((Pt.narrO x.data.toList y.data.toList).isSome || (Pt.narrO y.data.toList x.data.toList).isSome)]) ∧ w = w' := by
  have H1 := Lib.hid (fun w : World => narrowing_any x y w hx hy)
  have H2 := Lib.hid (fun w : World => narrowing_any y x w hy hx)
  generalize Pt.narrO x.data.toList y.data.toList = a at H1 ⊢
  generalize Pt.narrO y.data.toList x.data.toList = b at H2 ⊢
  cases a with
  | some u =>
    go_enter Tryz.func91, Tryz.ntmps91
    go_wp2_with fail
    with_reducible refine (H1.out _).mono ?_
    rintro e w' ⟨q, rfl, _, rfl⟩
    go_wp2
    go_ret2
    exact ⟨rfl, rfl⟩
  | none =>
    go_enter Tryz.func91, Tryz.ntmps91
    go_wp2_with fail
    with_reducible refine (H1.out _).mono ?_
    rintro e w' ⟨q, rfl, _, rfl⟩
    go_wp2_with fail
    with_reducible refine (H2.out _).mono ?_
    rintro e w' ⟨q2, rfl, _, rfl⟩
    go_wp2
    go_ret2
    exact ⟨rfl, rfl⟩

theorem clone_any (A : Option Addr) (xs : List ByteArray) (c : Nat) (w : World) (hr : RdS w w.heap.size A xs) (h1 : 1 ≤ xs.length) (h2 : xs.length ≤ 1000000) :
    Calls Tryz.prog 72 #[.slice A xs.length c] w fun e w' => ∃ g cap, e = .returned (.slice (some ⟨g, 0, none⟩) xs.length cap) ∧ OwnS w' w.heap.size (.slice (some ⟨g, 0, none⟩) xs.length cap) xs ∧ w.heap.size ≤ g ∧ g < w'.heap.size ∧ xs.length ≤ cap ∧ cap ≤ maxLen ∧ Below w.heap.size w w' := by
  obtain ⟨g, o, rfl, hg, hcell⟩ := hr.cells (by omega)
  refine (Tryz.slices_Clone_string g o xs.length c xs w (Nat.le_refl _) (by omega) (fun j hj => ?_)).mono ?_
  · rw [hcell j hj, List.getD_eq_getElem?_getD, List.getElem?_eq_getElem hj]
    rfl
  · rintro e w' ⟨v, rfl, hown, _, hb⟩
    rw [List.take_of_length_le (Nat.le_refl _)] at hown
    have ho : OwnS w' w.heap.size v xs := hown
    rcases hown.2 with ⟨_, hn⟩ | ⟨g2, cap, cur, hv, hbg, hg2, hnc, hcm, _, _⟩
    · omega
    · subst hv
      exact ⟨g2, cap, rfl, ho, hbg, (Array.getElem?_eq_some_iff.1 hg2).1, hnc, hcm, hb⟩

theorem svs_set (xs : List ByteArray) (k : Nat) (x : ByteArray) : svs (xs.set k x) = (svs xs).set k (.string x) := by simp [svs, List.map_set]
theorem bs_set (xs : List ByteArray) (k : Nat) (x : ByteArray) : bs (xs.set k x) = (bs xs).set k x.data.toList := by simp [bs, List.map_set]
theorem OwnS.set {w : World} {base g n cap : Nat} {xs : List ByteArray} (h : OwnS w base (.slice (some ⟨g, 0, none⟩) n cap) xs) (hn : n = xs.length) (k : Nat) (x : ByteArray) :
    OwnS (w.setCell ⟨g, k, none⟩ (.string x)) base (.slice (some ⟨g, 0, none⟩) n cap) (xs.set k x) := by
  subst hn
  unfold OwnS at h ⊢
  rw [List.length_set, svs_set]
  exact (World.ownsRow.stored h k _).1
theorem OwnS.cellAt {w : World} {base g n cap : Nat} {xs : List ByteArray} (h : OwnS w base (.slice (some ⟨g, 0, none⟩) n cap) xs) (k : Nat) (hk : k < xs.length) : w.cell? ⟨g, 0 + k, none⟩ = some (.string xs[k]) := by
  have := World.ownsRow.cells h (g := g) rfl k (.string xs[k]) (by simp [svs, List.getElem?_eq_getElem hk])
  rwa [add_plain] at this
theorem OwnS.freeAt {w : World} {base g n cap : Nat} {xs : List ByteArray} (h : OwnS w base (.slice (some ⟨g, 0, none⟩) n cap) xs) (hn : n = xs.length) (k : Nat) : w.frozen? ⟨g, 0 + k, none⟩ = false := by
  subst hn
  rw [Nat.zero_add]
  exact World.ownsRow.frozenAt h k
theorem set_append (ms l : List (List UInt8)) (k : Nat) (x : List UInt8) (h : ms.length = k) (hk : k < l.length) : (ms ++ l.drop k).set k x = (ms ++ [x]) ++ l.drop (k + 1) := by
  subst h
  rw [List.set_append_right _ _ (Nat.le_refl _), Nat.sub_self, List.drop_eq_getElem_cons hk, List.set_cons_zero]
  simp

/-- The two variables short and long, wherever they lie. -/
structure Two (w wx : World) (pv qv : Value) (g h : Nat) (A B : Option Addr) (c d n m : Nat) (b f : Bool) : Prop where
  pv : pv = .pointer (some ⟨g, 0, none⟩)
  qv : qv = .pointer (some ⟨h, 0, none⟩)
  e0 : wx.cell? ⟨g, 0, none⟩ = some (.slice A n c)
  e1 : wx.cell? ⟨g, 1, none⟩ = some (.bool b)
  e2 : wx.cell? ⟨h, 0, none⟩ = some (.slice B m d)
  e3 : wx.cell? ⟨h, 1, none⟩ = some (.bool f)
  f0 : ∀ k, wx.frozen? ⟨g, k, none⟩ = false
  f2 : ∀ k, wx.frozen? ⟨h, k, none⟩ = false
  gh : g ≠ h
  gw : w.heap.size + 1 + 1 < g
  hw : w.heap.size + 1 + 1 < h
  d0 : wx.cell? ⟨w.heap.size, 0, none⟩ = some (.slice A n c)
  d1 : wx.cell? ⟨w.heap.size, 1, none⟩ = some (.bool b)
  d2 : wx.cell? ⟨w.heap.size + 1, 0, none⟩ = some (.slice B m d)
  d3 : wx.cell? ⟨w.heap.size + 1, 1, none⟩ = some (.bool f)
  e4 : wx.cell? ⟨w.heap.size + 1 + 1, 0, none⟩ = some (.slice none 0 0)
  e5 : wx.cell? ⟨w.heap.size + 1 + 1, 1, none⟩ = some (.bool false)
  f4 : ∀ k, wx.frozen? ⟨w.heap.size + 1 + 1, k, none⟩ = false
  below : Below w.heap.size w wx
  hg : g < wx.heap.size
  hh : h < wx.heap.size
theorem swap2 {W W' : World} {g h : Nat} {v0 v1 v2 v3 u0 u1 u2 u3 : Value} (gh : g ≠ h) (h0 : W.cell? ⟨g, 0, none⟩ = some v0) (h1 : W.cell? ⟨g, 1, none⟩ = some v1) (h2 : W.cell? ⟨h, 0, none⟩ = some v2) (h3 : W.cell? ⟨h, 1, none⟩ = some v3)
    (e : W' = (((W.setCell ⟨g, 0, none⟩ u0).setCell ⟨g, 1, none⟩ u1).setCell ⟨h, 0, none⟩ u2).setCell ⟨h, 1, none⟩ u3) :
    W'.cell? ⟨g, 0, none⟩ = some u0 ∧ W'.cell? ⟨g, 1, none⟩ = some u1 ∧ W'.cell? ⟨h, 0, none⟩ = some u2 ∧ W'.cell? ⟨h, 1, none⟩ = some u3 ∧
    (∀ r k, r ≠ g → r ≠ h → W'.cell? ⟨r, k, none⟩ = W.cell? ⟨r, k, none⟩) ∧ (∀ r k, W'.frozen? ⟨r, k, none⟩ = W.frozen? ⟨r, k, none⟩) := by
  subst e
  have o := fun (w : World) (p a : Addr) (v : Value) (h : p ≠ a) => World.cell?_setCell_other w p a v h
  refine ⟨?_, ?_, ?_, ?_, fun r k hr hh => ?_, fun r k => ?_⟩
  · rw [o _ _ _ _ (by first | (simp; done) | simp [Ne.symm gh]), o _ _ _ _ (by first | (simp; done) | simp [Ne.symm gh]), o _ _ _ _ (by simp)]
    exact World.cell?_setCell_same W _ u0 h0
  · rw [o _ _ _ _ (by first | (simp; done) | simp [Ne.symm gh]), o _ _ _ _ (by first | (simp; done) | simp [Ne.symm gh])]
    exact World.cell?_setCell_same _ _ u1 ((o _ _ _ _ (by simp)).trans h1)
  · rw [o _ _ _ _ (by simp)]
    exact World.cell?_setCell_same _ _ u2 ((o _ _ _ _ (by first | (simp; done) | simp [gh])).trans ((o _ _ _ _ (by first | (simp; done) | simp [gh])).trans h2))
  · exact World.cell?_setCell_same _ _ u3 ((o _ _ _ _ (by simp)).trans ((o _ _ _ _ (by first | (simp; done) | simp [gh])).trans ((o _ _ _ _ (by first | (simp; done) | simp [gh])).trans h3)))
  · rw [o _ _ _ _ (by first | (simp; done) | simp [Ne.symm hh]), o _ _ _ _ (by first | (simp; done) | simp [Ne.symm hh]), o _ _ _ _ (by first | (simp; done) | simp [Ne.symm hr]), o _ _ _ _ (by first | (simp; done) | simp [Ne.symm hr])]
  · simp [go_sem]

/-- What the program's Meet knows when the shorter pattern stands first: the boxes and what the answer is. -/
structure Short (w wx : World) (o : Option Pt.Pat) (g h : Nat) (A B : Option Addr) (xs ys : List ByteArray) (c d n m : Nat) (b f : Bool) (p q : Pt.Pat) : Prop where
  rdA : RdS w w.heap.size A xs
  rdB : RdS w w.heap.size B ys
  pa : bs xs = p.parts
  pb : bs ys = q.parts
  sa : ∀ x ∈ xs, x.size ≤ maxLen
  sb : ∀ x ∈ ys, x.size ≤ maxLen
  qa : ∀ x ∈ p.parts, Pt.part x = true
  qb : ∀ x ∈ q.parts, Pt.part x = true
  nc : n ≤ c
  md : m ≤ d
  cm : (c : Int) ≤ 9223372036854775807
  dm : (d : Int) ≤ 9223372036854775807
  na : n = xs.length
  mb : m = ys.length
  nm : n ≤ m
  m12 : m ≤ 12
  n1 : 1 ≤ n
  e0 : wx.cell? ⟨g, 0, none⟩ = some (.slice A n c)
  e1 : wx.cell? ⟨g, 1, none⟩ = some (.bool b)
  e2 : wx.cell? ⟨h, 0, none⟩ = some (.slice B m d)
  e3 : wx.cell? ⟨h, 1, none⟩ = some (.bool f)
  e4 : wx.cell? ⟨w.heap.size + 1 + 1, 0, none⟩ = some (.slice none 0 0)
  e5 : wx.cell? ⟨w.heap.size + 1 + 1, 1, none⟩ = some (.bool false)
  f4 : wx.frozen? ⟨w.heap.size + 1 + 1, 0, none⟩ = false
  f5 : wx.frozen? ⟨w.heap.size + 1 + 1, 1, none⟩ = false
  below : Below w.heap.size w wx
  hg : g < wx.heap.size
  hh : h < wx.heap.size
  hz : w.heap.size + 1 + 1 < wx.heap.size
  ho : o = if (decide (n < m) && !b) || (decide (m = n) && (f != b)) then none else (Pt.meetOf q.parts p.parts).map fun l => ⟨l, f⟩
theorem meetLong_eq {p q : Pt.Pat} {n m : Nat} {b f : Bool} (h1 : p.parts.length = n) (h2 : q.parts.length = m) (hb : b = p.rest) (hf : f = q.rest) :
    Pt.meetLong q p = if (decide (n < m) && !b) || (decide (m = n) && (f != b)) then none else (Pt.meetOf q.parts p.parts).map fun l => ⟨l, f⟩ := by
  unfold Pt.meetLong
  rw [h1, h2, ← hb, ← hf]
end Go.Proofs.YtembmegllpkmfaaGreatDoor

namespace Go.Proofs.YtembmegllpkmfaaGreatDoor
open Go.RowKit

def FreshA (w w' : World) (A : Option Addr) : Prop := ∀ a, A = some a → w.heap.size ≤ a.block ∧ a.block < w'.heap.size
def GivesPBF (w : World) (o : Option Pt.Pat) (e : Ending) (w' : World) : Prop :=
  ∃ A xs c b, e = .returned (.tuple #[patV A (List.length xs) c b, .bool o.isSome]) ∧ PatR w' A xs c b (o.getD ⟨[], false⟩) ∧ Below w.heap.size w w' ∧ FreshA w w' A
set_option maxHeartbeats 16000000 in
theorem meetF_any (A B : Option Addr) (xs ys : List ByteArray) (c d : Nat) (b f : Bool) (p q : Pt.Pat) (w : World) (hp : PatR w A xs c b p) (hq : PatR w B ys d f q) :
    Calls Tryz.prog 40 #[patV A xs.length c b, patV B ys.length d f] w (GivesPBF w (Pt.meet p q)) := by
  obtain ⟨W0, hW0⟩ : ∃ W0, W0 = ((w.alloc (.cells #[.slice A xs.length c, .bool b] 24)).alloc (.cells #[.slice B ys.length d, .bool f] 24)).alloc (.cells #[.slice none 0 0, .bool false] 24) := ⟨_, rfl⟩
  have halloc : Below w.heap.size w W0 := by rw [hW0]; exact (((Below.refl _ _).alloc (Nat.le_refl _) _).alloc (by simp) _).alloc (by simp; omega) _
  have hp0 := hp.keep halloc
  have hq0 := hq.keep halloc
  have HCp := Lib.hid (fun (w' : World) (hb : Below W0.heap.size W0 w') => check_any A xs c b p w' (hp0.keep hb))
  have HCq := Lib.hid (fun (w' : World) (hb : Below W0.heap.size W0 w') => check_any B ys d f q w' (hq0.keep hb))
  have hv := Pt.meet_short p q
  rw [hp.len, hq.len] at hv
  generalize Pt.meet p q = o at hv
  have h12 : Pt.check p = 0 → xs.length ≤ 12 ∧ 1 ≤ xs.length ∧ ∀ x ∈ p.parts, Pt.part x = true := fun h => by rw [← hp.len]; exact ⟨(Pt.check_ok.1 h).2, Pt.form_pos (Pt.check_ok.1 h).1, Pt.form_parts (Pt.check_ok.1 h).1⟩
  have h12' : Pt.check q = 0 → ys.length ≤ 12 ∧ 1 ≤ ys.length ∧ ∀ x ∈ q.parts, Pt.part x = true := fun h => by rw [← hq.len]; exact ⟨(Pt.check_ok.1 h).2, Pt.form_pos (Pt.check_ok.1 h).1, Pt.form_parts (Pt.check_ok.1 h).1⟩
  have hpq := meetLong_eq hq.len hp.len hq.rest hp.rest
  have hqp := meetLong_eq hp.len hq.len hp.rest hq.rest
  have HRA := Lib.hid hp.rd
  have HRB := Lib.hid hq.rd
  have HPA := Lib.hid hp.parts
  have HPB := Lib.hid hq.parts
  have HXA := Lib.hid hp.sz
  have HXB := Lib.hid hq.sz
  have HCA := Lib.hid hp.cm
  have HCB := Lib.hid hq.cm
  have hlea := hp.le
  have hleb := hq.le
  obtain ⟨n, hn⟩ : ∃ n, n = xs.length := ⟨_, rfl⟩
  obtain ⟨m, hmm⟩ : ∃ m, m = ys.length := ⟨_, rfl⟩
  rw [← hn, ← hmm] at hW0 hv hpq hqp ⊢
  rw [← hn] at hlea HCp h12
  rw [← hmm] at hleb HCq h12'
  have HN := Lib.hid hn
  have HM := Lib.hid hmm
  rw [hpq, hqp] at hv
  generalize Pt.check p = k1 at HCp hv h12
  generalize Pt.check q = k2 at HCq hv h12'
  subst hW0
  have HAL := Lib.hid halloc
  clear hp hq hp0 hq0 hn hmm halloc hpq hqp
  by_cases hk1 : k1 = 0
  · subst hk1
    by_cases hk2 : k2 = 0
    · subst hk2
      obtain ⟨hn12, hn1, hpp⟩ := h12 rfl
      obtain ⟨hm12, hm1, hqq⟩ := h12' rfl
      rw [if_pos ⟨rfl, rfl⟩] at hv
      have HV := Lib.hid hv
      have HPP := Lib.hid hpp
      have HQQ := Lib.hid hqq
      clear hv h12 h12' hpp hqq
      have HCAI := Lib.hid (show (c : Int) ≤ 9223372036854775807 by have := HCA.out; unfold maxLen at this; omega)
      have HCBI := Lib.hid (show (d : Int) ≤ 9223372036854775807 by have := HCB.out; unfold maxLen at this; omega)
      go_enter Tryz.func40, Tryz.ntmps40
      go_wp2_with fail
      with_reducible refine (HCp.out _ (Below.refl _ _)).mono ?_
      rintro e w1 ⟨rfl, hb1⟩
      obtain ⟨c0, c1, c2, c3, c4, c5, f0, f1, f2⟩ := box3_cells hb1
      have hz1 := hb1.size
      have HB1 := Lib.hid hb1
      clear hb1
      simp at hz1
      go_wp2_with fail
      with_reducible refine (HCq.out _ HB1.out).mono ?_
      rintro e w2 ⟨rfl, hb2⟩
      obtain ⟨d0, d1, d2, d3, d4, d5, e0, e1, e2⟩ := box3_cells (HB1.out.trans (hb2.mono HB1.out.size))
      have HB2 := Lib.hid hb2
      have hz2 := hb2.size
      clear hb2 c0 c1 c2 c3 c4 c5 f0 f1 f2
      have HBW := Lib.hid (show Below w.heap.size w w2 from (HAL.out.trans (HB1.out.mono (by simp; omega))).trans (HB2.out.mono (by omega)))
      have hz3 : w.heap.size < w2.heap.size := by omega
      have hz4 : w.heap.size + 1 < w2.heap.size := by omega
      have hz5 : w.heap.size + 1 + 1 < w2.heap.size := by omega
      have HFW := Lib.hid e2
      have hw2 : Below w2.heap.size w2 w2 := Below.refl _ _
      go_upto_region 3 with fail
      go_cut [6, 7] (fun p6 p7 wx => ∃ g h, Two w wx p6 p7 g h A B c d n m b f)
      case first =>
        go_region
        all_goals set_option maxRecDepth 100000 in go_wp2_with fail
        all_goals go_meet
        · obtain ⟨k0, k1, k2, k3⟩ := box2_cells (w := w2) (v0 := .slice A n c) (v1 := .bool b) (u0 := .slice B m d) (u1 := .bool f) (t := 24) (Below.refl _ _)
          have hb : Below w2.heap.size w2 ((w2.alloc (.cells #[.slice A n c, .bool b] 24)).alloc (.cells #[.slice B m d, .bool f] 24)).drew := below_drew (((Below.refl _ _).alloc (Nat.le_refl _) _).alloc (by simp) _)
          exact ⟨w2.heap.size, w2.heap.size + 1, rfl, rfl, k0, k1, k2, k3, fun k => by simp, fun k => by simp, by omega, hz5, by omega,
            (hb.cell (p := ⟨w.heap.size, 0, none⟩) hz3).trans d0, (hb.cell (p := ⟨w.heap.size, 1, none⟩) hz3).trans d1, (hb.cell (p := ⟨w.heap.size + 1, 0, none⟩) hz4).trans d2, (hb.cell (p := ⟨w.heap.size + 1, 1, none⟩) hz4).trans d3, (hb.cell (p := ⟨w.heap.size + 1 + 1, 0, none⟩) hz5).trans d4, (hb.cell (p := ⟨w.heap.size + 1 + 1, 1, none⟩) hz5).trans d5,
            fun k => (hb.frozen (p := ⟨w.heap.size + 1 + 1, k, none⟩) hz5).trans (HFW.out k), HBW.out.trans (hb.mono HBW.out.size), by first | (simp; done) | (simp; omega), by first | (simp; done) | (simp; omega)⟩
        · obtain ⟨k0, k1, k2, k3⟩ := box2_cells (w := w2) (v0 := .slice B m d) (v1 := .bool f) (u0 := .slice A n c) (u1 := .bool b) (t := 24) (Below.refl _ _)
          have hb : Below w2.heap.size w2 ((w2.alloc (.cells #[.slice B m d, .bool f] 24)).alloc (.cells #[.slice A n c, .bool b] 24)).drew := below_drew (((Below.refl _ _).alloc (Nat.le_refl _) _).alloc (by simp) _)
          exact ⟨w2.heap.size + 1, w2.heap.size, rfl, rfl, k2, k3, k0, k1, fun k => by simp, fun k => by simp, by omega, by omega, hz5,
            (hb.cell (p := ⟨w.heap.size, 0, none⟩) hz3).trans d0, (hb.cell (p := ⟨w.heap.size, 1, none⟩) hz3).trans d1, (hb.cell (p := ⟨w.heap.size + 1, 0, none⟩) hz4).trans d2, (hb.cell (p := ⟨w.heap.size + 1, 1, none⟩) hz4).trans d3, (hb.cell (p := ⟨w.heap.size + 1 + 1, 0, none⟩) hz5).trans d4, (hb.cell (p := ⟨w.heap.size + 1 + 1, 1, none⟩) hz5).trans d5,
            fun k => (hb.frozen (p := ⟨w.heap.size + 1 + 1, k, none⟩) hz5).trans (HFW.out k), HBW.out.trans (hb.mono HBW.out.size), by first | (simp; done) | (simp; omega), by first | (simp; done) | (simp; omega)⟩
      case rest =>
        clear d0 d1 d2 d3 d4 d5 e0 e1 e2 hw2 hz1 hz2 hz3 hz4 hz5 HB1 HB2 HBW HFW
        obtain ⟨g, h, T⟩ := hcut
        obtain rfl := T.pv
        obtain rfl := T.qv
        have HT := Lib.hid T
        have t0 := T.e0
        have t1 := T.e1
        have t2 := T.e2
        have t3 := T.e3
        have s0 := T.d0
        have s1 := T.d1
        have s2 := T.d2
        have s3 := T.d3
        have t4 := T.f0
        have t5 := T.f2
        have hgh := T.gh
        have hhg := Ne.symm T.gh
        have hgw := T.gw
        have hhw := T.hw
        have n1 : ¬ g = w.heap.size := by omega
        have n2 : ¬ w.heap.size = g := by omega
        have n3 : ¬ g = w.heap.size + 1 := by omega
        have n4 : ¬ w.heap.size + 1 = g := by omega
        have n5 : ¬ h = w.heap.size := by omega
        have n6 : ¬ w.heap.size = h := by omega
        have n7 : ¬ h = w.heap.size + 1 := by omega
        have n8 : ¬ w.heap.size + 1 = h := by omega
        have n9 : ¬ g = h := hgh
        have n10 : ¬ h = g := hhg
        have hgc := T.hg
        have hhc := T.hh
        clear T
        go_upto_if 30 with fail
        go_cut [] (fun wx => ∃ g' h' A B xs ys c d n m b f p q, g' = g ∧ h' = h ∧ Short w wx o g h A B xs ys c d n m b f p q)
        case first =>
          by_cases hlt : m < n
          · have HLT := Lib.hid hlt
            have hli : (m : Int) < (n : Int) := by omega
            rw [decide_eq_true hlt]
            clear hlt
            set_option maxRecDepth 100000 in go_wp2_with fail
            go_region
            all_goals set_option maxRecDepth 100000 in go_wp2_with fail
            all_goals go_meet
            obtain ⟨q0, q1, q2, q3, q4, q5⟩ := swap2 (W := wc) hgh t0 t1 t2 t3 rfl
            refine ⟨g, h, B, A, ys, xs, d, c, m, n, f, b, q, p, rfl, rfl, HRB.out, HRA.out, HPB.out, HPA.out, HXB.out, HXA.out, HQQ.out, HPP.out, hleb, hlea, HCBI.out, HCAI.out, HM.out, HN.out, by omega, hn12, hm1, q0, q1, q2, q3, (q4 _ 0 (by omega) (by omega)).trans HT.out.e4, (q4 _ 1 (by omega) (by omega)).trans HT.out.e5, (q5 _ 0).trans (HT.out.f4 0), (q5 _ 1).trans (HT.out.f4 1), ?_, ?_, ?_, ?_, ?_⟩
            · exact below_drew ((((HT.out.below.setCell (p := ⟨g, 0, none⟩) (by show w.heap.size ≤ g; omega) _).setCell (p := ⟨g, 1, none⟩) (by show w.heap.size ≤ g; omega) _).setCell (p := ⟨h, 0, none⟩) (by show w.heap.size ≤ h; omega) _).setCell (p := ⟨h, 1, none⟩) (by show w.heap.size ≤ h; omega) _)
            · simpa [World.setCell] using hgc
            · simpa [World.setCell] using hhc
            · have : w.heap.size + 1 + 1 < wc.heap.size := by omega
              simpa [World.setCell] using this
            · rw [HV.out, if_pos HLT.out]
          · have HLT := Lib.hid hlt
            rw [decide_eq_false hlt]
            clear hlt
            set_option maxRecDepth 100000 in go_wp2_with fail
            go_meet
            refine ⟨g, h, A, B, xs, ys, c, d, n, m, b, f, p, q, rfl, rfl, HRA.out, HRB.out, HPA.out, HPB.out, HXA.out, HXB.out, HPP.out, HQQ.out, hlea, hleb, HCAI.out, HCBI.out, HN.out, HM.out, by have := HLT.out; omega, hm12, hn1, t0, t1, t2, t3, HT.out.e4, HT.out.e5, HT.out.f4 0, HT.out.f4 1, HT.out.below, hgc, hhc, by omega, ?_⟩
            rw [HV.out, if_neg HLT.out]
        case rest =>
          clear t0 t1 t2 t3 t4 t5 s0 s1 s2 s3 hgh hhg hgw hhw n1 n2 n3 n4 n5 n6 n7 n8 n9 n10 hgc hhc HT HV HRA HRB HPA HPB HXA HXB HCA HCB hlea hleb HN HM HAL HCp HCq hn12 hm12 hn1 hm1 HCAI HCBI HPP HQQ
          obtain ⟨g', h', A1, B1, xs1, ys1, c1, d1, n1, m1, b1, f1, p1, q1, hge, hhe, H⟩ := hcut
          subst hge hhe
          have HH := Lib.hid H
          have e0 := H.e0
          have e1 := H.e1
          have e2 := H.e2
          have e3 := H.e3
          have e4 := H.e4
          have e5 := H.e5
          have f4 := H.f4
          have f5 := H.f5
          have hgc := H.hg
          have hhc := H.hh
          have hzc := H.hz
          have hnm := H.nm
          have hm12 := H.m12
          have hn1 := H.n1
          have hcs : (o = none ∧ b1 = false ∧ ((n1 : Int) == (m1 : Int)) = false ∧ decide (n1 < m1) = true) ∨ (o = none ∧ (b1 = true ∧ f1 = false ∨ b1 = false ∧ f1 = true) ∧ ((n1 : Int) == (m1 : Int)) = true ∧ decide (n1 < m1) = false) ∨
              (o = ((Pt.meetOf q1.parts p1.parts).map fun l => (⟨l, f1⟩ : Pt.Pat)) ∧ ((b1 = true ∧ ((n1 : Int) == (m1 : Int)) = false ∧ decide (n1 < m1) = true) ∨ (b1 = f1 ∧ ((n1 : Int) == (m1 : Int)) = true ∧ decide (n1 < m1) = false))) := by
            have ho := H.ho
            rcases Nat.lt_or_ge n1 m1 with hlt | hge
            · have g4 : ((n1 : Int) == (m1 : Int)) = false := by rw [beq_eq_false_iff_ne]; omega
              have g5 : decide (n1 < m1) = true := decide_eq_true hlt
              have g6 : decide (m1 = n1) = false := decide_eq_false (by omega)
              rw [g5, g6] at ho
              cases b1 with
              | false => exact .inl ⟨by rw [ho]; rfl, rfl, g4, g5⟩
              | true => exact .inr (.inr ⟨by rw [ho]; rfl, .inl ⟨rfl, g4, g5⟩⟩)
            · have g4 : ((n1 : Int) == (m1 : Int)) = true := by rw [beq_iff_eq]; omega
              have g5 : decide (n1 < m1) = false := decide_eq_false (by omega)
              have g6 : decide (m1 = n1) = true := decide_eq_true (by omega)
              rw [g5, g6] at ho
              cases b1 <;> cases f1
              · exact .inr (.inr ⟨by rw [ho]; rfl, .inr ⟨rfl, g4, g5⟩⟩)
              · exact .inr (.inl ⟨by rw [ho]; rfl, .inr ⟨rfl, rfl⟩, g4, g5⟩)
              · exact .inr (.inl ⟨by rw [ho]; rfl, .inl ⟨rfl, rfl⟩, g4, g5⟩)
              · exact .inr (.inr ⟨by rw [ho]; rfl, .inr ⟨rfl, g4, g5⟩⟩)
          clear H
          rcases hcs with ⟨rfl, rfl, g4, g5⟩ | ⟨rfl, ⟨rfl, rfl⟩ | ⟨rfl, rfl⟩, g4, g5⟩ | ⟨ho, hcs⟩
          iterate 3
            · set_option maxRecDepth 100000 in go_wp2
              refine bodyPost_ret (v := .tuple #[patV none 0 0 false, .bool false]) (by simp [results, Tryz.results40, go_sem, e4, e5]) rfl ⟨none, [], 0, false, rfl, patR_zero _, ?_, fun a h => by cases h⟩
              exact (HH.out.below.setCell (p := ⟨w.heap.size + 1 + 1, 0, none⟩) (by simp; omega) _).setCell (p := ⟨w.heap.size + 1 + 1, 1, none⟩) (by simp; omega) _
          have HO := Lib.hid ho
          clear ho
          have hym : ys1.length = m1 := HH.out.mb.symm
          have HCl := Lib.hid (clone_any B1 ys1 d1 wc ((HH.out.rdB.keep HH.out.below).more HH.out.below.size) (by omega) (by omega))
          rw [hym] at HCl
          have hdm := HH.out.dm
          have hmd : (m1 : Int) ≤ (d1 : Int) := by have := HH.out.md; omega
          have hcm := HH.out.cm
          have hnc : (n1 : Int) ≤ (c1 : Int) := by have := HH.out.nc; omega
          have hff : (f1 != f1) = false := by simp
          rcases hcs with ⟨rfl, g4, g5⟩ | ⟨hbf, g4, g5⟩
          rotate_left
          subst b1
          rotate_left
          all_goals
            set_option maxRecDepth 100000 in go_wp2_with fail
            with_reducible refine HCl.out.mono ?_
            rintro e w4 ⟨r, cap, rfl, hown0, hr1, hr2, hcap, hcapm, hb4⟩
            have x0 := (hb4.cell (p := ⟨g', 0, none⟩) hgc).trans e0
            have x1 := (hb4.cell (p := ⟨g', 1, none⟩) hgc).trans e1
            have x2 := (hb4.cell (p := ⟨h', 0, none⟩) hhc).trans e2
            have x3 := (hb4.cell (p := ⟨h', 1, none⟩) hhc).trans e3
            have HOWN0 := Lib.hid hown0
            have HB4 := Lib.hid hb4
            have HCM := Lib.hid hcapm
            have hz4 := hb4.size
            clear hown0 hb4 hcapm
            set_option maxRecDepth 100000 in go_wp2
            go_loopw [68] (fun iv wr => ∃ (k : Nat) (zs : List ByteArray) (ms : List (List UInt8)), k ≤ n1 ∧ iv = .int .i64 k ∧ OwnS wr wc.heap.size (.slice (some ⟨r, 0, none⟩) m1 cap) zs ∧ zs.length = m1 ∧ bs zs = ms ++ q1.parts.drop k ∧ ms.length = k ∧ (∀ z ∈ zs, z.size ≤ maxLen) ∧ Below wc.heap.size w4 wr ∧ Pt.meetOf q1.parts p1.parts = (Pt.meetOf (q1.parts.drop k) (p1.parts.drop k)).map fun l => ms ++ l) (fun iv _ => n1 - (intOf iv).toNat)
            case atStart => exact ⟨0, ys1, [], by omega, rfl, HOWN0.out, hym, by rw [HH.out.pb]; rfl, rfl, HH.out.sb, Below.refl _ _, by simp⟩
            case round =>
              obtain ⟨k, zs, ms, hkn, rfl, hown, hzl, hbz, hml, hzs, hbr, hmo⟩ := hrel
              have y2 := (hbr.cell (p := ⟨h', 0, none⟩) hhc).trans x2
              have y3 := (hbr.cell (p := ⟨h', 1, none⟩) hhc).trans x3
              have y4 := (hbr.cell (p := ⟨w.heap.size + 1 + 1, 0, none⟩) hzc).trans ((HB4.out.cell (p := ⟨w.heap.size + 1 + 1, 0, none⟩) hzc).trans e4)
              have y5 := (hbr.cell (p := ⟨w.heap.size + 1 + 1, 1, none⟩) hzc).trans ((HB4.out.cell (p := ⟨w.heap.size + 1 + 1, 1, none⟩) hzc).trans e5)
              have y6 := (hbr.frozen (p := ⟨w.heap.size + 1 + 1, 0, none⟩) hzc).trans ((HB4.out.frozen (p := ⟨w.heap.size + 1 + 1, 0, none⟩) hzc).trans f4)
              have y7 := (hbr.frozen (p := ⟨w.heap.size + 1 + 1, 1, none⟩) hzc).trans ((HB4.out.frozen (p := ⟨w.heap.size + 1 + 1, 1, none⟩) hzc).trans f5)
              have hzr := hbr.size
              have HOWN := Lib.hid hown
              have HBR := Lib.hid hbr
              have HBZ := Lib.hid hbz
              have HML := Lib.hid hml
              have HZS := Lib.hid hzs
              have HMO := Lib.hid hmo
              have HZL := Lib.hid hzl
              have HBA := Lib.hid ((HH.out.below.trans (HB4.out.mono HH.out.below.size)).trans (hbr.mono HH.out.below.size))
              clear hown hbr hbz hml hzs hmo
              by_cases hlt : k < n1
              · have hlx : k < xs1.length := by have := HH.out.na; omega
                have hlz : k < zs.length := by omega
                obtain ⟨g0, og, rfl, hg0, hcell⟩ := HH.out.rdA.cells (by omega)
                have k1 := (HBA.out.cell (p := ⟨g0, og + k, none⟩) hg0).trans (hcell k hlx)
                have k2 := HOWN.out.cellAt k hlz
                have k4 := HOWN.out.freeAt HZL.out.symm k
                have k3 := k2
                have k5 := k4
                rw [Nat.zero_add] at k3 k5
                have hlp : k < p1.parts.length := by rw [← HH.out.pa, bs_length]; exact hlx
                have ep : p1.parts[k]'hlp = xs1[k].data.toList := by
                  rw [← bs_get xs1 k hlx]
                  simp only [HH.out.pa]
                have hlq : k < q1.parts.length := by rw [← HH.out.pb, bs_length, hym]; omega
                have eq : q1.parts[k]'hlq = zs[k].data.toList := by
                  rw [← bs_get zs k hlz]
                  simp only [HBZ.out]
                  rw [List.getElem_append_right (by rw [HML.out]; exact Nat.le_refl _)]
                  simp [HML.out]
                have hst := meetOf_step hlq hlp
                have hpx : Pt.part xs1[k].data.toList = true := by rw [← ep]; exact HH.out.qa _ (List.getElem_mem _)
                have hpy : Pt.part zs[k].data.toList = true := by rw [← eq]; exact HH.out.qb _ (List.getElem_mem _)
                rw [ep, eq] at hst
                have HST := Lib.hid hst
                have HSX := Lib.hid (HH.out.sa _ (List.getElem_mem hlx))
                have HSY := Lib.hid (HZS.out _ (List.getElem_mem hlz))
                have hnw := fun w : World => narrower_any xs1[k] zs[k] w HSX.out HSY.out
                rw [Pt.inside_narr hpx hpy, Pt.inside_narr hpy hpx] at hnw
                have HNW := Lib.hid hnw
                have HSE := Lib.hid (fun (x : ByteArray) => by
                  have := set_append ms q1.parts k x.data.toList HML.out hlq
                  rw [← HBZ.out, ← bs_set] at this
                  exact this)
                clear hcell hst ep eq hlp hlq hpx hpy hnw
                generalize xs1[k] = x at *
                generalize zs[k] = y at *
                have i1 : (0 : Int) ≤ (k : Int) := Int.natCast_nonneg _
                have i2 : (k : Int) < (m1 : Int) := by omega
                cases hi : Pt.inside y.data.toList x.data.toList with
                | true =>
                  rw [hi] at HNW HST
                  simp only [if_true, Bool.true_or] at HNW
                  go_wp2_with fail
                  with_reducible refine (HNW.out _).mono ?_
                  rintro e w' ⟨rfl, rfl⟩
                  go_wp2
                  go_roundw
                  case rel =>
                    refine ⟨k + 1, zs.set k y, ms ++ [y.data.toList], by omega, by go_num, HOWN.out.set HZL.out.symm k y, by rw [List.length_set]; exact HZL.out, HSE.out y, by rw [List.length_append, HML.out]; rfl, ?_, HBR.out.setCell (p := ⟨r, k, none⟩) hr1 _, ?_⟩
                    · intro z hz
                      rcases List.mem_or_eq_of_mem_set hz with h | h
                      · exact HZS.out z h
                      · rw [h]; exact HSY.out
                    · rw [HMO.out, HST.out]
                      simp [Function.comp_def]
                  case measure => simp [intOf]; omega
                | false =>
                  rw [hi] at HNW HST
                  cases hi2 : Pt.inside x.data.toList y.data.toList with
                  | true =>
                    rw [hi2] at HNW HST
                    simp only [Bool.false_eq_true, if_false, Bool.false_or] at HNW
                    go_wp2_with fail
                    with_reducible refine (HNW.out _).mono ?_
                    rintro e w' ⟨rfl, rfl⟩
                    go_wp2
                    go_roundw
                    case rel =>
                      refine ⟨k + 1, zs.set k x, ms ++ [x.data.toList], by omega, by go_num, HOWN.out.set HZL.out.symm k x, by rw [List.length_set]; exact HZL.out, HSE.out x, by rw [List.length_append, HML.out]; rfl, ?_, HBR.out.setCell (p := ⟨r, k, none⟩) hr1 _, ?_⟩
                      · intro z hz
                        rcases List.mem_or_eq_of_mem_set hz with h | h
                        · exact HZS.out z h
                        · rw [h]; exact HSX.out
                      · rw [HMO.out, HST.out]
                        simp [Function.comp_def]
                    case measure => simp [intOf]; omega
                  | false =>
                    rw [hi2] at HNW HST
                    simp only [Bool.false_eq_true, if_false, Bool.false_or] at HNW
                    have hon : o = none := by rw [HO.out, HMO.out, HST.out]; rfl
                    subst hon
                    go_wp2_with fail
                    with_reducible refine (HNW.out _).mono ?_
                    rintro e w' ⟨rfl, rfl⟩
                    go_wp2
                    refine bodyPost_ret (v := .tuple #[patV none 0 0 false, .bool false]) (by simp [results, Tryz.results40, go_sem, y4, y5]) rfl ⟨none, [], 0, false, rfl, patR_zero _, ?_, fun a h => by cases h⟩
                    exact (HBA.out.setCell (p := ⟨w.heap.size + 1 + 1, 0, none⟩) (by simp; omega) _).setCell (p := ⟨w.heap.size + 1 + 1, 1, none⟩) (by simp; omega) _
              · obtain rfl : k = n1 := by omega
                have hok : o = some ⟨ms ++ q1.parts.drop k, f1⟩ := by
                  rw [HO.out, HMO.out, List.drop_of_length_le (show p1.parts.length ≤ k by rw [← HH.out.pa, bs_length, ← HH.out.na]; exact Nat.le_refl _), meetOf_none]
                  rfl
                subst hok
                obtain ⟨A', c', hv, h1, h2, h3, h4⟩ := HOWN.out.form
                injection hv with v1 v2 v3
                have HPR := Lib.hid (show PatR wr (some ⟨r, 0, none⟩) zs cap f1 ⟨ms ++ q1.parts.drop k, f1⟩ from ⟨by rw [v1]; exact h3, HBZ.out, rfl, by rw [v3]; exact h1, by rw [v3]; exact h2, by rw [v1, v3]; exact h4, HZS.out⟩)
                clear v1 v2 v3 h1 h2 h3 h4
                go_wp2
                refine bodyPost_ret (v := .tuple #[patV (some ⟨r, 0, none⟩) m1 cap f1, .bool true]) (by simp [results, Tryz.results40, go_sem, y4, y5]) rfl ⟨some ⟨r, 0, none⟩, zs, cap, f1, by rw [HZL.out]; rfl, ?_, ?_, ?_⟩
                · exact HPR.out.store2 _ _ _ _ _ y4 y5 (fun _ h => by cases h) (fun _ h => by cases h)
                · exact (HBA.out.setCell (p := ⟨w.heap.size + 1 + 1, 0, none⟩) (by simp; omega) _).setCell (p := ⟨w.heap.size + 1 + 1, 1, none⟩) (by simp; omega) _
                · intro a ha
                  injection ha with ha
                  subst ha
                  exact ⟨Nat.le_trans HH.out.below.size hr1, by simpa using Nat.lt_of_lt_of_le hr2 hzr⟩
    · have hv0 : o = none := by rw [hv, if_neg]; intro h; exact hk2 h.2
      have t1 : ((k2 : Int) == 0) = false := by rw [beq_eq_false_iff_ne]; omega
      have t2 : ((k2 : Int) != 0) = true := by simpa using (show (k2 : Int) ≠ 0 by omega)
      subst hv0
      clear hv h12 h12' hk2
      go_enter Tryz.func40, Tryz.ntmps40
      go_wp2_with fail
      with_reducible refine (HCp.out _ (Below.refl _ _)).mono ?_
      rintro e w1 ⟨rfl, hb1⟩
      obtain ⟨c0, c1, c2, c3, c4, c5, f0, f1, f2⟩ := box3_cells hb1
      have hz1 := hb1.size
      have HB1 := Lib.hid hb1
      clear hb1
      simp at hz1
      go_wp2_with fail
      with_reducible refine (HCq.out _ HB1.out).mono ?_
      rintro e w2 ⟨rfl, hb2⟩
      obtain ⟨d0, d1, d2, d3, d4, d5, e0, e1, e2⟩ := box3_cells (HB1.out.trans (hb2.mono HB1.out.size))
      have HB2 := Lib.hid hb2
      have hz2 := hb2.size
      clear hb2 c0 c1 c2 c3 c4 c5 f0 f1 f2
      have HBW := Lib.hid (show Below w.heap.size w w2 from (HAL.out.trans (HB1.out.mono (by simp; omega))).trans (HB2.out.mono (by omega)))
      go_wp2
      refine bodyPost_ret (v := .tuple #[patV none 0 0 false, .bool false]) (by simp [results, Tryz.results40, go_sem, d4, d5]) rfl ⟨none, [], 0, false, rfl, patR_zero _, ?_, fun a h => by cases h⟩
      exact (HBW.out.setCell (p := ⟨w.heap.size + 1 + 1, 0, none⟩) (by simp; omega) _).setCell (p := ⟨w.heap.size + 1 + 1, 1, none⟩) (by simp; omega) _
  · have hv0 : o = none := by rw [hv, if_neg]; intro h; exact hk1 h.1
    have t1 : ((k1 : Int) == 0) = false := by rw [beq_eq_false_iff_ne]; omega
    have t2 : ((k1 : Int) != 0) = true := by simpa using (show (k1 : Int) ≠ 0 by omega)
    subst hv0
    clear hv h12 h12' hk1
    go_enter Tryz.func40, Tryz.ntmps40
    go_wp2_with fail
    with_reducible refine (HCp.out _ (Below.refl _ _)).mono ?_
    rintro e w1 ⟨rfl, hb1⟩
    obtain ⟨d0, d1, d2, d3, d4, d5, e0, e1, e2⟩ := box3_cells hb1
    have hz1 := hb1.size
    have HB1 := Lib.hid hb1
    clear hb1
    simp at hz1
    have HBW := Lib.hid (show Below w.heap.size w w1 from HAL.out.trans (HB1.out.mono (by simp; omega)))
    go_wp2
    refine bodyPost_ret (v := .tuple #[patV none 0 0 false, .bool false]) (by simp [results, Tryz.results40, go_sem, d4, d5]) rfl ⟨none, [], 0, false, rfl, patR_zero _, ?_, fun a h => by cases h⟩
    exact (HBW.out.setCell (p := ⟨w.heap.size + 1 + 1, 0, none⟩) (by simp; omega) _).setCell (p := ⟨w.heap.size + 1 + 1, 1, none⟩) (by simp; omega) _
theorem meet_any (A B : Option Addr) (xs ys : List ByteArray) (c d : Nat) (b f : Bool) (p q : Pt.Pat) (w : World) (hp : PatR w A xs c b p) (hq : PatR w B ys d f q) :
    Calls Tryz.prog 40 #[patV A xs.length c b, patV B ys.length d f] w (GivesPB w (Pt.meet p q)) :=
  (meetF_any A B xs ys c d b f p q w hp hq).mono fun e w' h => by
    obtain ⟨A2, xs2, c2, b2, h1, h2, h3, _⟩ := h
    exact ⟨A2, xs2, c2, b2, h1, h2, h3⟩
end Go.Proofs.YtembmegllpkmfaaGreatDoor
