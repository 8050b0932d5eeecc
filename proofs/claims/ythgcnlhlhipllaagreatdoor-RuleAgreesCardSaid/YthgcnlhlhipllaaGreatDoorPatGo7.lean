/- The contracts of the program's narrower and of slices.Clone; words for the program's Meet. -/
import Derived.Test.YthgcnlhlhipllaaGreatDoorPatGo5
import Derived.Test.YthgcnlhlhipllaaGreatDoorPatFn11
namespace Go.Proofs.YthgcnlhlhipllaaGreatDoor
open Go.RowKit

theorem narrower_any (x y : ByteArray) (w : World) (hx : x.size ≤ maxLen) (hy : y.size ≤ maxLen) : Calls Tryz.prog 124 #[.string x, .string y] w fun e w' => e = .returned (.tuple #[.string (if (Pt.narrO x.data.toList y.data.toList).isSome then y else x), .bool ((Pt.narrO x.data.toList y.data.toList).isSome || (Pt.narrO y.data.toList x.data.toList).isSome)]) ∧ w = w' := by
  have H1 := Lib.hid (fun w : World => narrowing_any x y w hx hy)
  have H2 := Lib.hid (fun w : World => narrowing_any y x w hy hx)
  generalize Pt.narrO x.data.toList y.data.toList = a at H1 ⊢
  generalize Pt.narrO y.data.toList x.data.toList = b at H2 ⊢
  cases a with
  | some u =>
    go_enter Tryz.func124, Tryz.ntmps124
    go_wp2_with fail
    with_reducible refine (H1.out _).mono ?_
    rintro e w' ⟨q, rfl, _, rfl⟩
    go_wp2
    go_ret2
    exact ⟨rfl, rfl⟩
  | none =>
    go_enter Tryz.func124, Tryz.ntmps124
    go_wp2_with fail
    with_reducible refine (H1.out _).mono ?_
    rintro e w' ⟨q, rfl, _, rfl⟩
    go_wp2_with fail
    with_reducible refine (H2.out _).mono ?_
    rintro e w' ⟨q2, rfl, _, rfl⟩
    go_wp2
    go_ret2
    exact ⟨rfl, rfl⟩

theorem clone_any (A : Option Addr) (xs : List ByteArray) (c : Nat) (w : World) (hr : RdS w w.heap.size A xs) (h1 : 1 ≤ xs.length) (h2 : xs.length ≤ 1000000) :
    Calls Tryz.prog 107 #[.slice A xs.length c] w fun e w' => ∃ g cap, e = .returned (.slice (some ⟨g, 0, none⟩) xs.length cap) ∧ OwnS w' w.heap.size (.slice (some ⟨g, 0, none⟩) xs.length cap) xs ∧ w.heap.size ≤ g ∧ g < w'.heap.size ∧ xs.length ≤ cap ∧ cap ≤ maxLen ∧ Below w.heap.size w w' := by
  obtain ⟨g, o, rfl, hg, hcell⟩ := hr.cells (by omega)
  refine (Tryz.slices_Clone_string g o xs.length c xs w (Nat.le_refl _) (by omega) (fun j hj => ?_)).mono ?_
  · rw [hcell j hj, List.getD_eq_getElem?_getD, List.getElem?_eq_getElem hj]
    rfl
  · rintro e w' ⟨v, rfl, hown, _, hb⟩
    rw [List.take_of_length_le (Nat.le_refl _)] at hown
    have ho : OwnS w' w.heap.size v xs := hown
    rcases hown.2 with ⟨_, hn⟩ | ⟨g2, cap, cur, hv, hbg, hg2, hnc, hcm, _, _⟩
    · omega
    · subst hv
      exact ⟨g2, cap, rfl, ho, hbg, (Array.getElem?_eq_some_iff.1 hg2).1, hnc, hcm, hb⟩

theorem svs_set (xs : List ByteArray) (k : Nat) (x : ByteArray) : svs (xs.set k x) = (svs xs).set k (.string x) := by simp [svs, List.map_set]
theorem bs_set (xs : List ByteArray) (k : Nat) (x : ByteArray) : bs (xs.set k x) = (bs xs).set k x.data.toList := by simp [bs, List.map_set]
theorem OwnS.set {w : World} {base g n cap : Nat} {xs : List ByteArray} (h : OwnS w base (.slice (some ⟨g, 0, none⟩) n cap) xs) (hn : n = xs.length) (k : Nat) (x : ByteArray) :
    OwnS (w.setCell ⟨g, k, none⟩ (.string x)) base (.slice (some ⟨g, 0, none⟩) n cap) (xs.set k x) := by
  subst hn
  unfold OwnS at h ⊢
  rw [List.length_set, svs_set]
  exact (World.ownsRow.stored h k _).1
theorem OwnS.cellAt {w : World} {base g n cap : Nat} {xs : List ByteArray} (h : OwnS w base (.slice (some ⟨g, 0, none⟩) n cap) xs) (k : Nat) (hk : k < xs.length) : w.cell? ⟨g, 0 + k, none⟩ = some (.string xs[k]) := by
  have := World.ownsRow.cells h (g := g) rfl k (.string xs[k]) (by simp [svs, List.getElem?_eq_getElem hk])
  rwa [add_plain] at this
theorem OwnS.freeAt {w : World} {base g n cap : Nat} {xs : List ByteArray} (h : OwnS w base (.slice (some ⟨g, 0, none⟩) n cap) xs) (hn : n = xs.length) (k : Nat) : w.frozen? ⟨g, 0 + k, none⟩ = false := by
  subst hn
  rw [Nat.zero_add]
  exact World.ownsRow.frozenAt h k
theorem set_append (ms l : List (List UInt8)) (k : Nat) (x : List UInt8) (h : ms.length = k) (hk : k < l.length) : (ms ++ l.drop k).set k x = (ms ++ [x]) ++ l.drop (k + 1) := by
  subst h
  rw [List.set_append_right _ _ (Nat.le_refl _), Nat.sub_self, List.drop_eq_getElem_cons hk, List.set_cons_zero]
  simp

/-- The two variables short and long, wherever they lie. -/
structure Two (w wx : World) (pv qv : Value) (g h : Nat) (A B : Option Addr) (c d n m : Nat) (b f : Bool) : Prop where
  pv : pv = .pointer (some ⟨g, 0, none⟩)
  qv : qv = .pointer (some ⟨h, 0, none⟩)
  e0 : wx.cell? ⟨g, 0, none⟩ = some (.slice A n c)
  e1 : wx.cell? ⟨g, 1, none⟩ = some (.bool b)
  e2 : wx.cell? ⟨h, 0, none⟩ = some (.slice B m d)
  e3 : wx.cell? ⟨h, 1, none⟩ = some (.bool f)
  f0 : ∀ k, wx.frozen? ⟨g, k, none⟩ = false
  f2 : ∀ k, wx.frozen? ⟨h, k, none⟩ = false
  gh : g ≠ h
  gw : w.heap.size + 1 + 1 < g
  hw : w.heap.size + 1 + 1 < h
  d0 : wx.cell? ⟨w.heap.size, 0, none⟩ = some (.slice A n c)
  d1 : wx.cell? ⟨w.heap.size, 1, none⟩ = some (.bool b)
  d2 : wx.cell? ⟨w.heap.size + 1, 0, none⟩ = some (.slice B m d)
  d3 : wx.cell? ⟨w.heap.size + 1, 1, none⟩ = some (.bool f)
  e4 : wx.cell? ⟨w.heap.size + 1 + 1, 0, none⟩ = some (.slice none 0 0)
  e5 : wx.cell? ⟨w.heap.size + 1 + 1, 1, none⟩ = some (.bool false)
  f4 : ∀ k, wx.frozen? ⟨w.heap.size + 1 + 1, k, none⟩ = false
  below : Below w.heap.size w wx
  hg : g < wx.heap.size
  hh : h < wx.heap.size
theorem swap2 {W W' : World} {g h : Nat} {v0 v1 v2 v3 u0 u1 u2 u3 : Value} (gh : g ≠ h) (h0 : W.cell? ⟨g, 0, none⟩ = some v0) (h1 : W.cell? ⟨g, 1, none⟩ = some v1) (h2 : W.cell? ⟨h, 0, none⟩ = some v2) (h3 : W.cell? ⟨h, 1, none⟩ = some v3)
    (e : W' = (((W.setCell ⟨g, 0, none⟩ u0).setCell ⟨g, 1, none⟩ u1).setCell ⟨h, 0, none⟩ u2).setCell ⟨h, 1, none⟩ u3) :
    W'.cell? ⟨g, 0, none⟩ = some u0 ∧ W'.cell? ⟨g, 1, none⟩ = some u1 ∧ W'.cell? ⟨h, 0, none⟩ = some u2 ∧ W'.cell? ⟨h, 1, none⟩ = some u3 ∧
    (∀ r k, r ≠ g → r ≠ h → W'.cell? ⟨r, k, none⟩ = W.cell? ⟨r, k, none⟩) ∧ (∀ r k, W'.frozen? ⟨r, k, none⟩ = W.frozen? ⟨r, k, none⟩) := by
  subst e
  have o := fun (w : World) (p a : Addr) (v : Value) (h : p ≠ a) => World.cell?_setCell_other w p a v h
  refine ⟨?_, ?_, ?_, ?_, fun r k hr hh => ?_, fun r k => ?_⟩
  · rw [o _ _ _ _ (by first | (simp; done) | simp [Ne.symm gh]), o _ _ _ _ (by first | (simp; done) | simp [Ne.symm gh]), o _ _ _ _ (by simp)]
    exact World.cell?_setCell_same W _ u0 h0
  · rw [o _ _ _ _ (by first | (simp; done) | simp [Ne.symm gh]), o _ _ _ _ (by first | (simp; done) | simp [Ne.symm gh])]
    exact World.cell?_setCell_same _ _ u1 ((o _ _ _ _ (by simp)).trans h1)
  · rw [o _ _ _ _ (by simp)]
    exact World.cell?_setCell_same _ _ u2 ((o _ _ _ _ (by first | (simp; done) | simp [gh])).trans ((o _ _ _ _ (by first | (simp; done) | simp [gh])).trans h2))
  · exact World.cell?_setCell_same _ _ u3 ((o _ _ _ _ (by simp)).trans ((o _ _ _ _ (by first | (simp; done) | simp [gh])).trans ((o _ _ _ _ (by first | (simp; done) | simp [gh])).trans h3)))
  · rw [o _ _ _ _ (by first | (simp; done) | simp [Ne.symm hh]), o _ _ _ _ (by first | (simp; done) | simp [Ne.symm hh]), o _ _ _ _ (by first | (simp; done) | simp [Ne.symm hr]), o _ _ _ _ (by first | (simp; done) | simp [Ne.symm hr])]
  · simp [go_sem]

/-- What the program's Meet knows when the shorter pattern stands first: the boxes and what the answer is. -/
structure Short (w wx : World) (o : Option Pt.Pat) (g h : Nat) (A B : Option Addr) (xs ys : List ByteArray) (c d n m : Nat) (b f : Bool) (p q : Pt.Pat) : Prop where
  rdA : RdS w w.heap.size A xs
  rdB : RdS w w.heap.size B ys
  pa : bs xs = p.parts
  pb : bs ys = q.parts
  sa : ∀ x ∈ xs, x.size ≤ maxLen
  sb : ∀ x ∈ ys, x.size ≤ maxLen
  qa : ∀ x ∈ p.parts, Pt.part x = true
  qb : ∀ x ∈ q.parts, Pt.part x = true
  nc : n ≤ c
  md : m ≤ d
  cm : (c : Int) ≤ 9223372036854775807
  dm : (d : Int) ≤ 9223372036854775807
  na : n = xs.length
  mb : m = ys.length
  nm : n ≤ m
  m12 : m ≤ 12
  n1 : 1 ≤ n
  e0 : wx.cell? ⟨g, 0, none⟩ = some (.slice A n c)
  e1 : wx.cell? ⟨g, 1, none⟩ = some (.bool b)
  e2 : wx.cell? ⟨h, 0, none⟩ = some (.slice B m d)
  e3 : wx.cell? ⟨h, 1, none⟩ = some (.bool f)
  e4 : wx.cell? ⟨w.heap.size + 1 + 1, 0, none⟩ = some (.slice none 0 0)
  e5 : wx.cell? ⟨w.heap.size + 1 + 1, 1, none⟩ = some (.bool false)
  f4 : wx.frozen? ⟨w.heap.size + 1 + 1, 0, none⟩ = false
  f5 : wx.frozen? ⟨w.heap.size + 1 + 1, 1, none⟩ = false
  below : Below w.heap.size w wx
  hg : g < wx.heap.size
  hh : h < wx.heap.size
  hz : w.heap.size + 1 + 1 < wx.heap.size
  ho : o = if (decide (n < m) && !b) || (decide (m = n) && (f != b)) then none else (Pt.meetOf q.parts p.parts).map fun l => ⟨l, f⟩
theorem meetLong_eq {p q : Pt.Pat} {n m : Nat} {b f : Bool} (h1 : p.parts.length = n) (h2 : q.parts.length = m) (hb : b = p.rest) (hf : f = q.rest) :
    Pt.meetLong q p = if (decide (n < m) && !b) || (decide (m = n) && (f != b)) then none else (Pt.meetOf q.parts p.parts).map fun l => ⟨l, f⟩ := by
  unfold Pt.meetLong
  rw [h1, h2, ← hb, ← hf]
end Go.Proofs.YthgcnlhlhipllaaGreatDoor
