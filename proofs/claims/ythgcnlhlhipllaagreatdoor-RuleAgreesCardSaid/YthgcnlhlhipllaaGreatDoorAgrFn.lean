/- The contracts of the program's starred, determined, agreement, Agree. -/
import Derived.Test.YthgcnlhlhipllaaGreatDoorRulNarAll
import Derived.Test.YthgcnlhlhipllaaGreatDoorAgrMath2
namespace Go.Proofs.YthgcnlhlhipllaaGreatDoor
open Go.RowKit

theorem starred_any (s : ByteArray) (w : World) (h : Pt.part s.data.toList = true) :
    Calls Tryz.prog 141 #[.string s] w fun e w' => e = .returned (.bool (Pt.isStar s.data.toList)) ∧ w' = w := by
  have hne : 0 < s.data.toList.length := by
    rcases Pt.part_cases h with ⟨t, _, h2, _⟩ | ⟨_, h2⟩
    · rw [h2]; simp
    · exact List.length_pos_iff.2 (Pm.comp_ne h2)
  have hz : 0 < s.size := by rw [Lib.size_eq]; exact hne
  have hb : ((((s[0]'hz)).toNat : Int) == 42) = Pt.isStar s.data.toList := by
    have e0 : s[0]'hz = s.data.toList[0] := by simp [ByteArray.getElem_eq_getElem_data]
    rw [e0]
    rcases Pt.part_cases h with ⟨t, h1, h2, _⟩ | ⟨h1, h2⟩
    · have : s.data.toList[0] = 42 := by simp [h2]
      rw [this]
      unfold Pt.isStar
      rw [h1]
      rfl
    · have hc : Pm.nb s.data.toList[0] = true := List.all_eq_true.1 (Pt.comp_nb h2) _ (List.getElem_mem hne)
      unfold Pt.isStar
      rw [h1, Option.isSome_none, beq_eq_false_iff_ne]
      intro e
      have e2 : s.data.toList[0] = 42 := UInt8.toNat_inj.1 (by simpa using Int.ofNat.inj e)
      rw [e2] at hc
      exact absurd hc (by decide)
  generalize Pt.isStar s.data.toList = b at hb ⊢
  clear h hne
  go_enter Tryz.func141, Tryz.ntmps141
  go_wp2
  go_ret
  exact ⟨rfl, rfl⟩

/-- What reads as a slice of strings, one of them overwritten. -/
theorem RdS.setAt {w : World} {K g : Nat} {xs : List ByteArray} (h : RdS w K (some ⟨g, 0, none⟩) xs) (i : Nat) (hi : i < xs.length) (y : ByteArray) : RdS (w.setCell ⟨g, i, none⟩ (.string y)) K (some ⟨g, 0, none⟩) (xs.set i y) := by
  rw [show (⟨g, i, none⟩ : Addr) = ⟨g, 0 + i, none⟩ from by rw [Nat.zero_add]]
  obtain ⟨g', o, hA, hg, hc⟩ := h.cells (by omega)
  injection hA with hA
  injection hA with h1 h2 _
  subst h1
  subst h2
  refine .inr ⟨g, 0, rfl, hg, fun j hj => ?_⟩
  rw [List.length_set] at hj
  by_cases hij : i = j
  · subst hij
    rw [World.cell?_setCell_same _ _ _ (hc i hi)]
    simp
  · rw [World.cell?_setCell_other _ _ _ _ (by intro e; injection e with _ e2 _; omega), hc j hj]
    simp [List.getElem_set_ne hij]
set_option maxHeartbeats 4000000 in
/-- copied, where there are parts: the copy is the call's own. -/
theorem rcopied_own (A : Option Addr) (xs : List ByteArray) (c : Nat) (b : Bool) (p : Pt.Pat) (w : World) (hp : PatR w A xs c b p) (h1 : 1 ≤ xs.length) (hN : xs.length ≤ 1000000) :
    Calls Tryz.prog 137 #[patV A xs.length c b] w (fun e w' => ∃ g cap, e = .returned (patV (some ⟨g, 0, none⟩) xs.length cap b) ∧ PatR w' (some ⟨g, 0, none⟩) xs cap b p ∧ (∀ j, w'.frozen? ⟨g, j, none⟩ = false) ∧ w.heap.size ≤ g ∧ g < w'.heap.size ∧ Below w.heap.size w w') := by
  obtain ⟨W0, hW0⟩ : ∃ W0, W0 = (w.alloc (.cells #[.slice A xs.length c, .bool b] 24)).alloc (.cells #[.slice none 0 0, .bool false] 24) := ⟨_, rfl⟩
  have halloc : Below w.heap.size w W0 := by rw [hW0]; exact ((Below.refl _ _).alloc (Nat.le_refl _) _).alloc (by simp) _
  have HRD := Lib.hid ((hp.keep halloc).rd)
  obtain ⟨c0, c1, c2, c3⟩ := box2_cells (w' := W0) (w := w) (t := 24) (by rw [← hW0]; exact Below.refl _ _)
  have f0 : W0.frozen? ⟨w.heap.size + 1, 0, none⟩ = false := by
    subst hW0
    simp
  have f1 : W0.frozen? ⟨w.heap.size + 1, 1, none⟩ = false := by
    subst hW0
    simp
  have hz : w.heap.size + 1 < W0.heap.size := by rw [hW0]; simp
  have hz2 : w.heap.size + 1 + 1 ≤ W0.heap.size := by omega
  have hz' : w.heap.size < W0.heap.size := by omega
  have HP := Lib.hid hp
  have HAL := Lib.hid halloc
  obtain ⟨n, hn⟩ : ∃ n, n = xs.length := ⟨_, rfl⟩
  have HNN := Lib.hid hN
  have HCL := Lib.hid (clone_any A xs c W0.drew ((hp.keep (below_drew halloc)).rd) h1 hN)
  rw [← hn] at hW0 c0 HCL ⊢
  have HN := Lib.hid hn
  clear hp halloc hN hn h1
  go_enter Tryz.func137, Tryz.ntmps137
  go_wp2_with fail
  generalize hwg : (w.alloc (.cells #[.slice A n c, .bool b] 24)).alloc (.cells #[.slice none 0 0, .bool false] 24) = W
  have hWW : W = W0 := by rw [← hwg, hW0]
  subst hWW
  clear hwg hW0
  go_region_held3 (fun w' => w'.cell? ⟨w.heap.size, 0, none⟩ = some (.slice A n c) ∧ w'.cell? ⟨w.heap.size, 1, none⟩ = some (.bool b))
    (first | exact ⟨(hb.cell (p := ⟨w.heap.size, 0, none⟩) (by exact hz')).trans c0, (hb.cell (p := ⟨w.heap.size, 1, none⟩) (by exact hz')).trans c1⟩ | go_keep)
    ((go_at_call 107; have hcc := HCL.out; with_reducible refine hcc.mono ?_; intro e w' hh; obtain ⟨g, cap, rfl, hf1, hf2, hf3, hf4, hf5, hb⟩ := hh
      have k2 := (hb.cell (p := ⟨w.heap.size + 1, 0, none⟩) (by exact hz)).trans c2
      have k3 := (hb.cell (p := ⟨w.heap.size + 1, 1, none⟩) (by exact hz)).trans c3
      have k4 := (hb.frozen (p := ⟨w.heap.size + 1, 0, none⟩) (by exact hz)).trans f0
      have k5 := (hb.frozen (p := ⟨w.heap.size + 1, 1, none⟩) (by exact hz)).trans f1
      have F1 := Lib.hid hf1
      have F2 := Lib.hid hf2
      have F3 := Lib.hid hf3
      have F4 := Lib.hid hf4
      have F5 := Lib.hid hf5
      clear hf1 hf2 hf3 hf4 hf5))
  go_wp2
  refine bodyPost_ret (v := patV (some ⟨g, 0, none⟩) n cap b) (by simp [results, Tryz.results137, go_sem, k2, k3]) rfl ⟨g, cap, rfl, ?_, ?_, ?_, ?_, ?_⟩
  · have F1o := F1.out
    rw [HN.out] at F1o
    obtain ⟨A', c', hv, hle, hcm, hrd, _⟩ := OwnS.form F1o
    injection hv with hA _ hc
    subst hA
    subst hc
    have h1 : PatR w' (some ⟨g, 0, none⟩) xs cap b p := ⟨hrd, HP.out.parts, HP.out.rest, hle, hcm, (fun h => by cases h), HP.out.sz⟩
    exact h1.store2 _ _ _ _ _ k2 k3 (fun _ h => by cases h) (fun _ h => by cases h)
  · intro j
    have F1o := F1.out
    rw [HN.out] at F1o
    rw [World.frozen?_setCell, World.frozen?_setCell]
    exact World.ownsRow.frozenAt F1o j
  · have := F2.out
    have := HAL.out.size
    show w.heap.size ≤ g
    exact Nat.le_trans HAL.out.size F2.out
  · have := F3.out
    simpa [World.setCell] using this
  · have hb5 : Below w.heap.size w w' := HAL.out.trans (((Below.refl w.heap.size W).trans (show Below w.heap.size W W.drew from ⟨rfl, rfl, rfl, Nat.le_refl _, fun _ _ => rfl⟩)).trans (hb.mono (by show w.heap.size ≤ W.heap.size; omega)))
    exact (hb5.setCell (p := ⟨w.heap.size + 1, 0, none⟩) (by simp) _).setCell (p := ⟨w.heap.size + 1, 1, none⟩) (by simp) _
theorem boxesD (w : World) (ex : Bool) (A : Option Addr) (n c : Nat) (b : Bool) (B : Option Addr) (m d : Nat) (f : Bool) (ex2 : Bool) (A2 : Option Addr) (n2 c2 : Nat) (b2 : Bool) (B2 : Option Addr) (m2 d2 : Nat) (f2 : Bool) :
    FBox ((((w.alloc (rulObj ex A n c b B m d f)).alloc (rulObj ex2 A2 n2 c2 b2 B2 m2 d2 f2)).alloc zeroRul).alloc zeroRul) w.heap.size ex A n c b B m d f ∧ FBox ((((w.alloc (rulObj ex A n c b B m d f)).alloc (rulObj ex2 A2 n2 c2 b2 B2 m2 d2 f2)).alloc zeroRul).alloc zeroRul) (w.heap.size + 1) ex2 A2 n2 c2 b2 B2 m2 d2 f2 ∧ ZRul ((((w.alloc (rulObj ex A n c b B m d f)).alloc (rulObj ex2 A2 n2 c2 b2 B2 m2 d2 f2)).alloc zeroRul).alloc zeroRul) (w.heap.size + 1 + 1) ∧ ZRul ((((w.alloc (rulObj ex A n c b B m d f)).alloc (rulObj ex2 A2 n2 c2 b2 B2 m2 d2 f2)).alloc zeroRul).alloc zeroRul) (w.heap.size + 1 + 1 + 1) := by
  obtain ⟨h1, h2, h3⟩ := boxesC w ex A n c b B m d f ex2 A2 n2 c2 b2 B2 m2 d2 f2
  have hb : Below (((w.alloc (rulObj ex A n c b B m d f)).alloc (rulObj ex2 A2 n2 c2 b2 B2 m2 d2 f2)).alloc zeroRul).heap.size (((w.alloc (rulObj ex A n c b B m d f)).alloc (rulObj ex2 A2 n2 c2 b2 B2 m2 d2 f2)).alloc zeroRul) ((((w.alloc (rulObj ex A n c b B m d f)).alloc (rulObj ex2 A2 n2 c2 b2 B2 m2 d2 f2)).alloc zeroRul).alloc zeroRul) := (Below.refl _ _).alloc (Nat.le_refl _) _
  refine ⟨h1.keep hb, h2.keep hb, h3.keep hb, ?_⟩
  have h := ZRul.new (((w.alloc (rulObj ex A n c b B m d f)).alloc (rulObj ex2 A2 n2 c2 b2 B2 m2 d2 f2)).alloc zeroRul)
  have e : (((w.alloc (rulObj ex A n c b B m d f)).alloc (rulObj ex2 A2 n2 c2 b2 B2 m2 d2 f2)).alloc zeroRul).heap.size = w.heap.size + 1 + 1 + 1 := by simp
  rw [e] at h
  exact h
/-- What determined gives: two lines and whether they are; what they are to the lines that came in. -/
def GivesDet (w : World) (a b : Pt.Rul) (e : Ending) (w' : World) : Prop :=
  ∃ (e1 : Bool) (A1 : Option Addr) (n1 : List ByteArray) (c1 : Nat) (b1 : Bool) (B1 : Option Addr) (m1 : List ByteArray) (d1 : Nat) (f1 : Bool) (r1 : Pt.Rul) (e2 : Bool) (A2 : Option Addr) (n2 : List ByteArray) (c2 : Nat) (b2 : Bool) (B2 : Option Addr) (m2 : List ByteArray) (d2 : Nat) (f2 : Bool) (r2 : Pt.Rul) (j : Bool),
    e = .returned (.tuple #[rulV e1 A1 n1.length c1 b1 B1 m1.length d1 f1, rulV e2 A2 n2.length c2 b2 B2 m2.length d2 f2, .bool j]) ∧ RulR w' e1 A1 n1 c1 b1 B1 m1 d1 f1 r1 ∧ RulR w' e2 A2 n2 c2 b2 B2 m2 d2 f2 r2 ∧ (j = false → Pt.AgreeIs a b none) ∧ (j = true → Pt.Nx a b r1 r2) ∧ Below w.heap.size w w'
/-- The boxes of determined. -/
structure DRel (w wx : World) (e1 : Bool) (A1 : Option Addr) (n1 : List ByteArray) (c1 : Nat) (b1 : Bool) (B1 : Option Addr) (m1 : List ByteArray) (d1 : Nat) (f1 : Bool) (r1 : Pt.Rul) (e2 : Bool) (A2 : Option Addr) (n2 : List ByteArray) (c2 : Nat) (b2 : Bool) (B2 : Option Addr) (m2 : List ByteArray) (d2 : Nat) (f2 : Bool) (r2 : Pt.Rul) : Prop where
  x1 : FBox wx w.heap.size e1 A1 n1.length c1 b1 B1 m1.length d1 f1
  x2 : FBox wx (w.heap.size + 1) e2 A2 n2.length c2 b2 B2 m2.length d2 f2
  z : ZRul wx (w.heap.size + 1 + 1)
  y : ZRul wx (w.heap.size + 1 + 1 + 1)
  r1 : RulR wx e1 A1 n1 c1 b1 B1 m1 d1 f1 r1
  r2 : RulR wx e2 A2 n2 c2 b2 B2 m2 d2 f2 r2
  below : Below w.heap.size w wx
structure WRel (w wx : World) (g9 g cap : Nat) (i : Nat) (q : ByteArray) (W : Pt.Pat) (e1 : Bool) (A1 : Option Addr) (n1 : List ByteArray) (c1 : Nat) (b1 : Bool) (B1 : Option Addr) (m1 : List ByteArray) (d1 : Nat) (f1 : Bool) (r1 : Pt.Rul) (e2 : Bool) (A2 : Option Addr) (n2 : List ByteArray) (c2 : Nat) (b2 : Bool) (B2 : Option Addr) (m2 : List ByteArray) (d2 : Nat) (f2 : Bool) (r2 : Pt.Rul) : Prop where
  dr : DRel w wx e1 A1 n1 c1 b1 B1 m1 d1 f1 r1 e2 A2 n2 c2 b2 B2 m2 d2 f2 r2
  bx : PBox wx g9 (some ⟨g, 0, none⟩) m1.length cap f1
  pw : PatR wx (some ⟨g, 0, none⟩) (m1.set i q) cap f1 W
theorem DRel.keep {w wx w' : World} {e1 : Bool} {A1 : Option Addr} {n1 : List ByteArray} {c1 : Nat} {b1 : Bool} {B1 : Option Addr} {m1 : List ByteArray} {d1 : Nat} {f1 : Bool} {r1 : Pt.Rul} {e2 : Bool} {A2 : Option Addr} {n2 : List ByteArray} {c2 : Nat} {b2 : Bool} {B2 : Option Addr} {m2 : List ByteArray} {d2 : Nat} {f2 : Bool} {r2 : Pt.Rul} (h : DRel w wx e1 A1 n1 c1 b1 B1 m1 d1 f1 r1 e2 A2 n2 c2 b2 B2 m2 d2 f2 r2) (hb : Below wx.heap.size wx w') : DRel w w' e1 A1 n1 c1 b1 B1 m1 d1 f1 r1 e2 A2 n2 c2 b2 B2 m2 d2 f2 r2 :=
  ⟨h.x1.keep hb, h.x2.keep hb, h.z.keep hb, h.y.keep hb, h.r1.keep hb, h.r2.keep hb, h.below.trans (hb.mono h.below.size)⟩
end Go.Proofs.YthgcnlhlhipllaaGreatDoor
