/- Copies and Turn of a line, with what they make being new; Turn of a view, both. -/
import Derived.Test.YtipljgkhooeeiaaGreatDoorVwFn2
namespace Go.Proofs.YtipljgkhooeeiaaGreatDoor
open Go.RowKit

/-- What was made since. -/
def Fresh (w w' : World) (A : Option Addr) : Prop := ∀ a, A = some a → w.heap.size ≤ a.block ∧ a.block < w'.heap.size
def GivesTurnF (w : World) (ex : Bool) (xs ys : List ByteArray) (b f : Bool) (r : Pt.Rul) (e : Ending) (w' : World) : Prop :=
  ∃ C cz D dz, e = .returned (rulV ex C ys.length cz f D xs.length dz b) ∧ RulR w' ex C ys cz f D xs dz b (Pt.turnR r) ∧ Below w.heap.size w w' ∧ Fresh w w' C ∧ Fresh w w' D
set_option maxHeartbeats 8000000 in
theorem qcopyF_any (A : Option Addr) (xs : List ByteArray) (c : Nat) (b : Bool) (p : Pt.Pat) (w : World) (hp : PatR w A xs c b p) (hN : xs.length ≤ 1000000) :
    Calls Tryz.prog 137 #[patV A xs.length c b] w (fun e w' => ∃ B d, e = .returned (patV B xs.length d b) ∧ PatR w' B xs d b p ∧ Below w.heap.size w w' ∧ Fresh w w' B) := by
  obtain ⟨W0, hW0⟩ : ∃ W0, W0 = (w.alloc (.cells #[.slice A xs.length c, .bool b] 24)).alloc (.cells #[.slice none 0 0, .bool false] 24) := ⟨_, rfl⟩
  have halloc : Below w.heap.size w W0 := by rw [hW0]; exact ((Below.refl _ _).alloc (Nat.le_refl _) _).alloc (by simp) _
  have HRD := Lib.hid ((hp.keep halloc).rd)
  obtain ⟨c0, c1, c2, c3⟩ := box2_cells (w' := W0) (w := w) (t := 24) (by rw [← hW0]; exact Below.refl _ _)
  have f0 : W0.frozen? ⟨w.heap.size + 1, 0, none⟩ = false := by
    subst hW0
    simp
  have f1 : W0.frozen? ⟨w.heap.size + 1, 1, none⟩ = false := by
    subst hW0
    simp
  have hz : w.heap.size + 1 < W0.heap.size := by rw [hW0]; simp
  have hz2 : w.heap.size + 1 + 1 ≤ W0.heap.size := by omega
  have hz' : w.heap.size < W0.heap.size := by omega
  have HP := Lib.hid hp
  have HAL := Lib.hid halloc
  obtain ⟨n, hn⟩ : ∃ n, n = xs.length := ⟨_, rfl⟩
  have HNN := Lib.hid hN
  rw [← hn] at hW0 c0 ⊢
  have HN := Lib.hid hn
  clear hp halloc hN hn
  go_enter Tryz.func137, Tryz.ntmps137
  go_wp2_with fail
  generalize hwg : (w.alloc (.cells #[.slice A n c, .bool b] 24)).alloc (.cells #[.slice none 0 0, .bool false] 24) = W
  have hWW : W = W0 := by rw [← hwg, hW0]
  subst hWW
  clear hwg hW0
  go_region_held3 (fun w' => w'.cell? ⟨w.heap.size, 0, none⟩ = some (.slice A n c) ∧ w'.cell? ⟨w.heap.size, 1, none⟩ = some (.bool b))
    (first | exact ⟨(hb.cell (p := ⟨w.heap.size, 0, none⟩) (by show w.heap.size < w.heap.size + 1 + 1; omega)).trans c0, (hb.cell (p := ⟨w.heap.size, 1, none⟩) (by show w.heap.size < w.heap.size + 1 + 1; omega)).trans c1⟩ | go_keep)
    ((refine step_append_ss rfl _ _ rfl (w.heap.size + 1 + 1) (.slice none 0 0) [] rfl (OwnS.empty _ _) A xs n c HN.out rfl HRD.out HP.out.nil (by simpa using HNN.out) (by first | omega | (simp; omega)) ?_; intro v' w' hown hb
      have k2 := (hb.cell (p := ⟨w.heap.size + 1, 0, none⟩) (by show w.heap.size + 1 < w.heap.size + 1 + 1; omega)).trans c2
      have k3 := (hb.cell (p := ⟨w.heap.size + 1, 1, none⟩) (by show w.heap.size + 1 < w.heap.size + 1 + 1; omega)).trans c3
      have k4 := (hb.frozen (p := ⟨w.heap.size + 1, 0, none⟩) (by show w.heap.size + 1 < w.heap.size + 1 + 1; omega)).trans f0
      have k5 := (hb.frozen (p := ⟨w.heap.size + 1, 1, none⟩) (by show w.heap.size + 1 < w.heap.size + 1 + 1; omega)).trans f1
      obtain ⟨A', c', rfl, hf1, hf2, hf3, hf4⟩ := hown.form
      have F1 := Lib.hid hf1
      have F2 := Lib.hid hf2
      have F3 := Lib.hid hf3
      have F4 := Lib.hid hf4
      have F5 := Lib.hid (fun k hk => World.ownsRow.lt hown k hk)
      clear hf1 hf2 hf3 hf4 hown))
  go_wp2
  refine bodyPost_ret (v := patV A' n c' b) (by simp [results, Tryz.results137, go_sem, k2, k3, HN.out]) rfl ⟨A', c', rfl, ?_, ?_, ?_⟩
  · rw [List.nil_append] at F1 F3
    have h1 : PatR w' A' xs c' b p := ⟨F3.out, HP.out.parts, HP.out.rest, F1.out, F2.out, F4.out, HP.out.sz⟩
    exact h1.store2 _ _ _ _ _ k2 k3 (fun _ h => by cases h) (fun _ h => by cases h)
  · have hb5 : Below w.heap.size w w' := HAL.out.trans (((Below.refl w.heap.size W).trans (show Below w.heap.size W W.drew from ⟨rfl, rfl, rfl, Nat.le_refl _, fun _ _ => rfl⟩)).trans (hb.mono (by omega)))
    exact (hb5.setCell (p := ⟨w.heap.size + 1, 0, none⟩) (by simp) _).setCell (p := ⟨w.heap.size + 1, 1, none⟩) (by simp) _
  · intro a ha
    subst ha
    have h5 := F5.out a.block rfl
    exact ⟨by omega, by simpa using h5.2⟩
set_option maxHeartbeats 8000000 in
theorem rcopiedF_any (A : Option Addr) (xs : List ByteArray) (c : Nat) (b : Bool) (p : Pt.Pat) (w : World) (hp : PatR w A xs c b p) (hN : xs.length ≤ 1000000) :
    Calls Tryz.prog 164 #[patV A xs.length c b] w (fun e w' => ∃ B d, e = .returned (patV B xs.length d b) ∧ PatR w' B xs d b p ∧ Below w.heap.size w w' ∧ Fresh w w' B) := by
  obtain ⟨W0, hW0⟩ : ∃ W0, W0 = (w.alloc (.cells #[.slice A xs.length c, .bool b] 24)).alloc (.cells #[.slice none 0 0, .bool false] 24) := ⟨_, rfl⟩
  have halloc : Below w.heap.size w W0 := by rw [hW0]; exact ((Below.refl _ _).alloc (Nat.le_refl _) _).alloc (by simp) _
  have HRD := Lib.hid ((hp.keep halloc).rd)
  obtain ⟨c0, c1, c2, c3⟩ := box2_cells (w' := W0) (w := w) (t := 24) (by rw [← hW0]; exact Below.refl _ _)
  have f0 : W0.frozen? ⟨w.heap.size + 1, 0, none⟩ = false := by
    subst hW0
    simp
  have f1 : W0.frozen? ⟨w.heap.size + 1, 1, none⟩ = false := by
    subst hW0
    simp
  have hz : w.heap.size + 1 < W0.heap.size := by rw [hW0]; simp
  have hz2 : w.heap.size + 1 + 1 ≤ W0.heap.size := by omega
  have hz' : w.heap.size < W0.heap.size := by omega
  have HP := Lib.hid hp
  have HAL := Lib.hid halloc
  obtain ⟨n, hn⟩ : ∃ n, n = xs.length := ⟨_, rfl⟩
  have HNN := Lib.hid hN
  have HCL := Lib.hid (clone_all A xs c W0.drew ((hp.keep (below_drew halloc)).rd) hN)
  rw [← hn] at hW0 c0 HCL ⊢
  have HN := Lib.hid hn
  clear hp halloc hN hn
  go_enter Tryz.func164, Tryz.ntmps164
  go_wp2_with fail
  generalize hwg : (w.alloc (.cells #[.slice A n c, .bool b] 24)).alloc (.cells #[.slice none 0 0, .bool false] 24) = W
  have hWW : W = W0 := by rw [← hwg, hW0]
  subst hWW
  clear hwg hW0
  go_region_held3 (fun w' => w'.cell? ⟨w.heap.size, 0, none⟩ = some (.slice A n c) ∧ w'.cell? ⟨w.heap.size, 1, none⟩ = some (.bool b))
    (first | exact ⟨(hb.cell (p := ⟨w.heap.size, 0, none⟩) (by exact hz')).trans c0, (hb.cell (p := ⟨w.heap.size, 1, none⟩) (by exact hz')).trans c1⟩ | go_keep)
    ((go_at_call 103; have hcc := HCL.out; with_reducible refine hcc.mono ?_; intro e w' hh; obtain ⟨A', c', rfl, hf3, hf1, hf2, hf4, hf5, hb⟩ := hh
      have k2 := (hb.cell (p := ⟨w.heap.size + 1, 0, none⟩) (by exact hz)).trans c2
      have k3 := (hb.cell (p := ⟨w.heap.size + 1, 1, none⟩) (by exact hz)).trans c3
      have k4 := (hb.frozen (p := ⟨w.heap.size + 1, 0, none⟩) (by exact hz)).trans f0
      have k5 := (hb.frozen (p := ⟨w.heap.size + 1, 1, none⟩) (by exact hz)).trans f1
      have F1 := Lib.hid hf1
      have F2 := Lib.hid hf2
      have F3 := Lib.hid hf3
      have F4 := Lib.hid hf4
      have F5 := Lib.hid hf5
      clear hf1 hf2 hf3 hf4 hf5))
  go_wp2
  refine bodyPost_ret (v := patV A' n c' b) (by simp [results, Tryz.results164, go_sem, k2, k3, HN.out]) rfl ⟨A', c', rfl, ?_, ?_, ?_⟩
  · have h1 : PatR w' A' xs c' b p := ⟨F3.out, HP.out.parts, HP.out.rest, (by rw [← HN.out]; exact F1.out), F2.out, F4.out, HP.out.sz⟩
    exact h1.store2 _ _ _ _ _ k2 k3 (fun _ h => by cases h) (fun _ h => by cases h)
  · have hb5 : Below w.heap.size w w' := HAL.out.trans (((Below.refl w.heap.size W).trans (show Below w.heap.size W W.drew from ⟨rfl, rfl, rfl, Nat.le_refl _, fun _ _ => rfl⟩)).trans (hb.mono (by show w.heap.size ≤ W.heap.size; omega)))
    exact (hb5.setCell (p := ⟨w.heap.size + 1, 0, none⟩) (by simp) _).setCell (p := ⟨w.heap.size + 1, 1, none⟩) (by simp) _
  · intro a ha
    have h5 := F5.out a ha
    refine ⟨Nat.le_trans (by show w.heap.size ≤ W.heap.size; omega) h5.1, by simpa using h5.2⟩
set_option maxHeartbeats 8000000 in
theorem turnF_any (ex : Bool) (A : Option Addr) (xs : List ByteArray) (c : Nat) (b : Bool) (B : Option Addr) (ys : List ByteArray) (d : Nat) (f : Bool) (r : Pt.Rul) (w : World) (hr : RulR w ex A xs c b B ys d f r) (hN : xs.length ≤ 1000000) (hM : ys.length ≤ 1000000) :
    Calls Tryz.prog 136 #[rulV ex A xs.length c b B ys.length d f] w (GivesTurnF w ex xs ys b f r) := by
  obtain ⟨W0, hW0⟩ : ∃ W0, W0 = (w.alloc (.cells #[.bool ex, .slice A xs.length c, .bool b, .slice B ys.length d, .bool f] 94)).alloc zeroRul := ⟨_, rfl⟩
  have hal : Below w.heap.size w W0 := by rw [hW0]; exact ((Below.refl _ _).alloc (Nat.le_refl _) _).alloc (by simp) _
  have hbx : RBox W0 w.heap.size ex A xs.length c b B ys.length d f := by rw [hW0]; exact (RBox.new ..).keep ((Below.refl _ _).alloc (Nat.le_refl _) _)
  have hzx : ZRul W0 (w.heap.size + 1) := by
    have h := ZRul.new (w.alloc (.cells #[.bool ex, .slice A xs.length c, .bool b, .slice B ys.length d, .bool f] 94))
    rw [show (w.alloc (.cells #[.bool ex, .slice A xs.length c, .bool b, .slice B ys.length d, .bool f] 94)).heap.size = w.heap.size + 1 by simp] at h
    rw [hW0]; exact h
  have HZ := Lib.hid hzx
  have HL := Lib.hid (fun (w' : World) (hb : Below W0.heap.size W0 w') => rcopiedF_any A xs c b r.left w' (hr.left.keep (hal.trans (hb.mono hal.size))) hN)
  have HR := Lib.hid (fun (w' : World) (hb : Below W0.heap.size W0 w') => rcopiedF_any B ys d f r.right w' (hr.right.keep (hal.trans (hb.mono hal.size))) hM)
  have HSK := Lib.hid (fun (w' : World) (hb : Below W0.heap.size W0 w') => show w'.cell? ⟨w.heap.size, 0, none⟩ = some (.bool ex) ∧ w'.cell? ⟨w.heap.size, 1, none⟩ = some (.slice A xs.length c) ∧ w'.cell? ⟨w.heap.size, 2, none⟩ = some (.bool b) ∧ w'.cell? ⟨w.heap.size, 3, none⟩ = some (.slice B ys.length d) ∧ w'.cell? ⟨w.heap.size, 4, none⟩ = some (.bool f) from by
    obtain ⟨k0, k1, k2, k3, k4, _⟩ := hbx.keep hb
    exact ⟨k0, k1, k2, k3, k4⟩)
  have HAL := Lib.hid hal
  have hz : w.heap.size + 1 + 1 ≤ W0.heap.size := by rw [hW0]; simp
  obtain ⟨k0, k1, k2, k3, k4, kl⟩ := hbx
  have HEX := Lib.hid hr.ex
  obtain ⟨n, hn⟩ : ∃ n, n = xs.length := ⟨_, rfl⟩
  obtain ⟨m, hm⟩ : ∃ m, m = ys.length := ⟨_, rfl⟩
  rw [← hn] at hW0 k1 HL HSK
  rw [← hm] at hW0 k3 HR HSK
  rw [← hn, ← hm]
  have HN := Lib.hid hn
  have HM := Lib.hid hm
  clear hr hal hzx hN hM hn hm
  go_enter Tryz.func136, Tryz.ntmps136
  go_wp2_with fail
  generalize hwg : (w.alloc (.cells #[.bool ex, .slice A n c, .bool b, .slice B m d, .bool f] 94)).alloc (.cells #[.bool false, .slice none 0 0, .bool false, .slice none 0 0, .bool false] 94) = W
  have hWW : W = W0 := by rw [← hwg, hW0]
  subst hWW
  clear hwg hW0
  set_option maxRecDepth 100000 in
  go_region_held3 (fun w' => w'.cell? ⟨w.heap.size, 0, none⟩ = some (.bool ex) ∧ w'.cell? ⟨w.heap.size, 1, none⟩ = some (.slice A n c) ∧ w'.cell? ⟨w.heap.size, 2, none⟩ = some (.bool b) ∧ w'.cell? ⟨w.heap.size, 3, none⟩ = some (.slice B m d) ∧ w'.cell? ⟨w.heap.size, 4, none⟩ = some (.bool f))
    (first | exact HSK.out _ b6 | exact HSK.out _ b5 | exact HSK.out _ (below_drew (Below.refl _ _)) | exact HSK.out _ (Below.refl _ _) | go_keep)
    (first
      | (go_at_call 164; have hcc := HL.out _ b5; with_reducible refine hcc.mono ?_; intro e w6 hh; obtain ⟨D, dz, rfl, hp6, hb6, hfd⟩ := hh
         have HFD := Lib.hid hfd
         have HS6 := Lib.hid hb6.size
         clear hfd
         have b6 : Below W.heap.size W w6 := b5.trans (hb6.mono b5.size)
         have hp7 := hp5.keep hb6
         have HZ6 := Lib.hid (ZRul.keep HZ.out b6)
         obtain ⟨z0, z1, z2, z3, z4, z5, z6, z7, z8, z9, zl⟩ := HZ6.out)
      | (go_at_call 164; have hcc := HR.out _ (below_drew (Below.refl _ _)); with_reducible refine hcc.mono ?_; intro e w5 hh; obtain ⟨C, cz, rfl, hp5, hb5, hfc⟩ := hh
         have HFC := Lib.hid hfc
         clear hfc
         have b5 : Below W.heap.size W w5 := (below_drew (Below.refl _ _)).trans hb5))
  go_wp2
  refine bodyPost_ret (v := rulV ex C m cz f D n dz b) (by simp [results, Tryz.results136, go_sem, z0, z1, z2, z3, z4]) rfl ⟨C, cz, D, dz, by rw [← HM.out, ← HN.out], ⟨HEX.out, ?_, ?_⟩, ?_, ?_, ?_⟩
  · exact hp7.grow5 _ _ _ _ _ _ HZ6.out
  · exact hp6.grow5 _ _ _ _ _ _ HZ6.out
  · exact Below.set5 (HAL.out.trans (b6.mono HAL.out.size)) _ (by omega) _ _ _ _ _
  · intro a ha
    have h5 := HFC.out a ha
    have h6 : w.heap.size ≤ W.heap.size := HAL.out.size
    exact ⟨Nat.le_trans h6 h5.1, by simpa using Nat.lt_of_lt_of_le h5.2 HS6.out⟩
  · intro a ha
    have h5 := HFD.out a ha
    have h6 : w.heap.size ≤ W.heap.size := HAL.out.size
    exact ⟨Nat.le_trans h6 (Nat.le_trans b5.size h5.1), by simpa using h5.2⟩
set_option maxHeartbeats 8000000 in
theorem qturnF_any (ex : Bool) (A : Option Addr) (xs : List ByteArray) (c : Nat) (b : Bool) (B : Option Addr) (ys : List ByteArray) (d : Nat) (f : Bool) (r : Pt.Rul) (w : World) (hr : RulR w ex A xs c b B ys d f r) (hN : xs.length ≤ 1000000) (hM : ys.length ≤ 1000000) :
    Calls Tryz.prog 88 #[rulV ex A xs.length c b B ys.length d f] w (GivesTurnF w ex xs ys b f r) := by
  obtain ⟨W0, hW0⟩ : ∃ W0, W0 = (w.alloc (.cells #[.bool ex, .slice A xs.length c, .bool b, .slice B ys.length d, .bool f] 94)).alloc zeroRul := ⟨_, rfl⟩
  have hal : Below w.heap.size w W0 := by rw [hW0]; exact ((Below.refl _ _).alloc (Nat.le_refl _) _).alloc (by simp) _
  have hbx : RBox W0 w.heap.size ex A xs.length c b B ys.length d f := by rw [hW0]; exact (RBox.new ..).keep ((Below.refl _ _).alloc (Nat.le_refl _) _)
  have hzx : ZRul W0 (w.heap.size + 1) := by
    have h := ZRul.new (w.alloc (.cells #[.bool ex, .slice A xs.length c, .bool b, .slice B ys.length d, .bool f] 94))
    rw [show (w.alloc (.cells #[.bool ex, .slice A xs.length c, .bool b, .slice B ys.length d, .bool f] 94)).heap.size = w.heap.size + 1 by simp] at h
    rw [hW0]; exact h
  have HZ := Lib.hid hzx
  have HL := Lib.hid (fun (w' : World) (hb : Below W0.heap.size W0 w') => qcopyF_any A xs c b r.left w' (hr.left.keep (hal.trans (hb.mono hal.size))) hN)
  have HR := Lib.hid (fun (w' : World) (hb : Below W0.heap.size W0 w') => qcopyF_any B ys d f r.right w' (hr.right.keep (hal.trans (hb.mono hal.size))) hM)
  have HSK := Lib.hid (fun (w' : World) (hb : Below W0.heap.size W0 w') => show w'.cell? ⟨w.heap.size, 0, none⟩ = some (.bool ex) ∧ w'.cell? ⟨w.heap.size, 1, none⟩ = some (.slice A xs.length c) ∧ w'.cell? ⟨w.heap.size, 2, none⟩ = some (.bool b) ∧ w'.cell? ⟨w.heap.size, 3, none⟩ = some (.slice B ys.length d) ∧ w'.cell? ⟨w.heap.size, 4, none⟩ = some (.bool f) from by
    obtain ⟨k0, k1, k2, k3, k4, _⟩ := hbx.keep hb
    exact ⟨k0, k1, k2, k3, k4⟩)
  have HAL := Lib.hid hal
  have hz : w.heap.size + 1 + 1 ≤ W0.heap.size := by rw [hW0]; simp
  obtain ⟨k0, k1, k2, k3, k4, kl⟩ := hbx
  have HEX := Lib.hid hr.ex
  obtain ⟨n, hn⟩ : ∃ n, n = xs.length := ⟨_, rfl⟩
  obtain ⟨m, hm⟩ : ∃ m, m = ys.length := ⟨_, rfl⟩
  rw [← hn] at hW0 k1 HL HSK
  rw [← hm] at hW0 k3 HR HSK
  rw [← hn, ← hm]
  have HN := Lib.hid hn
  have HM := Lib.hid hm
  clear hr hal hzx hN hM hn hm
  go_enter Tryz.func88, Tryz.ntmps88
  go_wp2_with fail
  generalize hwg : (w.alloc (.cells #[.bool ex, .slice A n c, .bool b, .slice B m d, .bool f] 94)).alloc (.cells #[.bool false, .slice none 0 0, .bool false, .slice none 0 0, .bool false] 94) = W
  have hWW : W = W0 := by rw [← hwg, hW0]
  subst hWW
  clear hwg hW0
  set_option maxRecDepth 100000 in
  go_region_held3 (fun w' => w'.cell? ⟨w.heap.size, 0, none⟩ = some (.bool ex) ∧ w'.cell? ⟨w.heap.size, 1, none⟩ = some (.slice A n c) ∧ w'.cell? ⟨w.heap.size, 2, none⟩ = some (.bool b) ∧ w'.cell? ⟨w.heap.size, 3, none⟩ = some (.slice B m d) ∧ w'.cell? ⟨w.heap.size, 4, none⟩ = some (.bool f))
    (first | exact HSK.out _ b6 | exact HSK.out _ b5 | exact HSK.out _ (below_drew (Below.refl _ _)) | exact HSK.out _ (Below.refl _ _) | go_keep)
    (first
      | (go_at_call 137; have hcc := HL.out _ b5; with_reducible refine hcc.mono ?_; intro e w6 hh; obtain ⟨D, dz, rfl, hp6, hb6, hfd⟩ := hh
         have HFD := Lib.hid hfd
         have HS6 := Lib.hid hb6.size
         clear hfd
         have b6 : Below W.heap.size W w6 := b5.trans (hb6.mono b5.size)
         have hp7 := hp5.keep hb6
         have HZ6 := Lib.hid (ZRul.keep HZ.out b6)
         obtain ⟨z0, z1, z2, z3, z4, z5, z6, z7, z8, z9, zl⟩ := HZ6.out)
      | (go_at_call 137; have hcc := HR.out _ (below_drew (Below.refl _ _)); with_reducible refine hcc.mono ?_; intro e w5 hh; obtain ⟨C, cz, rfl, hp5, hb5, hfc⟩ := hh
         have HFC := Lib.hid hfc
         clear hfc
         have b5 : Below W.heap.size W w5 := (below_drew (Below.refl _ _)).trans hb5))
  go_wp2
  refine bodyPost_ret (v := rulV ex C m cz f D n dz b) (by simp [results, Tryz.results88, go_sem, z0, z1, z2, z3, z4]) rfl ⟨C, cz, D, dz, by rw [← HM.out, ← HN.out], ⟨HEX.out, ?_, ?_⟩, ?_, ?_, ?_⟩
  · exact hp7.grow5 _ _ _ _ _ _ HZ6.out
  · exact hp6.grow5 _ _ _ _ _ _ HZ6.out
  · exact Below.set5 (HAL.out.trans (b6.mono HAL.out.size)) _ (by omega) _ _ _ _ _
  · intro a ha
    have h5 := HFC.out a ha
    have h6 : w.heap.size ≤ W.heap.size := HAL.out.size
    exact ⟨Nat.le_trans h6 h5.1, by simpa using Nat.lt_of_lt_of_le h5.2 HS6.out⟩
  · intro a ha
    have h5 := HFD.out a ha
    have h6 : w.heap.size ≤ W.heap.size := HAL.out.size
    exact ⟨Nat.le_trans h6 (Nat.le_trans b5.size h5.1), by simpa using h5.2⟩
/-- What Turn of a view gives. -/
def GivesTurnV (w : World) (v : List Pt.Rul) (e : Ending) (w' : World) : Prop :=
  ∃ (A : Option Addr) (tl : List RulV) (c : Nat), e = .returned (.slice A tl.length c) ∧ OwnV w' w.heap.size (.slice A tl.length c) tl ∧ tl.map RulV.rul = Pt.Vw.turnV v ∧ Below w.heap.size w w'
set_option maxHeartbeats 4000000 in
theorem vturn_any (A : Option Addr) (rl : List RulV) (c : Nat) (w : World) (hr : RdV w A rl c) (hn : ∀ x ∈ rl, x.xs.length ≤ 1000000 ∧ x.ys.length ≤ 1000000) (hN : rl.length ≤ 900000) :
    Calls Tryz.prog 87 #[.slice A rl.length c] w (GivesTurnV w (rl.map RulV.rul)) := by
  have HR := Lib.hid hr
  have hmi : (rl.length : Int) ≤ 900000 := by omega
  have HC0 := Lib.hid (fun (k : Nat) (hk : k < rl.length) (w' : World) (hb : Below w.heap.size w w') => turnF_any rl[k].ex rl[k].A rl[k].xs rl[k].c rl[k].b rl[k].B rl[k].ys rl[k].d rl[k].f rl[k].rul w' ((hr.keep hb).parts _ (List.getElem_mem hk)) (hn _ (List.getElem_mem hk)).1 (hn _ (List.getElem_mem hk)).2)
  have HNN := Lib.hid hN
  clear hr hn hN
  go_enter Tryz.func87, Tryz.ntmps87
  go_wp2
  go_loopg [3, 8] rl.length (fun gg s3 s8 wx => ∃ (k : Nat) (tl : List RulV), k + gg = rl.length ∧ s8 = .int .i64 (k : Int) ∧ OwnV wx w.heap.size s3 tl ∧ tl.length = k ∧ tl.map RulV.rul = ((rl.map RulV.rul).take k).map Pt.turnR ∧ Below w.heap.size w wx)
  case atStart => exact ⟨0, [], by omega, rfl, OwnV.empty _ _, rfl, rfl, Below.refl _ _⟩
  case round =>
    obtain ⟨k, tl, hk, rfl, hown, htl, hmap, hbw⟩ := hrel
    have HBW := Lib.hid hbw
    have HMAP := Lib.hid hmap
    have hws := hbw.size
    obtain ⟨AL, eL, hform, heL⟩ := hown.form
    subst hform
    by_cases hkn : k < rl.length
    · have i1 : (k : Int) < (rl.length : Int) := by omega
      obtain ⟨q, o, hA, hq, hcell⟩ := (HR.out.keep hbw).at (by omega)
      subst hA
      obtain ⟨e0, e1, e2, e3, e4⟩ := hcell k hkn
      have ha : Below wr.heap.size wr (wr.alloc (.cells #[.bool rl[k].ex, .slice rl[k].A rl[k].xs.length rl[k].c, .bool rl[k].b, .slice rl[k].B rl[k].ys.length rl[k].d, .bool rl[k].f] 94)) := (Below.refl _ _).alloc (Nat.le_refl _) _
      have HW2 := Lib.hid (hbw.trans (ha.mono hbw.size))
      have HC := Lib.hid (HC0.out k hkn _ (hbw.trans (ha.mono hbw.size)))
      have HOWN := Lib.hid (hown.below ha)
      have hlt0 := hown.lt
      have HLT := Lib.hid hlt0
      have HTL := Lib.hid htl
      clear hcell hbw ha hown hmap hlt0
      go_wp2_with fail
      with_reducible refine HC.out.mono ?_
      intro e w1 hh
      unfold GivesTurnF at hh
      obtain ⟨C, cz, D, dz, rfl, hrt, hb1, hfc, hfd⟩ := hh
      have hws1 := hb1.size
      simp only [World.alloc, Array.size_push] at hws1
      have HB1 := Lib.hid (HW2.out.trans (hb1.mono HW2.out.size))
      have HOW1 := Lib.hid (HOWN.out.below hb1)
      obtain ⟨yv, hyv⟩ : ∃ yv : RulV, yv = ⟨rl[k].ex, C, rl[k].ys, cz, rl[k].f, D, rl[k].xs, dz, rl[k].b⟩ := ⟨_, rfl⟩
      have HRT := Lib.hid (show RulV.R w1 yv by rw [hyv]; exact hrt)
      have HYA := Lib.hid (show ∀ x ∈ [yv], ∀ y ∈ [x.A, x.B], ∀ a, y = some a → (Value.slice AL tl.length eL).ownBlock ≠ some a.block ∧ a.block < w1.heap.size from by
        intro x hx y hy a hya
        rw [List.mem_singleton.1 hx, hyv] at hy
        have hfr : wr.heap.size < a.block ∧ a.block < w1.heap.size := by
          simp only [List.mem_cons, List.not_mem_nil, or_false] at hy
          rcases hy with rfl | rfl
          · have := hfc a hya
            simp only [World.alloc, Array.size_push] at this
            omega
          · have := hfd a hya
            simp only [World.alloc, Array.size_push] at this
            omega
        refine ⟨fun e => ?_, hfr.2⟩
        have := (HLT.out _ e).2
        omega)
      have hcy : (#[Value.bool rl[k].ex, .slice C rl[k].ys.length cz, .bool rl[k].f, .slice D rl[k].xs.length dz, .bool rl[k].b] : Array Value) = #[.bool yv.ex, .slice yv.A yv.xs.length yv.c, .bool yv.b, .slice yv.B yv.ys.length yv.d, .bool yv.f] := by rw [hyv]
      have HCY := Lib.hid hcy
      have HYV := Lib.hid hyv
      have hk9 := HNN.out
      clear hb1 hrt hfc hfd hcy hyv
      subst htl
      go_wp2_with (refine wpList_append_vw rfl _ _ rfl w.heap.size (.slice AL tl.length eL) tl rfl (HOW1.out.below ((Below.refl _ _).alloc (Nat.le_refl _) _)) (some ⟨w1.heap.size, 0, none⟩) [yv] 1 1 rfl rfl (by rw [HCY.out]; exact newV w1 yv HRT.out) (fun x hx y hy a hya => ⟨(HYA.out x hx y hy a hya).1, by have := (HYA.out x hx y hy a hya).2; simp; omega⟩) (by simp; omega) (by simp; omega) ?_; intro v9 w9 hown9 hb9 _)
      have HB9 := Lib.hid (HB1.out.trans (((Below.refl _ _).alloc (Nat.le_refl _) _ : Below w1.heap.size w1 (w1.alloc _)).mono HB1.out.size |>.trans (hb9.mono (by simp))))
      have HOW9 := Lib.hid hown9
      clear hb9 hown9
      go_wp2
      go_roundg (rl.length - (tl.length + 1))
      case measure => go_light; omega
      case rel =>
        go_light
        refine ⟨tl.length + 1, tl ++ [yv], by omega, by go_num, HOW9.out, by simp, ?_, HB9.out⟩
        rw [List.map_append, HMAP.out, List.take_succ_eq_append_getElem (by rw [List.length_map]; exact hkn), List.map_append, List.getElem_map, HYV.out]
        rfl
    · have i1 : ¬ (k : Int) < (rl.length : Int) := by omega
      have hfull : tl.map RulV.rul = Pt.Vw.turnV (rl.map RulV.rul) := by
        rw [HMAP.out, List.take_of_length_le (by rw [List.length_map]; omega)]
        rfl
      have HF := Lib.hid hfull
      have HOWN := Lib.hid hown
      clear hbw hfull hown hmap
      subst htl
      go_wp2
      go_ret
      exact ⟨AL, tl, eL, rfl, HOWN.out, HF.out, HBW.out⟩
set_option maxHeartbeats 4000000 in
theorem qvturn_any (A : Option Addr) (rl : List RulV) (c : Nat) (w : World) (hr : RdV w A rl c) (hn : ∀ x ∈ rl, x.xs.length ≤ 1000000 ∧ x.ys.length ≤ 1000000) (hN : rl.length ≤ 900000) :
    Calls Tryz.prog 47 #[.slice A rl.length c] w (GivesTurnV w (rl.map RulV.rul)) := by
  have HR := Lib.hid hr
  have hmi : (rl.length : Int) ≤ 900000 := by omega
  have HC0 := Lib.hid (fun (k : Nat) (hk : k < rl.length) (w' : World) (hb : Below w.heap.size w w') => qturnF_any rl[k].ex rl[k].A rl[k].xs rl[k].c rl[k].b rl[k].B rl[k].ys rl[k].d rl[k].f rl[k].rul w' ((hr.keep hb).parts _ (List.getElem_mem hk)) (hn _ (List.getElem_mem hk)).1 (hn _ (List.getElem_mem hk)).2)
  have HNN := Lib.hid hN
  clear hr hn hN
  go_enter Tryz.func47, Tryz.ntmps47
  go_wp2
  go_loopg [3, 8] rl.length (fun gg s3 s8 wx => ∃ (k : Nat) (tl : List RulV), k + gg = rl.length ∧ s8 = .int .i64 (k : Int) ∧ OwnV wx w.heap.size s3 tl ∧ tl.length = k ∧ tl.map RulV.rul = ((rl.map RulV.rul).take k).map Pt.turnR ∧ Below w.heap.size w wx)
  case atStart => exact ⟨0, [], by omega, rfl, OwnV.empty _ _, rfl, rfl, Below.refl _ _⟩
  case round =>
    obtain ⟨k, tl, hk, rfl, hown, htl, hmap, hbw⟩ := hrel
    have HBW := Lib.hid hbw
    have HMAP := Lib.hid hmap
    have hws := hbw.size
    obtain ⟨AL, eL, hform, heL⟩ := hown.form
    subst hform
    by_cases hkn : k < rl.length
    · have i1 : (k : Int) < (rl.length : Int) := by omega
      obtain ⟨q, o, hA, hq, hcell⟩ := (HR.out.keep hbw).at (by omega)
      subst hA
      obtain ⟨e0, e1, e2, e3, e4⟩ := hcell k hkn
      have ha : Below wr.heap.size wr (wr.alloc (.cells #[.bool rl[k].ex, .slice rl[k].A rl[k].xs.length rl[k].c, .bool rl[k].b, .slice rl[k].B rl[k].ys.length rl[k].d, .bool rl[k].f] 94)) := (Below.refl _ _).alloc (Nat.le_refl _) _
      have HW2 := Lib.hid (hbw.trans (ha.mono hbw.size))
      have HC := Lib.hid (HC0.out k hkn _ (hbw.trans (ha.mono hbw.size)))
      have HOWN := Lib.hid (hown.below ha)
      have hlt0 := hown.lt
      have HLT := Lib.hid hlt0
      have HTL := Lib.hid htl
      clear hcell hbw ha hown hmap hlt0
      go_wp2_with fail
      with_reducible refine HC.out.mono ?_
      intro e w1 hh
      unfold GivesTurnF at hh
      obtain ⟨C, cz, D, dz, rfl, hrt, hb1, hfc, hfd⟩ := hh
      have hws1 := hb1.size
      simp only [World.alloc, Array.size_push] at hws1
      have HB1 := Lib.hid (HW2.out.trans (hb1.mono HW2.out.size))
      have HOW1 := Lib.hid (HOWN.out.below hb1)
      obtain ⟨yv, hyv⟩ : ∃ yv : RulV, yv = ⟨rl[k].ex, C, rl[k].ys, cz, rl[k].f, D, rl[k].xs, dz, rl[k].b⟩ := ⟨_, rfl⟩
      have HRT := Lib.hid (show RulV.R w1 yv by rw [hyv]; exact hrt)
      have HYA := Lib.hid (show ∀ x ∈ [yv], ∀ y ∈ [x.A, x.B], ∀ a, y = some a → (Value.slice AL tl.length eL).ownBlock ≠ some a.block ∧ a.block < w1.heap.size from by
        intro x hx y hy a hya
        rw [List.mem_singleton.1 hx, hyv] at hy
        have hfr : wr.heap.size < a.block ∧ a.block < w1.heap.size := by
          simp only [List.mem_cons, List.not_mem_nil, or_false] at hy
          rcases hy with rfl | rfl
          · have := hfc a hya
            simp only [World.alloc, Array.size_push] at this
            omega
          · have := hfd a hya
            simp only [World.alloc, Array.size_push] at this
            omega
        refine ⟨fun e => ?_, hfr.2⟩
        have := (HLT.out _ e).2
        omega)
      have hcy : (#[Value.bool rl[k].ex, .slice C rl[k].ys.length cz, .bool rl[k].f, .slice D rl[k].xs.length dz, .bool rl[k].b] : Array Value) = #[.bool yv.ex, .slice yv.A yv.xs.length yv.c, .bool yv.b, .slice yv.B yv.ys.length yv.d, .bool yv.f] := by rw [hyv]
      have HCY := Lib.hid hcy
      have HYV := Lib.hid hyv
      have hk9 := HNN.out
      clear hb1 hrt hfc hfd hcy hyv
      subst htl
      go_wp2_with (refine wpList_append_vw rfl _ _ rfl w.heap.size (.slice AL tl.length eL) tl rfl (HOW1.out.below ((Below.refl _ _).alloc (Nat.le_refl _) _)) (some ⟨w1.heap.size, 0, none⟩) [yv] 1 1 rfl rfl (by rw [HCY.out]; exact newV w1 yv HRT.out) (fun x hx y hy a hya => ⟨(HYA.out x hx y hy a hya).1, by have := (HYA.out x hx y hy a hya).2; simp; omega⟩) (by simp; omega) (by simp; omega) ?_; intro v9 w9 hown9 hb9 _)
      have HB9 := Lib.hid (HB1.out.trans (((Below.refl _ _).alloc (Nat.le_refl _) _ : Below w1.heap.size w1 (w1.alloc _)).mono HB1.out.size |>.trans (hb9.mono (by simp))))
      have HOW9 := Lib.hid hown9
      clear hb9 hown9
      go_wp2
      go_roundg (rl.length - (tl.length + 1))
      case measure => go_light; omega
      case rel =>
        go_light
        refine ⟨tl.length + 1, tl ++ [yv], by omega, by go_num, HOW9.out, by simp, ?_, HB9.out⟩
        rw [List.map_append, HMAP.out, List.take_succ_eq_append_getElem (by rw [List.length_map]; exact hkn), List.map_append, List.getElem_map, HYV.out]
        rfl
    · have i1 : ¬ (k : Int) < (rl.length : Int) := by omega
      have hfull : tl.map RulV.rul = Pt.Vw.turnV (rl.map RulV.rul) := by
        rw [HMAP.out, List.take_of_length_le (by rw [List.length_map]; omega)]
        rfl
      have HF := Lib.hid hfull
      have HOWN := Lib.hid hown
      clear hbw hfull hown hmap
      subst htl
      go_wp2
      go_ret
      exact ⟨AL, tl, eL, rfl, HOWN.out, HF.out, HBW.out⟩
end Go.Proofs.YtipljgkhooeeiaaGreatDoor
