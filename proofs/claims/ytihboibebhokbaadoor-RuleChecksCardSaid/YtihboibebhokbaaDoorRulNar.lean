/- The contracts of NarrowLeft: the reference's and the program's. -/
import Derived.Test.YtihboibebhokbaaDoorRulAll
import Derived.Test.YtihboibebhokbaaDoorPatSubAll
import Derived.Test.YtihboibebhokbaaDoorPatGo8
import Derived.Test.YtihboibebhokbaaDoorPatFn11
namespace Go.Proofs.YtihboibebhokbaaDoor
open Go.RowKit

theorem boxes3 (w : World) (ex : Bool) (A : Option Addr) (n c : Nat) (b : Bool) (B : Option Addr) (m d : Nat) (f : Bool) (P : Option Addr) (q pc : Nat) (pb : Bool) :
    RBox (((w.alloc (rulObj ex A n c b B m d f)).alloc (patObj P q pc pb)).alloc zeroRul) w.heap.size ex A n c b B m d f ∧ PBox (((w.alloc (rulObj ex A n c b B m d f)).alloc (patObj P q pc pb)).alloc zeroRul) (w.heap.size + 1) P q pc pb ∧ ZRul (((w.alloc (rulObj ex A n c b B m d f)).alloc (patObj P q pc pb)).alloc zeroRul) (w.heap.size + 1 + 1) := by
  have e1 : (w.alloc (rulObj ex A n c b B m d f)).heap.size = w.heap.size + 1 := by simp
  have e2 : ((w.alloc (rulObj ex A n c b B m d f)).alloc (patObj P q pc pb)).heap.size = w.heap.size + 1 + 1 := by simp
  refine ⟨((RBox.new ..).keep ((Below.refl _ _).alloc (Nat.le_refl _) _)).keep ((Below.refl _ _).alloc (Nat.le_refl _) _), ?_, ?_⟩
  · have h := (PBox.new (w.alloc (rulObj ex A n c b B m d f)) P q pc pb).keep ((Below.refl _ _).alloc (Nat.le_refl _) zeroRul)
    rw [e1] at h
    exact h
  · have h := ZRul.new ((w.alloc (rulObj ex A n c b B m d f)).alloc (patObj P q pc pb))
    rw [e2] at h
    exact h
/-- The five cells of a result behind one more box. -/
theorem res_alloc5 {w : World} {g : Nat} (o : Obj) (u0 u1 u2 u3 u4 : Value) (z : ZRul w g) :
    ((((((w.setCell ⟨g, 0, none⟩ u0).setCell ⟨g, 1, none⟩ u1).setCell ⟨g, 2, none⟩ u2).setCell ⟨g, 3, none⟩ u3).setCell ⟨g, 4, none⟩ u4).alloc o).cell? ⟨g, 0, none⟩ = some u0 ∧
    ((((((w.setCell ⟨g, 0, none⟩ u0).setCell ⟨g, 1, none⟩ u1).setCell ⟨g, 2, none⟩ u2).setCell ⟨g, 3, none⟩ u3).setCell ⟨g, 4, none⟩ u4).alloc o).cell? ⟨g, 1, none⟩ = some u1 ∧
    ((((((w.setCell ⟨g, 0, none⟩ u0).setCell ⟨g, 1, none⟩ u1).setCell ⟨g, 2, none⟩ u2).setCell ⟨g, 3, none⟩ u3).setCell ⟨g, 4, none⟩ u4).alloc o).cell? ⟨g, 2, none⟩ = some u2 ∧
    ((((((w.setCell ⟨g, 0, none⟩ u0).setCell ⟨g, 1, none⟩ u1).setCell ⟨g, 2, none⟩ u2).setCell ⟨g, 3, none⟩ u3).setCell ⟨g, 4, none⟩ u4).alloc o).cell? ⟨g, 3, none⟩ = some u3 ∧
    ((((((w.setCell ⟨g, 0, none⟩ u0).setCell ⟨g, 1, none⟩ u1).setCell ⟨g, 2, none⟩ u2).setCell ⟨g, 3, none⟩ u3).setCell ⟨g, 4, none⟩ u4).alloc o).cell? ⟨g, 4, none⟩ = some u4 := by
  have hb := fun W : World => (Below.refl W.heap.size W).alloc (Nat.le_refl _) o
  have hs : g < (((((w.setCell ⟨g, 0, none⟩ u0).setCell ⟨g, 1, none⟩ u1).setCell ⟨g, 2, none⟩ u2).setCell ⟨g, 3, none⟩ u3).setCell ⟨g, 4, none⟩ u4).heap.size := by simpa [World.setCell] using z.lt
  refine ⟨((hb _).cell (p := ⟨g, 0, none⟩) hs).trans ?_, ((hb _).cell (p := ⟨g, 1, none⟩) hs).trans ?_, ((hb _).cell (p := ⟨g, 2, none⟩) hs).trans ?_, ((hb _).cell (p := ⟨g, 3, none⟩) hs).trans ?_, ((hb _).cell (p := ⟨g, 4, none⟩) hs).trans ?_⟩
  · simp [go_sem, z.c0]
  · simp [go_sem, z.c1]
  · simp [go_sem, z.c2]
  · simp [go_sem, z.c3]
  · simp [go_sem, z.c4]
theorem boxes2 (w : World) (ex : Bool) (A : Option Addr) (n c : Nat) (b : Bool) (B : Option Addr) (m d : Nat) (f : Bool) (P : Option Addr) (q pc : Nat) (pb : Bool) :
    RBox ((w.alloc (rulObj ex A n c b B m d f)).alloc (patObj P q pc pb)) w.heap.size ex A n c b B m d f ∧ PBox ((w.alloc (rulObj ex A n c b B m d f)).alloc (patObj P q pc pb)) (w.heap.size + 1) P q pc pb := by
  have e1 : (w.alloc (rulObj ex A n c b B m d f)).heap.size = w.heap.size + 1 := by simp
  refine ⟨(RBox.new ..).keep ((Below.refl _ _).alloc (Nat.le_refl _) _), ?_⟩
  have h := PBox.new (w.alloc (rulObj ex A n c b B m d f)) P q pc pb
  rw [e1] at h
  exact h
theorem boxesR (w : World) (ex : Bool) (A : Option Addr) (n c : Nat) (b : Bool) (B : Option Addr) (m d : Nat) (f : Bool) (ex' : Bool) (A' : Option Addr) (n' c' : Nat) (b' : Bool) (B' : Option Addr) (m' d' : Nat) (f' : Bool) :
    RBox ((w.alloc (rulObj ex A n c b B m d f)).alloc (rulObj ex' A' n' c' b' B' m' d' f')) w.heap.size ex A n c b B m d f ∧ RBox ((w.alloc (rulObj ex A n c b B m d f)).alloc (rulObj ex' A' n' c' b' B' m' d' f')) (w.heap.size + 1) ex' A' n' c' b' B' m' d' f' := by
  have e1 : (w.alloc (rulObj ex A n c b B m d f)).heap.size = w.heap.size + 1 := by simp
  refine ⟨(RBox.new ..).keep ((Below.refl _ _).alloc (Nat.le_refl _) _), ?_⟩
  have h := RBox.new (w.alloc (rulObj ex A n c b B m d f)) ex' A' n' c' b' B' m' d' f'
  rw [e1] at h
  exact h
set_option maxHeartbeats 4000000 in
theorem same_lines (ex : Bool) (A : Option Addr) (xs : List ByteArray) (c : Nat) (b : Bool) (B : Option Addr) (ys : List ByteArray) (d : Nat) (f : Bool) (ex' : Bool) (A' : Option Addr) (xs' : List ByteArray) (c' : Nat) (b' : Bool) (B' : Option Addr) (ys' : List ByteArray) (d' : Nat) (f' : Bool) (r : Pt.Rul) (w : World) (h1 : RulR w ex A xs c b B ys d f r) (h2 : RulR w ex' A' xs' c' b' B' ys' d' f' r) :
    Calls Tryd.prog 27 #[rulV ex A xs.length c b B ys.length d f, rulV ex' A' xs'.length c' b' B' ys'.length d' f'] w (GivesBB w true) := by
  obtain rfl : ex = ex' := h1.ex.trans h2.ex.symm
  obtain ⟨W0, hW0⟩ : ∃ W0, W0 = (w.alloc (.cells #[.bool ex, .slice A xs.length c, .bool b, .slice B ys.length d, .bool f] 39)).alloc (.cells #[.bool ex, .slice A' xs'.length c', .bool b', .slice B' ys'.length d', .bool f'] 39) := ⟨_, rfl⟩
  have hal : Below w.heap.size w W0 := by rw [hW0]; exact ((Below.refl _ _).alloc (Nat.le_refl _) _).alloc (by simp) _
  have HX0 := Lib.hid (Below.refl W0.heap.size W0)
  have HAL := Lib.hid hal
  obtain ⟨hbx, hpx⟩ : RBox W0 w.heap.size ex A xs.length c b B ys.length d f ∧ RBox W0 (w.heap.size + 1) ex A' xs'.length c' b' B' ys'.length d' f' := by rw [hW0]; exact boxesR ..
  have HB := Lib.hid (fun (w' : World) (hb : Below W0.heap.size W0 w') => hbx.keep hb)
  have HP := Lib.hid (fun (w' : World) (hb : Below W0.heap.size W0 w') => hpx.keep hb)
  have HL := Lib.hid (fun (w' : World) (hb : Below W0.heap.size W0 w') => same_pats A A' xs xs' c c' b b' r.left w' (h1.left.keep (hal.trans (hb.mono hal.size))) (h2.left.keep (hal.trans (hb.mono hal.size))))
  have HR := Lib.hid (fun (w' : World) (hb : Below W0.heap.size W0 w') => same_pats B B' ys ys' d d' f f' r.right w' (h1.right.keep (hal.trans (hb.mono hal.size))) (h2.right.keep (hal.trans (hb.mono hal.size))))
  generalize xs.length = n at *
  generalize ys.length = m at *
  generalize xs'.length = n' at *
  generalize ys'.length = m' at *
  clear h1 h2 hbx hpx
  subst hW0
  clear hal
  cases ex
  all_goals
    go_enter Tryd.func27, Tryd.ntmps27
    go_wp2_with fail
    with_reducible refine (HL.out _ HX0.out).mono ?_
    rintro e u1 ⟨rfl, hb1⟩
    obtain ⟨k0, k1, k2, k3, k4, kl⟩ := HB.out _ hb1
    obtain ⟨p0, p1, p2, p3, p4, pl⟩ := HP.out _ hb1
    have HX1 := Lib.hid hb1
    clear hb1
    go_wp2_with fail
    with_reducible refine (HR.out _ HX1.out).mono ?_
    rintro e u2 ⟨rfl, hb2⟩
    have HX2 := Lib.hid (HX1.out.trans (hb2.mono HX1.out.size))
    clear hb2
    go_wp2
    go_ret
    exact ⟨rfl, HAL.out.trans (HX2.out.mono HAL.out.size)⟩
set_option maxHeartbeats 16000000 in
theorem nleft_any (ex : Bool) (A : Option Addr) (xs : List ByteArray) (c : Nat) (b : Bool) (B : Option Addr) (ys : List ByteArray) (d : Nat) (f : Bool) (r : Pt.Rul) (P : Option Addr) (ps : List ByteArray) (pc : Nat) (pb : Bool) (p : Pt.Pat) (w : World) (hr : RulR w ex A xs c b B ys d f r) (hp : PatR w P ps pc pb p) (hxz : Pt.szs 50000 r.left) (hyz : Pt.szs 100000 r.right) (hpz : Pt.szs 50000 p) :
    Calls Tryd.prog 33 #[rulV ex A xs.length c b B ys.length d f, patV P ps.length pc pb] w (GivesR w (Pt.nleft r p) (Pt.nleftE r p)) := by
  obtain ⟨W0, hW0⟩ : ∃ W0, W0 = ((w.alloc (.cells #[.bool ex, .slice A xs.length c, .bool b, .slice B ys.length d, .bool f] 39)).alloc (.cells #[.slice P ps.length pc, .bool pb] 24)).alloc zeroRul := ⟨_, rfl⟩
  have hal : Below w.heap.size w W0 := by rw [hW0]; exact (((Below.refl _ _).alloc (Nat.le_refl _) _).alloc (by simp) _).alloc (by simp; omega) _
  have HX0 := Lib.hid (Below.refl W0.heap.size W0)
  have HAL := Lib.hid hal
  obtain ⟨hbx, hpx, hzx⟩ : RBox W0 w.heap.size ex A xs.length c b B ys.length d f ∧ PBox W0 (w.heap.size + 1) P ps.length pc pb ∧ ZRul W0 (w.heap.size + 1 + 1) := by rw [hW0]; exact boxes3 w ex A xs.length c b B ys.length d f P ps.length pc pb
  have HB := Lib.hid (fun (w' : World) (hb : Below W0.heap.size W0 w') => hbx.keep hb)
  have HP := Lib.hid (fun (w' : World) (hb : Below W0.heap.size W0 w') => hpx.keep hb)
  have HZ := Lib.hid (fun (w' : World) (hb : Below W0.heap.size W0 w') => hzx.keep hb)
  have HRC := Lib.hid (fun (w' : World) (hb : Below W0.heap.size W0 w') => check4_any ex A xs c b B ys d f r w' (hr.keep (hal.trans (hb.mono hal.size))))
  have HPC := Lib.hid (fun (w' : World) (hb : Below W0.heap.size W0 w') => check_any P ps pc pb p w' (hp.keep (hal.trans (hb.mono hal.size))))
  have HMe := Lib.hid (fun (w' : World) (hb : Below W0.heap.size W0 w') => meet_any A P xs ps c pc b pb r.left p w' (hr.left.keep (hal.trans (hb.mono hal.size))) (hp.keep (hal.trans (hb.mono hal.size))))
  have HBd := Lib.hid (fun (C : Option Addr) (zs : List ByteArray) (e : Nat) (g : Bool) (m : Pt.Pat) (w' : World) (hb : Below W0.heap.size W0 w') (hq : PatR w' C zs e g m) => bind_any A C xs zs c e b g r.left m w' (hr.left.keep (hal.trans (hb.mono hal.size))) hq)
  have HSu := Lib.hid (fun (C : Option Addr) (bl : List BindV) (e : Nat) (w' : World) (hb : Below W0.heap.size W0 w') (hl : RdB w' C bl e) (h1 : ∀ v ∈ bl, ∀ y ∈ v.xs, y.size ≤ 100000) (h2 : ∀ v ∈ bl, v.xs.length ≤ 1000) => subst_any B C ys bl d e f r.right w' (hr.right.keep (hal.trans (hb.mono hal.size))) hl (fun y hy => by
    have := hyz y.data.toList (by rw [← hr.right.parts]; exact List.mem_map_of_mem hy)
    rw [Lib.size_eq]; exact this) h1 h2)
  obtain ⟨o, ho⟩ : ∃ o, o = Pt.nleft r p := ⟨_, rfl⟩
  obtain ⟨k, hk⟩ : ∃ k, k = Pt.nleftE r p := ⟨_, rfl⟩
  rw [← ho, ← hk]
  unfold Pt.nleft at ho
  unfold Pt.nleftE at hk
  have hms := fun m (h : Pt.meet r.left p = some m) => Pt.meet_sizes hxz hpz h
  have hmw := fun m (h : Pt.meet r.left p = some m) => Pt.bind_within (Pt.meet_within h).1
  generalize Pt.rcheck r = k1 at ho hk HRC
  generalize Pt.check p = k2 at ho hk HPC
  have hws : W0.heap.size = w.heap.size + 1 + 1 + 1 := by rw [hW0]; simp
  have HWS := Lib.hid hws
  by_cases h1 : k1 = 0
  rotate_left
  · rw [if_neg h1] at ho hk
    subst ho
    rw [hk]
    clear hk
    have t1 : ((k1 : Int) == 0) = false := by rw [beq_eq_false_iff_ne]; omega
    have t2 : ((k1 : Int) != 0) = true := by rw [bne, t1]; rfl
    clear h1 hms hmw
    generalize xs.length = nx at *
    generalize ys.length = ny at *
    generalize ps.length = np at *
    clear hbx hpx hzx hr hp hxz hyz hpz hws
    subst hW0
    clear hal
    go_enter Tryd.func33, Tryd.ntmps33
    go_wp2_with fail
    with_reducible refine (HRC.out _ HX0.out).mono ?_
    rintro e u1 ⟨rfl, hb1⟩
    have hX1 := HX0.out.trans (hb1.mono HX0.out.size)
    have HX1 := Lib.hid hX1
    obtain ⟨k0_HB1, k1_HB1, k2_HB1, k3_HB1, k4_HB1, kl_HB1⟩ := HB.out _ hX1
    obtain ⟨p0_HP1, p1_HP1, pl_HP1⟩ := HP.out _ hX1
    obtain ⟨z0_HZ1, z1_HZ1, z2_HZ1, z3_HZ1, z4_HZ1, z5_HZ1, z6_HZ1, z7_HZ1, z8_HZ1, z9_HZ1, zl_HZ1⟩ := HZ.out _ hX1
    have z1 := hX1.size
    simp only [World.alloc, Array.size_push] at z1
    clear hb1 hX1 
    set_option maxRecDepth 100000 in go_wp2
    refine bodyPost_ret (v := .tuple #[rulV false none 0 0 false none 0 0 false, .bool false, .int .i64 k1]) (by simp [results, Tryd.results33, go_sem, z0_HZ1, z1_HZ1, z2_HZ1, z3_HZ1, z4_HZ1]) rfl ⟨false, none, [], 0, false, none, [], 0, false, rfl, rulR_zero _, ?_⟩
    exact Below.set5 (HAL.out.trans (HX1.out.mono HAL.out.size)) _ (by omega) _ _ _ _ _
  subst h1
  rw [if_pos rfl] at ho hk
  by_cases h2 : k2 = 0
  rotate_left
  · rw [if_neg h2] at ho hk
    subst ho
    rw [hk]
    clear hk
    have t1 : ((k2 : Int) == 0) = false := by rw [beq_eq_false_iff_ne]; omega
    have t2 : ((k2 : Int) != 0) = true := by rw [bne, t1]; rfl
    clear h2 hms hmw
    generalize xs.length = nx at *
    generalize ys.length = ny at *
    generalize ps.length = np at *
    clear hbx hpx hzx hr hp hxz hyz hpz hws
    subst hW0
    clear hal
    go_enter Tryd.func33, Tryd.ntmps33
    go_wp2_with fail
    with_reducible refine (HRC.out _ HX0.out).mono ?_
    rintro e u1 ⟨rfl, hb1⟩
    have hX1 := HX0.out.trans (hb1.mono HX0.out.size)
    have HX1 := Lib.hid hX1
    obtain ⟨k0_HB1, k1_HB1, k2_HB1, k3_HB1, k4_HB1, kl_HB1⟩ := HB.out _ hX1
    obtain ⟨p0_HP1, p1_HP1, pl_HP1⟩ := HP.out _ hX1
    obtain ⟨z0_HZ1, z1_HZ1, z2_HZ1, z3_HZ1, z4_HZ1, z5_HZ1, z6_HZ1, z7_HZ1, z8_HZ1, z9_HZ1, zl_HZ1⟩ := HZ.out _ hX1
    have z1 := hX1.size
    simp only [World.alloc, Array.size_push] at z1
    clear hb1 hX1 
    go_wp2_with fail
    with_reducible refine (HPC.out _ HX1.out).mono ?_
    rintro e u2 ⟨rfl, hb2⟩
    have hX2 := HX1.out.trans (hb2.mono HX1.out.size)
    have HX2 := Lib.hid hX2
    obtain ⟨k0_HB2, k1_HB2, k2_HB2, k3_HB2, k4_HB2, kl_HB2⟩ := HB.out _ hX2
    obtain ⟨p0_HP2, p1_HP2, pl_HP2⟩ := HP.out _ hX2
    obtain ⟨z0_HZ2, z1_HZ2, z2_HZ2, z3_HZ2, z4_HZ2, z5_HZ2, z6_HZ2, z7_HZ2, z8_HZ2, z9_HZ2, zl_HZ2⟩ := HZ.out _ hX2
    have z2 := hX2.size
    simp only [World.alloc, Array.size_push] at z2
    clear hb2 hX2 k0_HB1 k1_HB1 k2_HB1 k3_HB1 k4_HB1 kl_HB1 p0_HP1 p1_HP1 pl_HP1 z0_HZ1 z1_HZ1 z2_HZ1 z3_HZ1 z4_HZ1 z5_HZ1 z6_HZ1 z7_HZ1 z8_HZ1 z9_HZ1 zl_HZ1
    set_option maxRecDepth 100000 in go_wp2
    refine bodyPost_ret (v := .tuple #[rulV false none 0 0 false none 0 0 false, .bool false, .int .i64 k2]) (by simp [results, Tryd.results33, go_sem, z0_HZ2, z1_HZ2, z2_HZ2, z3_HZ2, z4_HZ2]) rfl ⟨false, none, [], 0, false, none, [], 0, false, rfl, rulR_zero _, ?_⟩
    exact Below.set5 (HAL.out.trans (HX2.out.mono HAL.out.size)) _ (by omega) _ _ _ _ _
  subst h2
  rw [if_pos rfl] at ho hk
  cases hme : Pt.meet r.left p with
  | none =>
    rw [hme] at ho hk HMe
    simp only at ho hk
    subst ho hk
    clear hms hmw hme
    generalize xs.length = nx at *
    generalize ys.length = ny at *
    generalize ps.length = np at *
    clear hbx hpx hzx hr hp hxz hyz hpz hws
    subst hW0
    clear hal
    go_enter Tryd.func33, Tryd.ntmps33
    go_wp2_with fail
    with_reducible refine (HRC.out _ HX0.out).mono ?_
    rintro e u1 ⟨rfl, hb1⟩
    have hX1 := HX0.out.trans (hb1.mono HX0.out.size)
    have HX1 := Lib.hid hX1
    obtain ⟨k0_HB1, k1_HB1, k2_HB1, k3_HB1, k4_HB1, kl_HB1⟩ := HB.out _ hX1
    obtain ⟨p0_HP1, p1_HP1, pl_HP1⟩ := HP.out _ hX1
    obtain ⟨z0_HZ1, z1_HZ1, z2_HZ1, z3_HZ1, z4_HZ1, z5_HZ1, z6_HZ1, z7_HZ1, z8_HZ1, z9_HZ1, zl_HZ1⟩ := HZ.out _ hX1
    have z1 := hX1.size
    simp only [World.alloc, Array.size_push] at z1
    clear hb1 hX1 
    go_wp2_with fail
    with_reducible refine (HPC.out _ HX1.out).mono ?_
    rintro e u2 ⟨rfl, hb2⟩
    have hX2 := HX1.out.trans (hb2.mono HX1.out.size)
    have HX2 := Lib.hid hX2
    obtain ⟨k0_HB2, k1_HB2, k2_HB2, k3_HB2, k4_HB2, kl_HB2⟩ := HB.out _ hX2
    obtain ⟨p0_HP2, p1_HP2, pl_HP2⟩ := HP.out _ hX2
    obtain ⟨z0_HZ2, z1_HZ2, z2_HZ2, z3_HZ2, z4_HZ2, z5_HZ2, z6_HZ2, z7_HZ2, z8_HZ2, z9_HZ2, zl_HZ2⟩ := HZ.out _ hX2
    have z2 := hX2.size
    simp only [World.alloc, Array.size_push] at z2
    clear hb2 hX2 k0_HB1 k1_HB1 k2_HB1 k3_HB1 k4_HB1 kl_HB1 p0_HP1 p1_HP1 pl_HP1 z0_HZ1 z1_HZ1 z2_HZ1 z3_HZ1 z4_HZ1 z5_HZ1 z6_HZ1 z7_HZ1 z8_HZ1 z9_HZ1 zl_HZ1
    go_wp2_with fail
    with_reducible refine (HMe.out _ HX2.out).mono ?_
    rintro e u3 ⟨C, zs, cz, g, rfl, hpm, hb3⟩
    have hX3 := HX2.out.trans (hb3.mono HX2.out.size)
    have HX3 := Lib.hid hX3
    obtain ⟨k0_HB3, k1_HB3, k2_HB3, k3_HB3, k4_HB3, kl_HB3⟩ := HB.out _ hX3
    obtain ⟨p0_HP3, p1_HP3, pl_HP3⟩ := HP.out _ hX3
    obtain ⟨z0_HZ3, z1_HZ3, z2_HZ3, z3_HZ3, z4_HZ3, z5_HZ3, z6_HZ3, z7_HZ3, z8_HZ3, z9_HZ3, zl_HZ3⟩ := HZ.out _ hX3
    have z3 := hX3.size
    simp only [World.alloc, Array.size_push] at z3
    generalize zs.length = nz at *
    clear hpm
    clear hb3 hX3 k0_HB2 k1_HB2 k2_HB2 k3_HB2 k4_HB2 kl_HB2 p0_HP2 p1_HP2 pl_HP2 z0_HZ2 z1_HZ2 z2_HZ2 z3_HZ2 z4_HZ2 z5_HZ2 z6_HZ2 z7_HZ2 z8_HZ2 z9_HZ2 zl_HZ2
    have gg := fun o => res_alloc5 o (.bool false) (.slice none 0 0) (.bool false) (.slice none 0 0) (.bool false) (HZ.out _ HX3.out)
    set_option maxRecDepth 100000 in go_wp2
    refine bodyPost_ret (v := .tuple #[rulV false none 0 0 false none 0 0 false, .bool false, .int .i64 0]) (by simp [results, Tryd.results33, go_sem, (gg _).1, (gg _).2.1, (gg _).2.2.1, (gg _).2.2.2.1, (gg _).2.2.2.2]) rfl ⟨false, none, [], 0, false, none, [], 0, false, rfl, rulR_zero _, ?_⟩
    exact (Below.set5 (HAL.out.trans (HX3.out.mono HAL.out.size)) _ (by omega) _ _ _ _ _).alloc (by have := HAL.out.size; have := HX3.out.size; simp [World.setCell]; omega) _
  | some m =>
    obtain ⟨l, hbd, h3, h4⟩ := hmw m hme
    have hsz := hms m hme
    have hbs := Pt.bind_sizes hsz hbd
    rw [hme] at ho hk HMe
    simp only [hbd, Option.getD_some] at ho hk
    clear hms hmw hme h3 h4
    have HSZ := Lib.hid hsz
    have HBS := Lib.hid hbs
    have HBN := Lib.hid hbd
    have HO := Lib.hid ho
    have HK := Lib.hid hk
    clear hsz hbs hbd ho hk
    generalize xs.length = nx at *
    generalize ys.length = ny at *
    generalize ps.length = np at *
    clear hbx hpx hzx hr hp hxz hyz hpz hws
    subst hW0
    clear hal
    go_enter Tryd.func33, Tryd.ntmps33
    go_wp2_with fail
    with_reducible refine (HRC.out _ HX0.out).mono ?_
    rintro e u1 ⟨rfl, hb1⟩
    have hX1 := HX0.out.trans (hb1.mono HX0.out.size)
    have HX1 := Lib.hid hX1
    obtain ⟨k0_HB1, k1_HB1, k2_HB1, k3_HB1, k4_HB1, kl_HB1⟩ := HB.out _ hX1
    obtain ⟨p0_HP1, p1_HP1, pl_HP1⟩ := HP.out _ hX1
    obtain ⟨z0_HZ1, z1_HZ1, z2_HZ1, z3_HZ1, z4_HZ1, z5_HZ1, z6_HZ1, z7_HZ1, z8_HZ1, z9_HZ1, zl_HZ1⟩ := HZ.out _ hX1
    have z1 := hX1.size
    simp only [World.alloc, Array.size_push] at z1
    clear hb1 hX1 
    go_wp2_with fail
    with_reducible refine (HPC.out _ HX1.out).mono ?_
    rintro e u2 ⟨rfl, hb2⟩
    have hX2 := HX1.out.trans (hb2.mono HX1.out.size)
    have HX2 := Lib.hid hX2
    obtain ⟨k0_HB2, k1_HB2, k2_HB2, k3_HB2, k4_HB2, kl_HB2⟩ := HB.out _ hX2
    obtain ⟨p0_HP2, p1_HP2, pl_HP2⟩ := HP.out _ hX2
    obtain ⟨z0_HZ2, z1_HZ2, z2_HZ2, z3_HZ2, z4_HZ2, z5_HZ2, z6_HZ2, z7_HZ2, z8_HZ2, z9_HZ2, zl_HZ2⟩ := HZ.out _ hX2
    have z2 := hX2.size
    simp only [World.alloc, Array.size_push] at z2
    clear hb2 hX2 k0_HB1 k1_HB1 k2_HB1 k3_HB1 k4_HB1 kl_HB1 p0_HP1 p1_HP1 pl_HP1 z0_HZ1 z1_HZ1 z2_HZ1 z3_HZ1 z4_HZ1 z5_HZ1 z6_HZ1 z7_HZ1 z8_HZ1 z9_HZ1 zl_HZ1
    go_wp2_with fail
    with_reducible refine (HMe.out _ HX2.out).mono ?_
    rintro e u3 ⟨C, zs, cz, g, rfl, hpm, hb3⟩
    have hX3 := HX2.out.trans (hb3.mono HX2.out.size)
    have HX3 := Lib.hid hX3
    obtain ⟨k0_HB3, k1_HB3, k2_HB3, k3_HB3, k4_HB3, kl_HB3⟩ := HB.out _ hX3
    obtain ⟨p0_HP3, p1_HP3, pl_HP3⟩ := HP.out _ hX3
    obtain ⟨z0_HZ3, z1_HZ3, z2_HZ3, z3_HZ3, z4_HZ3, z5_HZ3, z6_HZ3, z7_HZ3, z8_HZ3, z9_HZ3, zl_HZ3⟩ := HZ.out _ hX3
    have z3 := hX3.size
    simp only [World.alloc, Array.size_push] at z3
    have ha3 : Below u3.heap.size u3 (u3.alloc (.cells #[.slice C zs.length cz, .bool g] 24)) := (Below.refl _ _).alloc (Nat.le_refl _) _
    have hXa := hX3.trans (ha3.mono hX3.size)
    have HXa := Lib.hid hXa
    have hpm3 : PatR (u3.alloc (.cells #[.slice C zs.length cz, .bool g] 24)) C zs cz g m := hpm.keep ha3
    have HPM := Lib.hid hpm3
    obtain ⟨a0, a1, a2, a3, a4, al⟩ := HB.out _ hXa
    have hgx := PBox.new u3 C zs.length cz g
    have HGX := Lib.hid (fun (w' : World) (hb : Below (u3.alloc (.cells #[.slice C zs.length cz, .bool g] 24)).heap.size (u3.alloc (.cells #[.slice C zs.length cz, .bool g] 24)) w') => hgx.keep hb)
    obtain ⟨b0, b1, bl0⟩ := hgx
    have HBq := Lib.hid (HBd.out C zs cz g m _ hXa hpm3)
    rw [HBN.out] at HBq
    clear ha3 hXa hpm hpm3
    clear hb3 hX3 k0_HB2 k1_HB2 k2_HB2 k3_HB2 k4_HB2 kl_HB2 p0_HP2 p1_HP2 pl_HP2 z0_HZ2 z1_HZ2 z2_HZ2 z3_HZ2 z4_HZ2 z5_HZ2 z6_HZ2 z7_HZ2 z8_HZ2 z9_HZ2 zl_HZ2
    go_wp2_with fail
    with_reducible refine (HBq.out).mono ?_
    rintro e u4 ⟨v4, bl, rfl, hob, hmap, hb4⟩
    have hX4 := HXa.out.trans (hb4.mono HXa.out.size)
    have HX4 := Lib.hid hX4
    obtain ⟨k0_HB4, k1_HB4, k2_HB4, k3_HB4, k4_HB4, kl_HB4⟩ := HB.out _ hX4
    obtain ⟨p0_HP4, p1_HP4, pl_HP4⟩ := HP.out _ hX4
    obtain ⟨z0_HZ4, z1_HZ4, z2_HZ4, z3_HZ4, z4_HZ4, z5_HZ4, z6_HZ4, z7_HZ4, z8_HZ4, z9_HZ4, zl_HZ4⟩ := HZ.out _ hX4
    have z4 := hX4.size
    simp only [World.alloc, Array.size_push] at z4
    obtain ⟨v4A, v4c, rfl, hrd⟩ := hob.rd
    obtain ⟨e0, e1, el⟩ := HGX.out _ hb4
    have HG4 := Lib.hid (Below.refl u4.heap.size u4)
    have HPM4 := Lib.hid (HPM.out.keep hb4)
    have hv1 : ∀ v ∈ bl, (∀ y ∈ v.xs, y.size ≤ 100000) ∧ v.xs.length ≤ 1000 := fun v hv => by
      have h5 := HBS.out v.pat (by rw [← hmap]; exact List.mem_map_of_mem hv)
      refine ⟨fun y hy => ?_, ?_⟩
      · have := h5.1 y.data.toList (List.mem_map_of_mem hy)
        rw [Lib.size_eq]; omega
      · have := h5.2
        simp only [BindV.pat, bs_length] at this
        omega
    have HSq := Lib.hid (HSu.out v4A bl v4c u4 hX4 hrd (fun v hv => (hv1 v hv).1) (fun v hv => (hv1 v hv).2))
    rw [hmap] at HSq
    have hbk := HGX.out
    clear hob hmap hrd hv1 hbk a0 a1 a2 a3 a4 al b0 b1 bl0
    generalize bl.length = nb at *
    clear hb4 hX4 k0_HB3 k1_HB3 k2_HB3 k3_HB3 k4_HB3 kl_HB3 p0_HP3 p1_HP3 pl_HP3 z0_HZ3 z1_HZ3 z2_HZ3 z3_HZ3 z4_HZ3 z5_HZ3 z6_HZ3 z7_HZ3 z8_HZ3 z9_HZ3 zl_HZ3
    go_wp2_with fail
    with_reducible refine (HSq.out).mono ?_
    rintro e u5 ⟨D, ws, dw, h, rfl, hps, hb5⟩
    have hX5 := HX4.out.trans (hb5.mono HX4.out.size)
    have HX5 := Lib.hid hX5
    obtain ⟨k0_HB5, k1_HB5, k2_HB5, k3_HB5, k4_HB5, kl_HB5⟩ := HB.out _ hX5
    obtain ⟨p0_HP5, p1_HP5, pl_HP5⟩ := HP.out _ hX5
    obtain ⟨z0_HZ5, z1_HZ5, z2_HZ5, z3_HZ5, z4_HZ5, z5_HZ5, z6_HZ5, z7_HZ5, z8_HZ5, z9_HZ5, zl_HZ5⟩ := HZ.out _ hX5
    have z5 := hX5.size
    simp only [World.alloc, Array.size_push] at z5
    have e2 := (hb5.cell (p := ⟨u3.heap.size, 0, none⟩) el).trans e0
    have e3 := (hb5.cell (p := ⟨u3.heap.size, 1, none⟩) el).trans e1
    have e4 : u3.heap.size < u5.heap.size := Nat.lt_of_lt_of_le el hb5.size
    have HPM5 := Lib.hid (HPM4.out.keep hb5)
    have HPS := Lib.hid hps
    clear e0 e1 el hps
    clear hb5 hX5 k0_HB4 k1_HB4 k2_HB4 k3_HB4 k4_HB4 kl_HB4 p0_HP4 p1_HP4 pl_HP4 z0_HZ4 z1_HZ4 z2_HZ4 z3_HZ4 z4_HZ4 z5_HZ4 z6_HZ4 z7_HZ4 z8_HZ4 z9_HZ4 zl_HZ4
    have hk := HK.out
    have ho := HO.out
    generalize Pt.substErr r.right l = ke at *
    generalize Pt.subst r.right l = ms at *
    by_cases hke : ke = 0
    rotate_left
    · rw [if_neg hke] at ho hk
      subst ho hk
      have t1 : ((ke : Int) == 0) = false := by rw [beq_eq_false_iff_ne]; omega
      have t2 : ((ke : Int) != 0) = true := by rw [bne, t1]; rfl
      clear hke
      generalize ws.length = nw at *
      generalize zs.length = nz at *
      have gg := fun o => res_alloc5 o (.bool false) (.slice none 0 0) (.bool false) (.slice none 0 0) (.bool false) (HZ.out _ HX5.out)
      set_option maxRecDepth 100000 in go_wp2
      refine bodyPost_ret (v := .tuple #[rulV false none 0 0 false none 0 0 false, .bool false, .int .i64 43]) (by simp [results, Tryd.results33, go_sem, (gg _).1, (gg _).2.1, (gg _).2.2.1, (gg _).2.2.2.1, (gg _).2.2.2.2]) rfl ⟨false, none, [], 0, false, none, [], 0, false, rfl, rulR_zero _, ?_⟩
      exact (Below.set5 (HAL.out.trans (HX5.out.mono HAL.out.size)) _ (by omega) _ _ _ _ _).alloc (by have := HAL.out.size; have := HX5.out.size; simp [World.setCell]; omega) _
    subst hke
    rw [if_pos rfl] at ho hk
    subst ho hk
    have ha5 : ∀ o, Below u5.heap.size u5 (u5.alloc o) := fun o => (Below.refl _ _).alloc (Nat.le_refl _) o
    have f0 := ((ha5 (.cells #[.slice D ws.length dw, .bool h] 24)).cell (p := ⟨u3.heap.size, 0, none⟩) e4).trans e2
    have f1 := ((ha5 (.cells #[.slice D ws.length dw, .bool h] 24)).cell (p := ⟨u3.heap.size, 1, none⟩) e4).trans e3
    clear ha5
    have HZ5 := Lib.hid (HZ.out _ HX5.out)
    have gg := fun o => res_alloc5 o (.bool false) (.slice C zs.length cz) (.bool g) (.slice D ws.length dw) (.bool h) HZ5.out
    set_option maxRecDepth 100000 in go_wp2
    refine bodyPost_ret (v := .tuple #[rulV false C zs.length cz g D ws.length dw h, .bool true, .int .i64 0]) (by simp [results, Tryd.results33, go_sem, (gg _).1, (gg _).2.1, (gg _).2.2.1, (gg _).2.2.2.1, (gg _).2.2.2.2]) rfl ⟨false, C, zs, cz, g, D, ws, dw, h, rfl, ⟨rfl, ?_, ?_⟩, ?_⟩
    · exact (HPM5.out.grow5 _ _ _ _ _ _ HZ5.out).keep ((Below.refl _ _).alloc (Nat.le_refl _) _)
    · exact (HPS.out.grow5 _ _ _ _ _ _ HZ5.out).keep ((Below.refl _ _).alloc (Nat.le_refl _) _)
    · exact (Below.set5 (HAL.out.trans (HX5.out.mono HAL.out.size)) _ (by omega) _ _ _ _ _).alloc (by have := HAL.out.size; have := HX5.out.size; simp [World.setCell]; omega) _
set_option maxHeartbeats 16000000 in
theorem qnl_any (ex : Bool) (A : Option Addr) (xs : List ByteArray) (c : Nat) (b : Bool) (B : Option Addr) (ys : List ByteArray) (d : Nat) (f : Bool) (r : Pt.Rul) (P : Option Addr) (ps : List ByteArray) (pc : Nat) (pb : Bool) (p : Pt.Pat) (w : World) (hr : RulR w ex A xs c b B ys d f r) (hp : PatR w P ps pc pb p) (hxz : Pt.szs 50000 r.left) (hyz : Pt.szs 100000 r.right) (hpz : Pt.szs 50000 p) :
    Calls Tryd.prog 34 #[rulV ex A xs.length c b B ys.length d f, patV P ps.length pc pb] w (GivesR w (Pt.nleft r p) (Pt.nleftE r p)) := by
  obtain ⟨W0, hW0⟩ : ∃ W0, W0 = ((w.alloc (.cells #[.bool ex, .slice A xs.length c, .bool b, .slice B ys.length d, .bool f] 39)).alloc (.cells #[.slice P ps.length pc, .bool pb] 24)).alloc zeroRul := ⟨_, rfl⟩
  have hal : Below w.heap.size w W0 := by rw [hW0]; exact (((Below.refl _ _).alloc (Nat.le_refl _) _).alloc (by simp) _).alloc (by simp; omega) _
  have HX0 := Lib.hid (Below.refl W0.heap.size W0)
  have HAL := Lib.hid hal
  obtain ⟨hbx, hpx, hzx⟩ : RBox W0 w.heap.size ex A xs.length c b B ys.length d f ∧ PBox W0 (w.heap.size + 1) P ps.length pc pb ∧ ZRul W0 (w.heap.size + 1 + 1) := by rw [hW0]; exact boxes3 w ex A xs.length c b B ys.length d f P ps.length pc pb
  have HB := Lib.hid (fun (w' : World) (hb : Below W0.heap.size W0 w') => hbx.keep hb)
  have HP := Lib.hid (fun (w' : World) (hb : Below W0.heap.size W0 w') => hpx.keep hb)
  have HZ := Lib.hid (fun (w' : World) (hb : Below W0.heap.size W0 w') => hzx.keep hb)
  have HRC := Lib.hid (fun (w' : World) (hb : Below W0.heap.size W0 w') => qcheck_any ex A xs c b B ys d f r w' (hr.keep (hal.trans (hb.mono hal.size))))
  have HPC := Lib.hid (fun (w' : World) (hb : Below W0.heap.size W0 w') => rcheck_any P ps pc pb p w' (hp.keep (hal.trans (hb.mono hal.size))))
  have HMe := Lib.hid (fun (w' : World) (hb : Below W0.heap.size W0 w') => rmeet_any A P xs ps c pc b pb r.left p w' (hr.left.keep (hal.trans (hb.mono hal.size))) (hp.keep (hal.trans (hb.mono hal.size))))
  have HBd := Lib.hid (fun (C : Option Addr) (zs : List ByteArray) (e : Nat) (g : Bool) (m : Pt.Pat) (w' : World) (hb : Below W0.heap.size W0 w') (hq : PatR w' C zs e g m) => rbind_any A C xs zs c e b g r.left m w' (hr.left.keep (hal.trans (hb.mono hal.size))) hq)
  have HSu := Lib.hid (fun (C : Option Addr) (bl : List BindV) (e : Nat) (w' : World) (hb : Below W0.heap.size W0 w') (hl : RdB w' C bl e) (h1 : ∀ v ∈ bl, ∀ y ∈ v.xs, y.size ≤ 100000) (h2 : ∀ v ∈ bl, v.xs.length ≤ 1000) => rsubst_any B C ys bl d e f r.right w' (hr.right.keep (hal.trans (hb.mono hal.size))) hl (fun y hy => by
    have := hyz y.data.toList (by rw [← hr.right.parts]; exact List.mem_map_of_mem hy)
    rw [Lib.size_eq]; exact this) h1 h2)
  obtain ⟨o, ho⟩ : ∃ o, o = Pt.nleft r p := ⟨_, rfl⟩
  obtain ⟨k, hk⟩ : ∃ k, k = Pt.nleftE r p := ⟨_, rfl⟩
  rw [← ho, ← hk]
  unfold Pt.nleft at ho
  unfold Pt.nleftE at hk
  have hms := fun m (h : Pt.meet r.left p = some m) => Pt.meet_sizes hxz hpz h
  have hmw := fun m (h : Pt.meet r.left p = some m) => Pt.bind_within (Pt.meet_within h).1
  generalize Pt.rcheck r = k1 at ho hk HRC
  generalize Pt.check p = k2 at ho hk HPC
  have hws : W0.heap.size = w.heap.size + 1 + 1 + 1 := by rw [hW0]; simp
  have HWS := Lib.hid hws
  by_cases h1 : k1 = 0
  rotate_left
  · rw [if_neg h1] at ho hk
    subst ho
    rw [hk]
    clear hk
    have t1 : ((k1 : Int) == 0) = false := by rw [beq_eq_false_iff_ne]; omega
    have t2 : ((k1 : Int) != 0) = true := by rw [bne, t1]; rfl
    clear h1 hms hmw
    generalize xs.length = nx at *
    generalize ys.length = ny at *
    generalize ps.length = np at *
    clear hbx hpx hzx hr hp hxz hyz hpz hws
    subst hW0
    clear hal
    go_enter Tryd.func34, Tryd.ntmps34
    go_wp2_with fail
    with_reducible refine (HRC.out _ HX0.out).mono ?_
    rintro e u1 ⟨rfl, hb1⟩
    have hX1 := HX0.out.trans (hb1.mono HX0.out.size)
    have HX1 := Lib.hid hX1
    obtain ⟨k0_HB1, k1_HB1, k2_HB1, k3_HB1, k4_HB1, kl_HB1⟩ := HB.out _ hX1
    obtain ⟨p0_HP1, p1_HP1, pl_HP1⟩ := HP.out _ hX1
    obtain ⟨z0_HZ1, z1_HZ1, z2_HZ1, z3_HZ1, z4_HZ1, z5_HZ1, z6_HZ1, z7_HZ1, z8_HZ1, z9_HZ1, zl_HZ1⟩ := HZ.out _ hX1
    have z1 := hX1.size
    simp only [World.alloc, Array.size_push] at z1
    clear hb1 hX1 
    set_option maxRecDepth 100000 in go_wp2
    refine bodyPost_ret (v := .tuple #[rulV false none 0 0 false none 0 0 false, .bool false, .int .i64 k1]) (by simp [results, Tryd.results34, go_sem, z0_HZ1, z1_HZ1, z2_HZ1, z3_HZ1, z4_HZ1]) rfl ⟨false, none, [], 0, false, none, [], 0, false, rfl, rulR_zero _, ?_⟩
    exact Below.set5 (HAL.out.trans (HX1.out.mono HAL.out.size)) _ (by omega) _ _ _ _ _
  subst h1
  rw [if_pos rfl] at ho hk
  by_cases h2 : k2 = 0
  rotate_left
  · rw [if_neg h2] at ho hk
    subst ho
    rw [hk]
    clear hk
    have t1 : ((k2 : Int) == 0) = false := by rw [beq_eq_false_iff_ne]; omega
    have t2 : ((k2 : Int) != 0) = true := by rw [bne, t1]; rfl
    clear h2 hms hmw
    generalize xs.length = nx at *
    generalize ys.length = ny at *
    generalize ps.length = np at *
    clear hbx hpx hzx hr hp hxz hyz hpz hws
    subst hW0
    clear hal
    go_enter Tryd.func34, Tryd.ntmps34
    go_wp2_with fail
    with_reducible refine (HRC.out _ HX0.out).mono ?_
    rintro e u1 ⟨rfl, hb1⟩
    have hX1 := HX0.out.trans (hb1.mono HX0.out.size)
    have HX1 := Lib.hid hX1
    obtain ⟨k0_HB1, k1_HB1, k2_HB1, k3_HB1, k4_HB1, kl_HB1⟩ := HB.out _ hX1
    obtain ⟨p0_HP1, p1_HP1, pl_HP1⟩ := HP.out _ hX1
    obtain ⟨z0_HZ1, z1_HZ1, z2_HZ1, z3_HZ1, z4_HZ1, z5_HZ1, z6_HZ1, z7_HZ1, z8_HZ1, z9_HZ1, zl_HZ1⟩ := HZ.out _ hX1
    have z1 := hX1.size
    simp only [World.alloc, Array.size_push] at z1
    clear hb1 hX1 
    go_wp2_with fail
    with_reducible refine (HPC.out _ HX1.out).mono ?_
    rintro e u2 ⟨rfl, hb2⟩
    have hX2 := HX1.out.trans (hb2.mono HX1.out.size)
    have HX2 := Lib.hid hX2
    obtain ⟨k0_HB2, k1_HB2, k2_HB2, k3_HB2, k4_HB2, kl_HB2⟩ := HB.out _ hX2
    obtain ⟨p0_HP2, p1_HP2, pl_HP2⟩ := HP.out _ hX2
    obtain ⟨z0_HZ2, z1_HZ2, z2_HZ2, z3_HZ2, z4_HZ2, z5_HZ2, z6_HZ2, z7_HZ2, z8_HZ2, z9_HZ2, zl_HZ2⟩ := HZ.out _ hX2
    have z2 := hX2.size
    simp only [World.alloc, Array.size_push] at z2
    clear hb2 hX2 k0_HB1 k1_HB1 k2_HB1 k3_HB1 k4_HB1 kl_HB1 p0_HP1 p1_HP1 pl_HP1 z0_HZ1 z1_HZ1 z2_HZ1 z3_HZ1 z4_HZ1 z5_HZ1 z6_HZ1 z7_HZ1 z8_HZ1 z9_HZ1 zl_HZ1
    set_option maxRecDepth 100000 in go_wp2
    refine bodyPost_ret (v := .tuple #[rulV false none 0 0 false none 0 0 false, .bool false, .int .i64 k2]) (by simp [results, Tryd.results34, go_sem, z0_HZ2, z1_HZ2, z2_HZ2, z3_HZ2, z4_HZ2]) rfl ⟨false, none, [], 0, false, none, [], 0, false, rfl, rulR_zero _, ?_⟩
    exact Below.set5 (HAL.out.trans (HX2.out.mono HAL.out.size)) _ (by omega) _ _ _ _ _
  subst h2
  rw [if_pos rfl] at ho hk
  cases hme : Pt.meet r.left p with
  | none =>
    rw [hme] at ho hk HMe
    simp only at ho hk
    subst ho hk
    clear hms hmw hme
    generalize xs.length = nx at *
    generalize ys.length = ny at *
    generalize ps.length = np at *
    clear hbx hpx hzx hr hp hxz hyz hpz hws
    subst hW0
    clear hal
    go_enter Tryd.func34, Tryd.ntmps34
    go_wp2_with fail
    with_reducible refine (HRC.out _ HX0.out).mono ?_
    rintro e u1 ⟨rfl, hb1⟩
    have hX1 := HX0.out.trans (hb1.mono HX0.out.size)
    have HX1 := Lib.hid hX1
    obtain ⟨k0_HB1, k1_HB1, k2_HB1, k3_HB1, k4_HB1, kl_HB1⟩ := HB.out _ hX1
    obtain ⟨p0_HP1, p1_HP1, pl_HP1⟩ := HP.out _ hX1
    obtain ⟨z0_HZ1, z1_HZ1, z2_HZ1, z3_HZ1, z4_HZ1, z5_HZ1, z6_HZ1, z7_HZ1, z8_HZ1, z9_HZ1, zl_HZ1⟩ := HZ.out _ hX1
    have z1 := hX1.size
    simp only [World.alloc, Array.size_push] at z1
    clear hb1 hX1 
    go_wp2_with fail
    with_reducible refine (HPC.out _ HX1.out).mono ?_
    rintro e u2 ⟨rfl, hb2⟩
    have hX2 := HX1.out.trans (hb2.mono HX1.out.size)
    have HX2 := Lib.hid hX2
    obtain ⟨k0_HB2, k1_HB2, k2_HB2, k3_HB2, k4_HB2, kl_HB2⟩ := HB.out _ hX2
    obtain ⟨p0_HP2, p1_HP2, pl_HP2⟩ := HP.out _ hX2
    obtain ⟨z0_HZ2, z1_HZ2, z2_HZ2, z3_HZ2, z4_HZ2, z5_HZ2, z6_HZ2, z7_HZ2, z8_HZ2, z9_HZ2, zl_HZ2⟩ := HZ.out _ hX2
    have z2 := hX2.size
    simp only [World.alloc, Array.size_push] at z2
    clear hb2 hX2 k0_HB1 k1_HB1 k2_HB1 k3_HB1 k4_HB1 kl_HB1 p0_HP1 p1_HP1 pl_HP1 z0_HZ1 z1_HZ1 z2_HZ1 z3_HZ1 z4_HZ1 z5_HZ1 z6_HZ1 z7_HZ1 z8_HZ1 z9_HZ1 zl_HZ1
    go_wp2_with fail
    with_reducible refine (HMe.out _ HX2.out).mono ?_
    rintro e u3 ⟨C, zs, cz, g, rfl, hpm, hb3⟩
    have hX3 := HX2.out.trans (hb3.mono HX2.out.size)
    have HX3 := Lib.hid hX3
    obtain ⟨k0_HB3, k1_HB3, k2_HB3, k3_HB3, k4_HB3, kl_HB3⟩ := HB.out _ hX3
    obtain ⟨p0_HP3, p1_HP3, pl_HP3⟩ := HP.out _ hX3
    obtain ⟨z0_HZ3, z1_HZ3, z2_HZ3, z3_HZ3, z4_HZ3, z5_HZ3, z6_HZ3, z7_HZ3, z8_HZ3, z9_HZ3, zl_HZ3⟩ := HZ.out _ hX3
    have z3 := hX3.size
    simp only [World.alloc, Array.size_push] at z3
    generalize zs.length = nz at *
    clear hpm
    clear hb3 hX3 k0_HB2 k1_HB2 k2_HB2 k3_HB2 k4_HB2 kl_HB2 p0_HP2 p1_HP2 pl_HP2 z0_HZ2 z1_HZ2 z2_HZ2 z3_HZ2 z4_HZ2 z5_HZ2 z6_HZ2 z7_HZ2 z8_HZ2 z9_HZ2 zl_HZ2
    have gg := fun o => res_alloc5 o (.bool false) (.slice none 0 0) (.bool false) (.slice none 0 0) (.bool false) (HZ.out _ HX3.out)
    set_option maxRecDepth 100000 in go_wp2
    refine bodyPost_ret (v := .tuple #[rulV false none 0 0 false none 0 0 false, .bool false, .int .i64 0]) (by simp [results, Tryd.results34, go_sem, (gg _).1, (gg _).2.1, (gg _).2.2.1, (gg _).2.2.2.1, (gg _).2.2.2.2]) rfl ⟨false, none, [], 0, false, none, [], 0, false, rfl, rulR_zero _, ?_⟩
    exact (Below.set5 (HAL.out.trans (HX3.out.mono HAL.out.size)) _ (by omega) _ _ _ _ _).alloc (by have := HAL.out.size; have := HX3.out.size; simp [World.setCell]; omega) _
  | some m =>
    obtain ⟨l, hbd, h3, h4⟩ := hmw m hme
    have hsz := hms m hme
    have hbs := Pt.bind_sizes hsz hbd
    rw [hme] at ho hk HMe
    simp only [hbd, Option.getD_some] at ho hk
    clear hms hmw hme h3 h4
    have HSZ := Lib.hid hsz
    have HBS := Lib.hid hbs
    have HBN := Lib.hid hbd
    have HO := Lib.hid ho
    have HK := Lib.hid hk
    clear hsz hbs hbd ho hk
    generalize xs.length = nx at *
    generalize ys.length = ny at *
    generalize ps.length = np at *
    clear hbx hpx hzx hr hp hxz hyz hpz hws
    subst hW0
    clear hal
    go_enter Tryd.func34, Tryd.ntmps34
    go_wp2_with fail
    with_reducible refine (HRC.out _ HX0.out).mono ?_
    rintro e u1 ⟨rfl, hb1⟩
    have hX1 := HX0.out.trans (hb1.mono HX0.out.size)
    have HX1 := Lib.hid hX1
    obtain ⟨k0_HB1, k1_HB1, k2_HB1, k3_HB1, k4_HB1, kl_HB1⟩ := HB.out _ hX1
    obtain ⟨p0_HP1, p1_HP1, pl_HP1⟩ := HP.out _ hX1
    obtain ⟨z0_HZ1, z1_HZ1, z2_HZ1, z3_HZ1, z4_HZ1, z5_HZ1, z6_HZ1, z7_HZ1, z8_HZ1, z9_HZ1, zl_HZ1⟩ := HZ.out _ hX1
    have z1 := hX1.size
    simp only [World.alloc, Array.size_push] at z1
    clear hb1 hX1 
    go_wp2_with fail
    with_reducible refine (HPC.out _ HX1.out).mono ?_
    rintro e u2 ⟨rfl, hb2⟩
    have hX2 := HX1.out.trans (hb2.mono HX1.out.size)
    have HX2 := Lib.hid hX2
    obtain ⟨k0_HB2, k1_HB2, k2_HB2, k3_HB2, k4_HB2, kl_HB2⟩ := HB.out _ hX2
    obtain ⟨p0_HP2, p1_HP2, pl_HP2⟩ := HP.out _ hX2
    obtain ⟨z0_HZ2, z1_HZ2, z2_HZ2, z3_HZ2, z4_HZ2, z5_HZ2, z6_HZ2, z7_HZ2, z8_HZ2, z9_HZ2, zl_HZ2⟩ := HZ.out _ hX2
    have z2 := hX2.size
    simp only [World.alloc, Array.size_push] at z2
    clear hb2 hX2 k0_HB1 k1_HB1 k2_HB1 k3_HB1 k4_HB1 kl_HB1 p0_HP1 p1_HP1 pl_HP1 z0_HZ1 z1_HZ1 z2_HZ1 z3_HZ1 z4_HZ1 z5_HZ1 z6_HZ1 z7_HZ1 z8_HZ1 z9_HZ1 zl_HZ1
    go_wp2_with fail
    with_reducible refine (HMe.out _ HX2.out).mono ?_
    rintro e u3 ⟨C, zs, cz, g, rfl, hpm, hb3⟩
    have hX3 := HX2.out.trans (hb3.mono HX2.out.size)
    have HX3 := Lib.hid hX3
    obtain ⟨k0_HB3, k1_HB3, k2_HB3, k3_HB3, k4_HB3, kl_HB3⟩ := HB.out _ hX3
    obtain ⟨p0_HP3, p1_HP3, pl_HP3⟩ := HP.out _ hX3
    obtain ⟨z0_HZ3, z1_HZ3, z2_HZ3, z3_HZ3, z4_HZ3, z5_HZ3, z6_HZ3, z7_HZ3, z8_HZ3, z9_HZ3, zl_HZ3⟩ := HZ.out _ hX3
    have z3 := hX3.size
    simp only [World.alloc, Array.size_push] at z3
    have ha3 : Below u3.heap.size u3 (u3.alloc (.cells #[.slice C zs.length cz, .bool g] 24)) := (Below.refl _ _).alloc (Nat.le_refl _) _
    have hXa := hX3.trans (ha3.mono hX3.size)
    have HXa := Lib.hid hXa
    have hpm3 : PatR (u3.alloc (.cells #[.slice C zs.length cz, .bool g] 24)) C zs cz g m := hpm.keep ha3
    have HPM := Lib.hid hpm3
    obtain ⟨a0, a1, a2, a3, a4, al⟩ := HB.out _ hXa
    have hgx := PBox.new u3 C zs.length cz g
    have HGX := Lib.hid (fun (w' : World) (hb : Below (u3.alloc (.cells #[.slice C zs.length cz, .bool g] 24)).heap.size (u3.alloc (.cells #[.slice C zs.length cz, .bool g] 24)) w') => hgx.keep hb)
    obtain ⟨b0, b1, bl0⟩ := hgx
    have HBq := Lib.hid (HBd.out C zs cz g m _ hXa hpm3)
    rw [HBN.out] at HBq
    clear ha3 hXa hpm hpm3
    clear hb3 hX3 k0_HB2 k1_HB2 k2_HB2 k3_HB2 k4_HB2 kl_HB2 p0_HP2 p1_HP2 pl_HP2 z0_HZ2 z1_HZ2 z2_HZ2 z3_HZ2 z4_HZ2 z5_HZ2 z6_HZ2 z7_HZ2 z8_HZ2 z9_HZ2 zl_HZ2
    go_wp2_with fail
    with_reducible refine (HBq.out).mono ?_
    rintro e u4 ⟨v4, bl, rfl, hob, hmap, hb4⟩
    have hX4 := HXa.out.trans (hb4.mono HXa.out.size)
    have HX4 := Lib.hid hX4
    obtain ⟨k0_HB4, k1_HB4, k2_HB4, k3_HB4, k4_HB4, kl_HB4⟩ := HB.out _ hX4
    obtain ⟨p0_HP4, p1_HP4, pl_HP4⟩ := HP.out _ hX4
    obtain ⟨z0_HZ4, z1_HZ4, z2_HZ4, z3_HZ4, z4_HZ4, z5_HZ4, z6_HZ4, z7_HZ4, z8_HZ4, z9_HZ4, zl_HZ4⟩ := HZ.out _ hX4
    have z4 := hX4.size
    simp only [World.alloc, Array.size_push] at z4
    obtain ⟨v4A, v4c, rfl, hrd⟩ := hob.rd
    obtain ⟨e0, e1, el⟩ := HGX.out _ hb4
    have HG4 := Lib.hid (Below.refl u4.heap.size u4)
    have HPM4 := Lib.hid (HPM.out.keep hb4)
    have hv1 : ∀ v ∈ bl, (∀ y ∈ v.xs, y.size ≤ 100000) ∧ v.xs.length ≤ 1000 := fun v hv => by
      have h5 := HBS.out v.pat (by rw [← hmap]; exact List.mem_map_of_mem hv)
      refine ⟨fun y hy => ?_, ?_⟩
      · have := h5.1 y.data.toList (List.mem_map_of_mem hy)
        rw [Lib.size_eq]; omega
      · have := h5.2
        simp only [BindV.pat, bs_length] at this
        omega
    have HSq := Lib.hid (HSu.out v4A bl v4c u4 hX4 hrd (fun v hv => (hv1 v hv).1) (fun v hv => (hv1 v hv).2))
    rw [hmap] at HSq
    have hbk := HGX.out
    clear hob hmap hrd hv1 hbk a0 a1 a2 a3 a4 al b0 b1 bl0
    generalize bl.length = nb at *
    clear hb4 hX4 k0_HB3 k1_HB3 k2_HB3 k3_HB3 k4_HB3 kl_HB3 p0_HP3 p1_HP3 pl_HP3 z0_HZ3 z1_HZ3 z2_HZ3 z3_HZ3 z4_HZ3 z5_HZ3 z6_HZ3 z7_HZ3 z8_HZ3 z9_HZ3 zl_HZ3
    go_wp2_with fail
    with_reducible refine (HSq.out).mono ?_
    rintro e u5 ⟨D, ws, dw, h, rfl, hps, hb5⟩
    have hX5 := HX4.out.trans (hb5.mono HX4.out.size)
    have HX5 := Lib.hid hX5
    obtain ⟨k0_HB5, k1_HB5, k2_HB5, k3_HB5, k4_HB5, kl_HB5⟩ := HB.out _ hX5
    obtain ⟨p0_HP5, p1_HP5, pl_HP5⟩ := HP.out _ hX5
    obtain ⟨z0_HZ5, z1_HZ5, z2_HZ5, z3_HZ5, z4_HZ5, z5_HZ5, z6_HZ5, z7_HZ5, z8_HZ5, z9_HZ5, zl_HZ5⟩ := HZ.out _ hX5
    have z5 := hX5.size
    simp only [World.alloc, Array.size_push] at z5
    have e2 := (hb5.cell (p := ⟨u3.heap.size, 0, none⟩) el).trans e0
    have e3 := (hb5.cell (p := ⟨u3.heap.size, 1, none⟩) el).trans e1
    have e4 : u3.heap.size < u5.heap.size := Nat.lt_of_lt_of_le el hb5.size
    have HPM5 := Lib.hid (HPM4.out.keep hb5)
    have HPS := Lib.hid hps
    clear e0 e1 el hps
    clear hb5 hX5 k0_HB4 k1_HB4 k2_HB4 k3_HB4 k4_HB4 kl_HB4 p0_HP4 p1_HP4 pl_HP4 z0_HZ4 z1_HZ4 z2_HZ4 z3_HZ4 z4_HZ4 z5_HZ4 z6_HZ4 z7_HZ4 z8_HZ4 z9_HZ4 zl_HZ4
    have hk := HK.out
    have ho := HO.out
    generalize Pt.substErr r.right l = ke at *
    generalize Pt.subst r.right l = ms at *
    by_cases hke : ke = 0
    rotate_left
    · rw [if_neg hke] at ho hk
      subst ho hk
      have t1 : ((ke : Int) == 0) = false := by rw [beq_eq_false_iff_ne]; omega
      have t2 : ((ke : Int) != 0) = true := by rw [bne, t1]; rfl
      clear hke
      generalize ws.length = nw at *
      generalize zs.length = nz at *
      have gg := fun o => res_alloc5 o (.bool false) (.slice none 0 0) (.bool false) (.slice none 0 0) (.bool false) (HZ.out _ HX5.out)
      set_option maxRecDepth 100000 in go_wp2
      refine bodyPost_ret (v := .tuple #[rulV false none 0 0 false none 0 0 false, .bool false, .int .i64 43]) (by simp [results, Tryd.results34, go_sem, (gg _).1, (gg _).2.1, (gg _).2.2.1, (gg _).2.2.2.1, (gg _).2.2.2.2]) rfl ⟨false, none, [], 0, false, none, [], 0, false, rfl, rulR_zero _, ?_⟩
      exact (Below.set5 (HAL.out.trans (HX5.out.mono HAL.out.size)) _ (by omega) _ _ _ _ _).alloc (by have := HAL.out.size; have := HX5.out.size; simp [World.setCell]; omega) _
    subst hke
    rw [if_pos rfl] at ho hk
    subst ho hk
    have ha5 : ∀ o, Below u5.heap.size u5 (u5.alloc o) := fun o => (Below.refl _ _).alloc (Nat.le_refl _) o
    have f0 := ((ha5 (.cells #[.slice D ws.length dw, .bool h] 24)).cell (p := ⟨u3.heap.size, 0, none⟩) e4).trans e2
    have f1 := ((ha5 (.cells #[.slice D ws.length dw, .bool h] 24)).cell (p := ⟨u3.heap.size, 1, none⟩) e4).trans e3
    clear ha5
    have HZ5 := Lib.hid (HZ.out _ HX5.out)
    have gg := fun o => res_alloc5 o (.bool false) (.slice C zs.length cz) (.bool g) (.slice D ws.length dw) (.bool h) HZ5.out
    set_option maxRecDepth 100000 in go_wp2
    refine bodyPost_ret (v := .tuple #[rulV false C zs.length cz g D ws.length dw h, .bool true, .int .i64 0]) (by simp [results, Tryd.results34, go_sem, (gg _).1, (gg _).2.1, (gg _).2.2.1, (gg _).2.2.2.1, (gg _).2.2.2.2]) rfl ⟨false, C, zs, cz, g, D, ws, dw, h, rfl, ⟨rfl, ?_, ?_⟩, ?_⟩
    · exact (HPM5.out.grow5 _ _ _ _ _ _ HZ5.out).keep ((Below.refl _ _).alloc (Nat.le_refl _) _)
    · exact (HPS.out.grow5 _ _ _ _ _ _ HZ5.out).keep ((Below.refl _ _).alloc (Nat.le_refl _) _)
    · exact (Below.set5 (HAL.out.trans (HX5.out.mono HAL.out.size)) _ (by omega) _ _ _ _ _).alloc (by have := HAL.out.size; have := HX5.out.size; simp [World.setCell]; omega) _
end Go.Proofs.YtihboibebhokbaaDoor
