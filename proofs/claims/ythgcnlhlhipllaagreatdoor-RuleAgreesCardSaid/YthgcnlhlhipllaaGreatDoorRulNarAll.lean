/- The contracts of NarrowLeft: the reference's and the program's. The contracts of NarrowRight: the program's and the reference's. The contracts of the program's checkBoth and Chain. -/
import Derived.Test.YthgcnlhlhipllaaGreatDoorRulAll
import Derived.Test.YthgcnlhlhipllaaGreatDoorPatSubAll
import Derived.Test.YthgcnlhlhipllaaGreatDoorPatGo8
import Derived.Test.YthgcnlhlhipllaaGreatDoorPatFn11
namespace Go.Proofs.YthgcnlhlhipllaaGreatDoor
open Go.RowKit

theorem boxes3 (w : World) (ex : Bool) (A : Option Addr) (n c : Nat) (b : Bool) (B : Option Addr) (m d : Nat) (f : Bool) (P : Option Addr) (q pc : Nat) (pb : Bool) :
    RBox (((w.alloc (rulObj ex A n c b B m d f)).alloc (patObj P q pc pb)).alloc zeroRul) w.heap.size ex A n c b B m d f ∧ PBox (((w.alloc (rulObj ex A n c b B m d f)).alloc (patObj P q pc pb)).alloc zeroRul) (w.heap.size + 1) P q pc pb ∧ ZRul (((w.alloc (rulObj ex A n c b B m d f)).alloc (patObj P q pc pb)).alloc zeroRul) (w.heap.size + 1 + 1) := by
  have e1 : (w.alloc (rulObj ex A n c b B m d f)).heap.size = w.heap.size + 1 := by simp
  have e2 : ((w.alloc (rulObj ex A n c b B m d f)).alloc (patObj P q pc pb)).heap.size = w.heap.size + 1 + 1 := by simp
  refine ⟨((RBox.new ..).keep ((Below.refl _ _).alloc (Nat.le_refl _) _)).keep ((Below.refl _ _).alloc (Nat.le_refl _) _), ?_, ?_⟩
  · have h := (PBox.new (w.alloc (rulObj ex A n c b B m d f)) P q pc pb).keep ((Below.refl _ _).alloc (Nat.le_refl _) zeroRul)
    rw [e1] at h
    exact h
  · have h := ZRul.new ((w.alloc (rulObj ex A n c b B m d f)).alloc (patObj P q pc pb))
    rw [e2] at h
    exact h
/-- The five cells of a result behind one more box. -/
theorem res_alloc5 {w : World} {g : Nat} (o : Obj) (u0 u1 u2 u3 u4 : Value) (z : ZRul w g) :
    ((((((w.setCell ⟨g, 0, none⟩ u0).setCell ⟨g, 1, none⟩ u1).setCell ⟨g, 2, none⟩ u2).setCell ⟨g, 3, none⟩ u3).setCell ⟨g, 4, none⟩ u4).alloc o).cell? ⟨g, 0, none⟩ = some u0 ∧
    ((((((w.setCell ⟨g, 0, none⟩ u0).setCell ⟨g, 1, none⟩ u1).setCell ⟨g, 2, none⟩ u2).setCell ⟨g, 3, none⟩ u3).setCell ⟨g, 4, none⟩ u4).alloc o).cell? ⟨g, 1, none⟩ = some u1 ∧
    ((((((w.setCell ⟨g, 0, none⟩ u0).setCell ⟨g, 1, none⟩ u1).setCell ⟨g, 2, none⟩ u2).setCell ⟨g, 3, none⟩ u3).setCell ⟨g, 4, none⟩ u4).alloc o).cell? ⟨g, 2, none⟩ = some u2 ∧
    ((((((w.setCell ⟨g, 0, none⟩ u0).setCell ⟨g, 1, none⟩ u1).setCell ⟨g, 2, none⟩ u2).setCell ⟨g, 3, none⟩ u3).setCell ⟨g, 4, none⟩ u4).alloc o).cell? ⟨g, 3, none⟩ = some u3 ∧
    ((((((w.setCell ⟨g, 0, none⟩ u0).setCell ⟨g, 1, none⟩ u1).setCell ⟨g, 2, none⟩ u2).setCell ⟨g, 3, none⟩ u3).setCell ⟨g, 4, none⟩ u4).alloc o).cell? ⟨g, 4, none⟩ = some u4 := by
  have hb := fun W : World => (Below.refl W.heap.size W).alloc (Nat.le_refl _) o
  have hs : g < (((((w.setCell ⟨g, 0, none⟩ u0).setCell ⟨g, 1, none⟩ u1).setCell ⟨g, 2, none⟩ u2).setCell ⟨g, 3, none⟩ u3).setCell ⟨g, 4, none⟩ u4).heap.size := by simpa [World.setCell] using z.lt
  refine ⟨((hb _).cell (p := ⟨g, 0, none⟩) hs).trans ?_, ((hb _).cell (p := ⟨g, 1, none⟩) hs).trans ?_, ((hb _).cell (p := ⟨g, 2, none⟩) hs).trans ?_, ((hb _).cell (p := ⟨g, 3, none⟩) hs).trans ?_, ((hb _).cell (p := ⟨g, 4, none⟩) hs).trans ?_⟩
  · simp [go_sem, z.c0]
  · simp [go_sem, z.c1]
  · simp [go_sem, z.c2]
  · simp [go_sem, z.c3]
  · simp [go_sem, z.c4]
theorem boxes2 (w : World) (ex : Bool) (A : Option Addr) (n c : Nat) (b : Bool) (B : Option Addr) (m d : Nat) (f : Bool) (P : Option Addr) (q pc : Nat) (pb : Bool) :
    RBox ((w.alloc (rulObj ex A n c b B m d f)).alloc (patObj P q pc pb)) w.heap.size ex A n c b B m d f ∧ PBox ((w.alloc (rulObj ex A n c b B m d f)).alloc (patObj P q pc pb)) (w.heap.size + 1) P q pc pb := by
  have e1 : (w.alloc (rulObj ex A n c b B m d f)).heap.size = w.heap.size + 1 := by simp
  refine ⟨(RBox.new ..).keep ((Below.refl _ _).alloc (Nat.le_refl _) _), ?_⟩
  have h := PBox.new (w.alloc (rulObj ex A n c b B m d f)) P q pc pb
  rw [e1] at h
  exact h
theorem boxesR (w : World) (ex : Bool) (A : Option Addr) (n c : Nat) (b : Bool) (B : Option Addr) (m d : Nat) (f : Bool) (ex' : Bool) (A' : Option Addr) (n' c' : Nat) (b' : Bool) (B' : Option Addr) (m' d' : Nat) (f' : Bool) :
    RBox ((w.alloc (rulObj ex A n c b B m d f)).alloc (rulObj ex' A' n' c' b' B' m' d' f')) w.heap.size ex A n c b B m d f ∧ RBox ((w.alloc (rulObj ex A n c b B m d f)).alloc (rulObj ex' A' n' c' b' B' m' d' f')) (w.heap.size + 1) ex' A' n' c' b' B' m' d' f' := by
  have e1 : (w.alloc (rulObj ex A n c b B m d f)).heap.size = w.heap.size + 1 := by simp
  refine ⟨(RBox.new ..).keep ((Below.refl _ _).alloc (Nat.le_refl _) _), ?_⟩
  have h := RBox.new (w.alloc (rulObj ex A n c b B m d f)) ex' A' n' c' b' B' m' d' f'
  rw [e1] at h
  exact h
set_option maxHeartbeats 4000000 in
theorem same_lines (ex : Bool) (A : Option Addr) (xs : List ByteArray) (c : Nat) (b : Bool) (B : Option Addr) (ys : List ByteArray) (d : Nat) (f : Bool) (ex' : Bool) (A' : Option Addr) (xs' : List ByteArray) (c' : Nat) (b' : Bool) (B' : Option Addr) (ys' : List ByteArray) (d' : Nat) (f' : Bool) (r : Pt.Rul) (w : World) (h1 : RulR w ex A xs c b B ys d f r) (h2 : RulR w ex' A' xs' c' b' B' ys' d' f' r) :
    Calls Tryz.prog 20 #[rulV ex A xs.length c b B ys.length d f, rulV ex' A' xs'.length c' b' B' ys'.length d' f'] w (GivesBB w true) := by
  obtain rfl : ex = ex' := h1.ex.trans h2.ex.symm
  obtain ⟨W0, hW0⟩ : ∃ W0, W0 = (w.alloc (.cells #[.bool ex, .slice A xs.length c, .bool b, .slice B ys.length d, .bool f] 26)).alloc (.cells #[.bool ex, .slice A' xs'.length c', .bool b', .slice B' ys'.length d', .bool f'] 26) := ⟨_, rfl⟩
  have hal : Below w.heap.size w W0 := by rw [hW0]; exact ((Below.refl _ _).alloc (Nat.le_refl _) _).alloc (by simp) _
  have HX0 := Lib.hid (Below.refl W0.heap.size W0)
  have HAL := Lib.hid hal
  obtain ⟨hbx, hpx⟩ : RBox W0 w.heap.size ex A xs.length c b B ys.length d f ∧ RBox W0 (w.heap.size + 1) ex A' xs'.length c' b' B' ys'.length d' f' := by rw [hW0]; exact boxesR ..
  have HB := Lib.hid (fun (w' : World) (hb : Below W0.heap.size W0 w') => hbx.keep hb)
  have HP := Lib.hid (fun (w' : World) (hb : Below W0.heap.size W0 w') => hpx.keep hb)
  have HL := Lib.hid (fun (w' : World) (hb : Below W0.heap.size W0 w') => same_pats A A' xs xs' c c' b b' r.left w' (h1.left.keep (hal.trans (hb.mono hal.size))) (h2.left.keep (hal.trans (hb.mono hal.size))))
  have HR := Lib.hid (fun (w' : World) (hb : Below W0.heap.size W0 w') => same_pats B B' ys ys' d d' f f' r.right w' (h1.right.keep (hal.trans (hb.mono hal.size))) (h2.right.keep (hal.trans (hb.mono hal.size))))
  generalize xs.length = n at *
  generalize ys.length = m at *
  generalize xs'.length = n' at *
  generalize ys'.length = m' at *
  clear h1 h2 hbx hpx
  subst hW0
  clear hal
  cases ex
  all_goals
    go_enter Tryz.func20, Tryz.ntmps20
    go_wp2_with fail
    with_reducible refine (HL.out _ HX0.out).mono ?_
    rintro e u1 ⟨rfl, hb1⟩
    obtain ⟨k0, k1, k2, k3, k4, kl⟩ := HB.out _ hb1
    obtain ⟨p0, p1, p2, p3, p4, pl⟩ := HP.out _ hb1
    have HX1 := Lib.hid hb1
    clear hb1
    go_wp2_with fail
    with_reducible refine (HR.out _ HX1.out).mono ?_
    rintro e u2 ⟨rfl, hb2⟩
    have HX2 := Lib.hid (HX1.out.trans (hb2.mono HX1.out.size))
    clear hb2
    go_wp2
    go_ret
    exact ⟨rfl, HAL.out.trans (HX2.out.mono HAL.out.size)⟩
set_option maxHeartbeats 16000000 in
theorem nleft_any (ex : Bool) (A : Option Addr) (xs : List ByteArray) (c : Nat) (b : Bool) (B : Option Addr) (ys : List ByteArray) (d : Nat) (f : Bool) (r : Pt.Rul) (P : Option Addr) (ps : List ByteArray) (pc : Nat) (pb : Bool) (p : Pt.Pat) (w : World) (hr : RulR w ex A xs c b B ys d f r) (hp : PatR w P ps pc pb p) (hxz : Pt.szs 50000 r.left) (hyz : Pt.szs 100000 r.right) (hpz : Pt.szs 50000 p) :
    Calls Tryz.prog 48 #[rulV ex A xs.length c b B ys.length d f, patV P ps.length pc pb] w (GivesR w (Pt.nleft r p) (Pt.nleftE r p)) := by
  obtain ⟨W0, hW0⟩ : ∃ W0, W0 = ((w.alloc (.cells #[.bool ex, .slice A xs.length c, .bool b, .slice B ys.length d, .bool f] 26)).alloc (.cells #[.slice P ps.length pc, .bool pb] 24)).alloc zeroRul := ⟨_, rfl⟩
  have hal : Below w.heap.size w W0 := by rw [hW0]; exact (((Below.refl _ _).alloc (Nat.le_refl _) _).alloc (by simp) _).alloc (by simp; omega) _
  have HX0 := Lib.hid (Below.refl W0.heap.size W0)
  have HAL := Lib.hid hal
  obtain ⟨hbx, hpx, hzx⟩ : RBox W0 w.heap.size ex A xs.length c b B ys.length d f ∧ PBox W0 (w.heap.size + 1) P ps.length pc pb ∧ ZRul W0 (w.heap.size + 1 + 1) := by rw [hW0]; exact boxes3 w ex A xs.length c b B ys.length d f P ps.length pc pb
  have HB := Lib.hid (fun (w' : World) (hb : Below W0.heap.size W0 w') => hbx.keep hb)
  have HP := Lib.hid (fun (w' : World) (hb : Below W0.heap.size W0 w') => hpx.keep hb)
  have HZ := Lib.hid (fun (w' : World) (hb : Below W0.heap.size W0 w') => hzx.keep hb)
  have HRC := Lib.hid (fun (w' : World) (hb : Below W0.heap.size W0 w') => check4_any ex A xs c b B ys d f r w' (hr.keep (hal.trans (hb.mono hal.size))))
  have HPC := Lib.hid (fun (w' : World) (hb : Below W0.heap.size W0 w') => check_any P ps pc pb p w' (hp.keep (hal.trans (hb.mono hal.size))))
  have HMe := Lib.hid (fun (w' : World) (hb : Below W0.heap.size W0 w') => meet_any A P xs ps c pc b pb r.left p w' (hr.left.keep (hal.trans (hb.mono hal.size))) (hp.keep (hal.trans (hb.mono hal.size))))
  have HBd := Lib.hid (fun (C : Option Addr) (zs : List ByteArray) (e : Nat) (g : Bool) (m : Pt.Pat) (w' : World) (hb : Below W0.heap.size W0 w') (hq : PatR w' C zs e g m) => bind_any A C xs zs c e b g r.left m w' (hr.left.keep (hal.trans (hb.mono hal.size))) hq)
  have HSu := Lib.hid (fun (C : Option Addr) (bl : List BindV) (e : Nat) (w' : World) (hb : Below W0.heap.size W0 w') (hl : RdB w' C bl e) (h1 : ∀ v ∈ bl, ∀ y ∈ v.xs, y.size ≤ 100000) (h2 : ∀ v ∈ bl, v.xs.length ≤ 1000) => subst_any B C ys bl d e f r.right w' (hr.right.keep (hal.trans (hb.mono hal.size))) hl (fun y hy => by
    have := hyz y.data.toList (by rw [← hr.right.parts]; exact List.mem_map_of_mem hy)
    rw [Lib.size_eq]; exact this) h1 h2)
  obtain ⟨o, ho⟩ : ∃ o, o = Pt.nleft r p := ⟨_, rfl⟩
  obtain ⟨k, hk⟩ : ∃ k, k = Pt.nleftE r p := ⟨_, rfl⟩
  rw [← ho, ← hk]
  unfold Pt.nleft at ho
  unfold Pt.nleftE at hk
  have hms := fun m (h : Pt.meet r.left p = some m) => Pt.meet_sizes hxz hpz h
  have hmw := fun m (h : Pt.meet r.left p = some m) => Pt.bind_within (Pt.meet_within h).1
  generalize Pt.rcheck r = k1 at ho hk HRC
  generalize Pt.check p = k2 at ho hk HPC
  have hws : W0.heap.size = w.heap.size + 1 + 1 + 1 := by rw [hW0]; simp
  have HWS := Lib.hid hws
  by_cases h1 : k1 = 0
  rotate_left
  · rw [if_neg h1] at ho hk
    subst ho
    rw [hk]
    clear hk
    have t1 : ((k1 : Int) == 0) = false := by rw [beq_eq_false_iff_ne]; omega
    have t2 : ((k1 : Int) != 0) = true := by rw [bne, t1]; rfl
    clear h1 hms hmw
    generalize xs.length = nx at *
    generalize ys.length = ny at *
    generalize ps.length = np at *
    clear hbx hpx hzx hr hp hxz hyz hpz hws
    subst hW0
    clear hal
    go_enter Tryz.func48, Tryz.ntmps48
    go_wp2_with fail
    with_reducible refine (HRC.out _ HX0.out).mono ?_
    rintro e u1 ⟨rfl, hb1⟩
    have hX1 := HX0.out.trans (hb1.mono HX0.out.size)
    have HX1 := Lib.hid hX1
    obtain ⟨k0_HB1, k1_HB1, k2_HB1, k3_HB1, k4_HB1, kl_HB1⟩ := HB.out _ hX1
    obtain ⟨p0_HP1, p1_HP1, pl_HP1⟩ := HP.out _ hX1
    obtain ⟨z0_HZ1, z1_HZ1, z2_HZ1, z3_HZ1, z4_HZ1, z5_HZ1, z6_HZ1, z7_HZ1, z8_HZ1, z9_HZ1, zl_HZ1⟩ := HZ.out _ hX1
    have z1 := hX1.size
    simp only [World.alloc, Array.size_push] at z1
    clear hb1 hX1 
    set_option maxRecDepth 100000 in go_wp2
    refine bodyPost_ret (v := .tuple #[rulV false none 0 0 false none 0 0 false, .bool false, .int .i64 k1]) (by simp [results, Tryz.results48, go_sem, z0_HZ1, z1_HZ1, z2_HZ1, z3_HZ1, z4_HZ1]) rfl ⟨false, none, [], 0, false, none, [], 0, false, rfl, rulR_zero _, ?_⟩
    exact Below.set5 (HAL.out.trans (HX1.out.mono HAL.out.size)) _ (by omega) _ _ _ _ _
  subst h1
  rw [if_pos rfl] at ho hk
  by_cases h2 : k2 = 0
  rotate_left
  · rw [if_neg h2] at ho hk
    subst ho
    rw [hk]
    clear hk
    have t1 : ((k2 : Int) == 0) = false := by rw [beq_eq_false_iff_ne]; omega
    have t2 : ((k2 : Int) != 0) = true := by rw [bne, t1]; rfl
    clear h2 hms hmw
    generalize xs.length = nx at *
    generalize ys.length = ny at *
    generalize ps.length = np at *
    clear hbx hpx hzx hr hp hxz hyz hpz hws
    subst hW0
    clear hal
    go_enter Tryz.func48, Tryz.ntmps48
    go_wp2_with fail
    with_reducible refine (HRC.out _ HX0.out).mono ?_
    rintro e u1 ⟨rfl, hb1⟩
    have hX1 := HX0.out.trans (hb1.mono HX0.out.size)
    have HX1 := Lib.hid hX1
    obtain ⟨k0_HB1, k1_HB1, k2_HB1, k3_HB1, k4_HB1, kl_HB1⟩ := HB.out _ hX1
    obtain ⟨p0_HP1, p1_HP1, pl_HP1⟩ := HP.out _ hX1
    obtain ⟨z0_HZ1, z1_HZ1, z2_HZ1, z3_HZ1, z4_HZ1, z5_HZ1, z6_HZ1, z7_HZ1, z8_HZ1, z9_HZ1, zl_HZ1⟩ := HZ.out _ hX1
    have z1 := hX1.size
    simp only [World.alloc, Array.size_push] at z1
    clear hb1 hX1 
    go_wp2_with fail
    with_reducible refine (HPC.out _ HX1.out).mono ?_
    rintro e u2 ⟨rfl, hb2⟩
    have hX2 := HX1.out.trans (hb2.mono HX1.out.size)
    have HX2 := Lib.hid hX2
    obtain ⟨k0_HB2, k1_HB2, k2_HB2, k3_HB2, k4_HB2, kl_HB2⟩ := HB.out _ hX2
    obtain ⟨p0_HP2, p1_HP2, pl_HP2⟩ := HP.out _ hX2
    obtain ⟨z0_HZ2, z1_HZ2, z2_HZ2, z3_HZ2, z4_HZ2, z5_HZ2, z6_HZ2, z7_HZ2, z8_HZ2, z9_HZ2, zl_HZ2⟩ := HZ.out _ hX2
    have z2 := hX2.size
    simp only [World.alloc, Array.size_push] at z2
    clear hb2 hX2 k0_HB1 k1_HB1 k2_HB1 k3_HB1 k4_HB1 kl_HB1 p0_HP1 p1_HP1 pl_HP1 z0_HZ1 z1_HZ1 z2_HZ1 z3_HZ1 z4_HZ1 z5_HZ1 z6_HZ1 z7_HZ1 z8_HZ1 z9_HZ1 zl_HZ1
    set_option maxRecDepth 100000 in go_wp2
    refine bodyPost_ret (v := .tuple #[rulV false none 0 0 false none 0 0 false, .bool false, .int .i64 k2]) (by simp [results, Tryz.results48, go_sem, z0_HZ2, z1_HZ2, z2_HZ2, z3_HZ2, z4_HZ2]) rfl ⟨false, none, [], 0, false, none, [], 0, false, rfl, rulR_zero _, ?_⟩
    exact Below.set5 (HAL.out.trans (HX2.out.mono HAL.out.size)) _ (by omega) _ _ _ _ _
  subst h2
  rw [if_pos rfl] at ho hk
  cases hme : Pt.meet r.left p with
  | none =>
    rw [hme] at ho hk HMe
    simp only at ho hk
    subst ho hk
    clear hms hmw hme
    generalize xs.length = nx at *
    generalize ys.length = ny at *
    generalize ps.length = np at *
    clear hbx hpx hzx hr hp hxz hyz hpz hws
    subst hW0
    clear hal
    go_enter Tryz.func48, Tryz.ntmps48
    go_wp2_with fail
    with_reducible refine (HRC.out _ HX0.out).mono ?_
    rintro e u1 ⟨rfl, hb1⟩
    have hX1 := HX0.out.trans (hb1.mono HX0.out.size)
    have HX1 := Lib.hid hX1
    obtain ⟨k0_HB1, k1_HB1, k2_HB1, k3_HB1, k4_HB1, kl_HB1⟩ := HB.out _ hX1
    obtain ⟨p0_HP1, p1_HP1, pl_HP1⟩ := HP.out _ hX1
    obtain ⟨z0_HZ1, z1_HZ1, z2_HZ1, z3_HZ1, z4_HZ1, z5_HZ1, z6_HZ1, z7_HZ1, z8_HZ1, z9_HZ1, zl_HZ1⟩ := HZ.out _ hX1
    have z1 := hX1.size
    simp only [World.alloc, Array.size_push] at z1
    clear hb1 hX1 
    go_wp2_with fail
    with_reducible refine (HPC.out _ HX1.out).mono ?_
    rintro e u2 ⟨rfl, hb2⟩
    have hX2 := HX1.out.trans (hb2.mono HX1.out.size)
    have HX2 := Lib.hid hX2
    obtain ⟨k0_HB2, k1_HB2, k2_HB2, k3_HB2, k4_HB2, kl_HB2⟩ := HB.out _ hX2
    obtain ⟨p0_HP2, p1_HP2, pl_HP2⟩ := HP.out _ hX2
    obtain ⟨z0_HZ2, z1_HZ2, z2_HZ2, z3_HZ2, z4_HZ2, z5_HZ2, z6_HZ2, z7_HZ2, z8_HZ2, z9_HZ2, zl_HZ2⟩ := HZ.out _ hX2
    have z2 := hX2.size
    simp only [World.alloc, Array.size_push] at z2
    clear hb2 hX2 k0_HB1 k1_HB1 k2_HB1 k3_HB1 k4_HB1 kl_HB1 p0_HP1 p1_HP1 pl_HP1 z0_HZ1 z1_HZ1 z2_HZ1 z3_HZ1 z4_HZ1 z5_HZ1 z6_HZ1 z7_HZ1 z8_HZ1 z9_HZ1 zl_HZ1
    go_wp2_with fail
    with_reducible refine (HMe.out _ HX2.out).mono ?_
    rintro e u3 ⟨C, zs, cz, g, rfl, hpm, hb3⟩
    have hX3 := HX2.out.trans (hb3.mono HX2.out.size)
    have HX3 := Lib.hid hX3
    obtain ⟨k0_HB3, k1_HB3, k2_HB3, k3_HB3, k4_HB3, kl_HB3⟩ := HB.out _ hX3
    obtain ⟨p0_HP3, p1_HP3, pl_HP3⟩ := HP.out _ hX3
    obtain ⟨z0_HZ3, z1_HZ3, z2_HZ3, z3_HZ3, z4_HZ3, z5_HZ3, z6_HZ3, z7_HZ3, z8_HZ3, z9_HZ3, zl_HZ3⟩ := HZ.out _ hX3
    have z3 := hX3.size
    simp only [World.alloc, Array.size_push] at z3
    generalize zs.length = nz at *
    clear hpm
    clear hb3 hX3 k0_HB2 k1_HB2 k2_HB2 k3_HB2 k4_HB2 kl_HB2 p0_HP2 p1_HP2 pl_HP2 z0_HZ2 z1_HZ2 z2_HZ2 z3_HZ2 z4_HZ2 z5_HZ2 z6_HZ2 z7_HZ2 z8_HZ2 z9_HZ2 zl_HZ2
    have gg := fun o => res_alloc5 o (.bool false) (.slice none 0 0) (.bool false) (.slice none 0 0) (.bool false) (HZ.out _ HX3.out)
    set_option maxRecDepth 100000 in go_wp2
    refine bodyPost_ret (v := .tuple #[rulV false none 0 0 false none 0 0 false, .bool false, .int .i64 0]) (by simp [results, Tryz.results48, go_sem, (gg _).1, (gg _).2.1, (gg _).2.2.1, (gg _).2.2.2.1, (gg _).2.2.2.2]) rfl ⟨false, none, [], 0, false, none, [], 0, false, rfl, rulR_zero _, ?_⟩
    exact (Below.set5 (HAL.out.trans (HX3.out.mono HAL.out.size)) _ (by omega) _ _ _ _ _).alloc (by have := HAL.out.size; have := HX3.out.size; simp [World.setCell]; omega) _
  | some m =>
    obtain ⟨l, hbd, h3, h4⟩ := hmw m hme
    have hsz := hms m hme
    have hbs := Pt.bind_sizes hsz hbd
    rw [hme] at ho hk HMe
    simp only [hbd, Option.getD_some] at ho hk
    clear hms hmw hme h3 h4
    have HSZ := Lib.hid hsz
    have HBS := Lib.hid hbs
    have HBN := Lib.hid hbd
    have HO := Lib.hid ho
    have HK := Lib.hid hk
    clear hsz hbs hbd ho hk
    generalize xs.length = nx at *
    generalize ys.length = ny at *
    generalize ps.length = np at *
    clear hbx hpx hzx hr hp hxz hyz hpz hws
    subst hW0
    clear hal
    go_enter Tryz.func48, Tryz.ntmps48
    go_wp2_with fail
    with_reducible refine (HRC.out _ HX0.out).mono ?_
    rintro e u1 ⟨rfl, hb1⟩
    have hX1 := HX0.out.trans (hb1.mono HX0.out.size)
    have HX1 := Lib.hid hX1
    obtain ⟨k0_HB1, k1_HB1, k2_HB1, k3_HB1, k4_HB1, kl_HB1⟩ := HB.out _ hX1
    obtain ⟨p0_HP1, p1_HP1, pl_HP1⟩ := HP.out _ hX1
    obtain ⟨z0_HZ1, z1_HZ1, z2_HZ1, z3_HZ1, z4_HZ1, z5_HZ1, z6_HZ1, z7_HZ1, z8_HZ1, z9_HZ1, zl_HZ1⟩ := HZ.out _ hX1
    have z1 := hX1.size
    simp only [World.alloc, Array.size_push] at z1
    clear hb1 hX1 
    go_wp2_with fail
    with_reducible refine (HPC.out _ HX1.out).mono ?_
    rintro e u2 ⟨rfl, hb2⟩
    have hX2 := HX1.out.trans (hb2.mono HX1.out.size)
    have HX2 := Lib.hid hX2
    obtain ⟨k0_HB2, k1_HB2, k2_HB2, k3_HB2, k4_HB2, kl_HB2⟩ := HB.out _ hX2
    obtain ⟨p0_HP2, p1_HP2, pl_HP2⟩ := HP.out _ hX2
    obtain ⟨z0_HZ2, z1_HZ2, z2_HZ2, z3_HZ2, z4_HZ2, z5_HZ2, z6_HZ2, z7_HZ2, z8_HZ2, z9_HZ2, zl_HZ2⟩ := HZ.out _ hX2
    have z2 := hX2.size
    simp only [World.alloc, Array.size_push] at z2
    clear hb2 hX2 k0_HB1 k1_HB1 k2_HB1 k3_HB1 k4_HB1 kl_HB1 p0_HP1 p1_HP1 pl_HP1 z0_HZ1 z1_HZ1 z2_HZ1 z3_HZ1 z4_HZ1 z5_HZ1 z6_HZ1 z7_HZ1 z8_HZ1 z9_HZ1 zl_HZ1
    go_wp2_with fail
    with_reducible refine (HMe.out _ HX2.out).mono ?_
    rintro e u3 ⟨C, zs, cz, g, rfl, hpm, hb3⟩
    have hX3 := HX2.out.trans (hb3.mono HX2.out.size)
    have HX3 := Lib.hid hX3
    obtain ⟨k0_HB3, k1_HB3, k2_HB3, k3_HB3, k4_HB3, kl_HB3⟩ := HB.out _ hX3
    obtain ⟨p0_HP3, p1_HP3, pl_HP3⟩ := HP.out _ hX3
    obtain ⟨z0_HZ3, z1_HZ3, z2_HZ3, z3_HZ3, z4_HZ3, z5_HZ3, z6_HZ3, z7_HZ3, z8_HZ3, z9_HZ3, zl_HZ3⟩ := HZ.out _ hX3
    have z3 := hX3.size
    simp only [World.alloc, Array.size_push] at z3
    have ha3 : Below u3.heap.size u3 (u3.alloc (.cells #[.slice C zs.length cz, .bool g] 24)) := (Below.refl _ _).alloc (Nat.le_refl _) _
    have hXa := hX3.trans (ha3.mono hX3.size)
    have HXa := Lib.hid hXa
    have hpm3 : PatR (u3.alloc (.cells #[.slice C zs.length cz, .bool g] 24)) C zs cz g m := hpm.keep ha3
    have HPM := Lib.hid hpm3
    obtain ⟨a0, a1, a2, a3, a4, al⟩ := HB.out _ hXa
    have hgx := PBox.new u3 C zs.length cz g
    have HGX := Lib.hid (fun (w' : World) (hb : Below (u3.alloc (.cells #[.slice C zs.length cz, .bool g] 24)).heap.size (u3.alloc (.cells #[.slice C zs.length cz, .bool g] 24)) w') => hgx.keep hb)
    obtain ⟨b0, b1, bl0⟩ := hgx
    have HBq := Lib.hid (HBd.out C zs cz g m _ hXa hpm3)
    rw [HBN.out] at HBq
    clear ha3 hXa hpm hpm3
    clear hb3 hX3 k0_HB2 k1_HB2 k2_HB2 k3_HB2 k4_HB2 kl_HB2 p0_HP2 p1_HP2 pl_HP2 z0_HZ2 z1_HZ2 z2_HZ2 z3_HZ2 z4_HZ2 z5_HZ2 z6_HZ2 z7_HZ2 z8_HZ2 z9_HZ2 zl_HZ2
    go_wp2_with fail
    with_reducible refine (HBq.out).mono ?_
    rintro e u4 ⟨v4, bl, rfl, hob, hmap, hb4⟩
    have hX4 := HXa.out.trans (hb4.mono HXa.out.size)
    have HX4 := Lib.hid hX4
    obtain ⟨k0_HB4, k1_HB4, k2_HB4, k3_HB4, k4_HB4, kl_HB4⟩ := HB.out _ hX4
    obtain ⟨p0_HP4, p1_HP4, pl_HP4⟩ := HP.out _ hX4
    obtain ⟨z0_HZ4, z1_HZ4, z2_HZ4, z3_HZ4, z4_HZ4, z5_HZ4, z6_HZ4, z7_HZ4, z8_HZ4, z9_HZ4, zl_HZ4⟩ := HZ.out _ hX4
    have z4 := hX4.size
    simp only [World.alloc, Array.size_push] at z4
    obtain ⟨v4A, v4c, rfl, hrd⟩ := hob.rd
    obtain ⟨e0, e1, el⟩ := HGX.out _ hb4
    have HG4 := Lib.hid (Below.refl u4.heap.size u4)
    have HPM4 := Lib.hid (HPM.out.keep hb4)
    have hv1 : ∀ v ∈ bl, (∀ y ∈ v.xs, y.size ≤ 100000) ∧ v.xs.length ≤ 1000 := fun v hv => by
      have h5 := HBS.out v.pat (by rw [← hmap]; exact List.mem_map_of_mem hv)
      refine ⟨fun y hy => ?_, ?_⟩
      · have := h5.1 y.data.toList (List.mem_map_of_mem hy)
        rw [Lib.size_eq]; omega
      · have := h5.2
        simp only [BindV.pat, bs_length] at this
        omega
    have HSq := Lib.hid (HSu.out v4A bl v4c u4 hX4 hrd (fun v hv => (hv1 v hv).1) (fun v hv => (hv1 v hv).2))
    rw [hmap] at HSq
    have hbk := HGX.out
    clear hob hmap hrd hv1 hbk a0 a1 a2 a3 a4 al b0 b1 bl0
    generalize bl.length = nb at *
    clear hb4 hX4 k0_HB3 k1_HB3 k2_HB3 k3_HB3 k4_HB3 kl_HB3 p0_HP3 p1_HP3 pl_HP3 z0_HZ3 z1_HZ3 z2_HZ3 z3_HZ3 z4_HZ3 z5_HZ3 z6_HZ3 z7_HZ3 z8_HZ3 z9_HZ3 zl_HZ3
    go_wp2_with fail
    with_reducible refine (HSq.out).mono ?_
    rintro e u5 ⟨D, ws, dw, h, rfl, hps, hb5⟩
    have hX5 := HX4.out.trans (hb5.mono HX4.out.size)
    have HX5 := Lib.hid hX5
    obtain ⟨k0_HB5, k1_HB5, k2_HB5, k3_HB5, k4_HB5, kl_HB5⟩ := HB.out _ hX5
    obtain ⟨p0_HP5, p1_HP5, pl_HP5⟩ := HP.out _ hX5
    obtain ⟨z0_HZ5, z1_HZ5, z2_HZ5, z3_HZ5, z4_HZ5, z5_HZ5, z6_HZ5, z7_HZ5, z8_HZ5, z9_HZ5, zl_HZ5⟩ := HZ.out _ hX5
    have z5 := hX5.size
    simp only [World.alloc, Array.size_push] at z5
    have e2 := (hb5.cell (p := ⟨u3.heap.size, 0, none⟩) el).trans e0
    have e3 := (hb5.cell (p := ⟨u3.heap.size, 1, none⟩) el).trans e1
    have e4 : u3.heap.size < u5.heap.size := Nat.lt_of_lt_of_le el hb5.size
    have HPM5 := Lib.hid (HPM4.out.keep hb5)
    have HPS := Lib.hid hps
    clear e0 e1 el hps
    clear hb5 hX5 k0_HB4 k1_HB4 k2_HB4 k3_HB4 k4_HB4 kl_HB4 p0_HP4 p1_HP4 pl_HP4 z0_HZ4 z1_HZ4 z2_HZ4 z3_HZ4 z4_HZ4 z5_HZ4 z6_HZ4 z7_HZ4 z8_HZ4 z9_HZ4 zl_HZ4
    have hk := HK.out
    have ho := HO.out
    generalize Pt.substErr r.right l = ke at *
    generalize Pt.subst r.right l = ms at *
    by_cases hke : ke = 0
    rotate_left
    · rw [if_neg hke] at ho hk
      subst ho hk
      have t1 : ((ke : Int) == 0) = false := by rw [beq_eq_false_iff_ne]; omega
      have t2 : ((ke : Int) != 0) = true := by rw [bne, t1]; rfl
      clear hke
      generalize ws.length = nw at *
      generalize zs.length = nz at *
      have gg := fun o => res_alloc5 o (.bool false) (.slice none 0 0) (.bool false) (.slice none 0 0) (.bool false) (HZ.out _ HX5.out)
      set_option maxRecDepth 100000 in go_wp2
      refine bodyPost_ret (v := .tuple #[rulV false none 0 0 false none 0 0 false, .bool false, .int .i64 43]) (by simp [results, Tryz.results48, go_sem, (gg _).1, (gg _).2.1, (gg _).2.2.1, (gg _).2.2.2.1, (gg _).2.2.2.2]) rfl ⟨false, none, [], 0, false, none, [], 0, false, rfl, rulR_zero _, ?_⟩
      exact (Below.set5 (HAL.out.trans (HX5.out.mono HAL.out.size)) _ (by omega) _ _ _ _ _).alloc (by have := HAL.out.size; have := HX5.out.size; simp [World.setCell]; omega) _
    subst hke
    rw [if_pos rfl] at ho hk
    subst ho hk
    have ha5 : ∀ o, Below u5.heap.size u5 (u5.alloc o) := fun o => (Below.refl _ _).alloc (Nat.le_refl _) o
    have f0 := ((ha5 (.cells #[.slice D ws.length dw, .bool h] 24)).cell (p := ⟨u3.heap.size, 0, none⟩) e4).trans e2
    have f1 := ((ha5 (.cells #[.slice D ws.length dw, .bool h] 24)).cell (p := ⟨u3.heap.size, 1, none⟩) e4).trans e3
    clear ha5
    have HZ5 := Lib.hid (HZ.out _ HX5.out)
    have gg := fun o => res_alloc5 o (.bool false) (.slice C zs.length cz) (.bool g) (.slice D ws.length dw) (.bool h) HZ5.out
    set_option maxRecDepth 100000 in go_wp2
    refine bodyPost_ret (v := .tuple #[rulV false C zs.length cz g D ws.length dw h, .bool true, .int .i64 0]) (by simp [results, Tryz.results48, go_sem, (gg _).1, (gg _).2.1, (gg _).2.2.1, (gg _).2.2.2.1, (gg _).2.2.2.2]) rfl ⟨false, C, zs, cz, g, D, ws, dw, h, rfl, ⟨rfl, ?_, ?_⟩, ?_⟩
    · exact (HPM5.out.grow5 _ _ _ _ _ _ HZ5.out).keep ((Below.refl _ _).alloc (Nat.le_refl _) _)
    · exact (HPS.out.grow5 _ _ _ _ _ _ HZ5.out).keep ((Below.refl _ _).alloc (Nat.le_refl _) _)
    · exact (Below.set5 (HAL.out.trans (HX5.out.mono HAL.out.size)) _ (by omega) _ _ _ _ _).alloc (by have := HAL.out.size; have := HX5.out.size; simp [World.setCell]; omega) _
set_option maxHeartbeats 16000000 in
theorem qnl_any (ex : Bool) (A : Option Addr) (xs : List ByteArray) (c : Nat) (b : Bool) (B : Option Addr) (ys : List ByteArray) (d : Nat) (f : Bool) (r : Pt.Rul) (P : Option Addr) (ps : List ByteArray) (pc : Nat) (pb : Bool) (p : Pt.Pat) (w : World) (hr : RulR w ex A xs c b B ys d f r) (hp : PatR w P ps pc pb p) (hxz : Pt.szs 50000 r.left) (hyz : Pt.szs 100000 r.right) (hpz : Pt.szs 50000 p) :
    Calls Tryz.prog 52 #[rulV ex A xs.length c b B ys.length d f, patV P ps.length pc pb] w (GivesR w (Pt.nleft r p) (Pt.nleftE r p)) := by
  obtain ⟨W0, hW0⟩ : ∃ W0, W0 = ((w.alloc (.cells #[.bool ex, .slice A xs.length c, .bool b, .slice B ys.length d, .bool f] 26)).alloc (.cells #[.slice P ps.length pc, .bool pb] 24)).alloc zeroRul := ⟨_, rfl⟩
  have hal : Below w.heap.size w W0 := by rw [hW0]; exact (((Below.refl _ _).alloc (Nat.le_refl _) _).alloc (by simp) _).alloc (by simp; omega) _
  have HX0 := Lib.hid (Below.refl W0.heap.size W0)
  have HAL := Lib.hid hal
  obtain ⟨hbx, hpx, hzx⟩ : RBox W0 w.heap.size ex A xs.length c b B ys.length d f ∧ PBox W0 (w.heap.size + 1) P ps.length pc pb ∧ ZRul W0 (w.heap.size + 1 + 1) := by rw [hW0]; exact boxes3 w ex A xs.length c b B ys.length d f P ps.length pc pb
  have HB := Lib.hid (fun (w' : World) (hb : Below W0.heap.size W0 w') => hbx.keep hb)
  have HP := Lib.hid (fun (w' : World) (hb : Below W0.heap.size W0 w') => hpx.keep hb)
  have HZ := Lib.hid (fun (w' : World) (hb : Below W0.heap.size W0 w') => hzx.keep hb)
  have HRC := Lib.hid (fun (w' : World) (hb : Below W0.heap.size W0 w') => qcheck_any ex A xs c b B ys d f r w' (hr.keep (hal.trans (hb.mono hal.size))))
  have HPC := Lib.hid (fun (w' : World) (hb : Below W0.heap.size W0 w') => rcheck_any P ps pc pb p w' (hp.keep (hal.trans (hb.mono hal.size))))
  have HMe := Lib.hid (fun (w' : World) (hb : Below W0.heap.size W0 w') => rmeet_any A P xs ps c pc b pb r.left p w' (hr.left.keep (hal.trans (hb.mono hal.size))) (hp.keep (hal.trans (hb.mono hal.size))))
  have HBd := Lib.hid (fun (C : Option Addr) (zs : List ByteArray) (e : Nat) (g : Bool) (m : Pt.Pat) (w' : World) (hb : Below W0.heap.size W0 w') (hq : PatR w' C zs e g m) => rbind_any A C xs zs c e b g r.left m w' (hr.left.keep (hal.trans (hb.mono hal.size))) hq)
  have HSu := Lib.hid (fun (C : Option Addr) (bl : List BindV) (e : Nat) (w' : World) (hb : Below W0.heap.size W0 w') (hl : RdB w' C bl e) (h1 : ∀ v ∈ bl, ∀ y ∈ v.xs, y.size ≤ 100000) (h2 : ∀ v ∈ bl, v.xs.length ≤ 1000) => rsubst_any B C ys bl d e f r.right w' (hr.right.keep (hal.trans (hb.mono hal.size))) hl (fun y hy => by
    have := hyz y.data.toList (by rw [← hr.right.parts]; exact List.mem_map_of_mem hy)
    rw [Lib.size_eq]; exact this) h1 h2)
  obtain ⟨o, ho⟩ : ∃ o, o = Pt.nleft r p := ⟨_, rfl⟩
  obtain ⟨k, hk⟩ : ∃ k, k = Pt.nleftE r p := ⟨_, rfl⟩
  rw [← ho, ← hk]
  unfold Pt.nleft at ho
  unfold Pt.nleftE at hk
  have hms := fun m (h : Pt.meet r.left p = some m) => Pt.meet_sizes hxz hpz h
  have hmw := fun m (h : Pt.meet r.left p = some m) => Pt.bind_within (Pt.meet_within h).1
  generalize Pt.rcheck r = k1 at ho hk HRC
  generalize Pt.check p = k2 at ho hk HPC
  have hws : W0.heap.size = w.heap.size + 1 + 1 + 1 := by rw [hW0]; simp
  have HWS := Lib.hid hws
  by_cases h1 : k1 = 0
  rotate_left
  · rw [if_neg h1] at ho hk
    subst ho
    rw [hk]
    clear hk
    have t1 : ((k1 : Int) == 0) = false := by rw [beq_eq_false_iff_ne]; omega
    have t2 : ((k1 : Int) != 0) = true := by rw [bne, t1]; rfl
    clear h1 hms hmw
    generalize xs.length = nx at *
    generalize ys.length = ny at *
    generalize ps.length = np at *
    clear hbx hpx hzx hr hp hxz hyz hpz hws
    subst hW0
    clear hal
    go_enter Tryz.func52, Tryz.ntmps52
    go_wp2_with fail
    with_reducible refine (HRC.out _ HX0.out).mono ?_
    rintro e u1 ⟨rfl, hb1⟩
    have hX1 := HX0.out.trans (hb1.mono HX0.out.size)
    have HX1 := Lib.hid hX1
    obtain ⟨k0_HB1, k1_HB1, k2_HB1, k3_HB1, k4_HB1, kl_HB1⟩ := HB.out _ hX1
    obtain ⟨p0_HP1, p1_HP1, pl_HP1⟩ := HP.out _ hX1
    obtain ⟨z0_HZ1, z1_HZ1, z2_HZ1, z3_HZ1, z4_HZ1, z5_HZ1, z6_HZ1, z7_HZ1, z8_HZ1, z9_HZ1, zl_HZ1⟩ := HZ.out _ hX1
    have z1 := hX1.size
    simp only [World.alloc, Array.size_push] at z1
    clear hb1 hX1 
    set_option maxRecDepth 100000 in go_wp2
    refine bodyPost_ret (v := .tuple #[rulV false none 0 0 false none 0 0 false, .bool false, .int .i64 k1]) (by simp [results, Tryz.results52, go_sem, z0_HZ1, z1_HZ1, z2_HZ1, z3_HZ1, z4_HZ1]) rfl ⟨false, none, [], 0, false, none, [], 0, false, rfl, rulR_zero _, ?_⟩
    exact Below.set5 (HAL.out.trans (HX1.out.mono HAL.out.size)) _ (by omega) _ _ _ _ _
  subst h1
  rw [if_pos rfl] at ho hk
  by_cases h2 : k2 = 0
  rotate_left
  · rw [if_neg h2] at ho hk
    subst ho
    rw [hk]
    clear hk
    have t1 : ((k2 : Int) == 0) = false := by rw [beq_eq_false_iff_ne]; omega
    have t2 : ((k2 : Int) != 0) = true := by rw [bne, t1]; rfl
    clear h2 hms hmw
    generalize xs.length = nx at *
    generalize ys.length = ny at *
    generalize ps.length = np at *
    clear hbx hpx hzx hr hp hxz hyz hpz hws
    subst hW0
    clear hal
    go_enter Tryz.func52, Tryz.ntmps52
    go_wp2_with fail
    with_reducible refine (HRC.out _ HX0.out).mono ?_
    rintro e u1 ⟨rfl, hb1⟩
    have hX1 := HX0.out.trans (hb1.mono HX0.out.size)
    have HX1 := Lib.hid hX1
    obtain ⟨k0_HB1, k1_HB1, k2_HB1, k3_HB1, k4_HB1, kl_HB1⟩ := HB.out _ hX1
    obtain ⟨p0_HP1, p1_HP1, pl_HP1⟩ := HP.out _ hX1
    obtain ⟨z0_HZ1, z1_HZ1, z2_HZ1, z3_HZ1, z4_HZ1, z5_HZ1, z6_HZ1, z7_HZ1, z8_HZ1, z9_HZ1, zl_HZ1⟩ := HZ.out _ hX1
    have z1 := hX1.size
    simp only [World.alloc, Array.size_push] at z1
    clear hb1 hX1 
    go_wp2_with fail
    with_reducible refine (HPC.out _ HX1.out).mono ?_
    rintro e u2 ⟨rfl, hb2⟩
    have hX2 := HX1.out.trans (hb2.mono HX1.out.size)
    have HX2 := Lib.hid hX2
    obtain ⟨k0_HB2, k1_HB2, k2_HB2, k3_HB2, k4_HB2, kl_HB2⟩ := HB.out _ hX2
    obtain ⟨p0_HP2, p1_HP2, pl_HP2⟩ := HP.out _ hX2
    obtain ⟨z0_HZ2, z1_HZ2, z2_HZ2, z3_HZ2, z4_HZ2, z5_HZ2, z6_HZ2, z7_HZ2, z8_HZ2, z9_HZ2, zl_HZ2⟩ := HZ.out _ hX2
    have z2 := hX2.size
    simp only [World.alloc, Array.size_push] at z2
    clear hb2 hX2 k0_HB1 k1_HB1 k2_HB1 k3_HB1 k4_HB1 kl_HB1 p0_HP1 p1_HP1 pl_HP1 z0_HZ1 z1_HZ1 z2_HZ1 z3_HZ1 z4_HZ1 z5_HZ1 z6_HZ1 z7_HZ1 z8_HZ1 z9_HZ1 zl_HZ1
    set_option maxRecDepth 100000 in go_wp2
    refine bodyPost_ret (v := .tuple #[rulV false none 0 0 false none 0 0 false, .bool false, .int .i64 k2]) (by simp [results, Tryz.results52, go_sem, z0_HZ2, z1_HZ2, z2_HZ2, z3_HZ2, z4_HZ2]) rfl ⟨false, none, [], 0, false, none, [], 0, false, rfl, rulR_zero _, ?_⟩
    exact Below.set5 (HAL.out.trans (HX2.out.mono HAL.out.size)) _ (by omega) _ _ _ _ _
  subst h2
  rw [if_pos rfl] at ho hk
  cases hme : Pt.meet r.left p with
  | none =>
    rw [hme] at ho hk HMe
    simp only at ho hk
    subst ho hk
    clear hms hmw hme
    generalize xs.length = nx at *
    generalize ys.length = ny at *
    generalize ps.length = np at *
    clear hbx hpx hzx hr hp hxz hyz hpz hws
    subst hW0
    clear hal
    go_enter Tryz.func52, Tryz.ntmps52
    go_wp2_with fail
    with_reducible refine (HRC.out _ HX0.out).mono ?_
    rintro e u1 ⟨rfl, hb1⟩
    have hX1 := HX0.out.trans (hb1.mono HX0.out.size)
    have HX1 := Lib.hid hX1
    obtain ⟨k0_HB1, k1_HB1, k2_HB1, k3_HB1, k4_HB1, kl_HB1⟩ := HB.out _ hX1
    obtain ⟨p0_HP1, p1_HP1, pl_HP1⟩ := HP.out _ hX1
    obtain ⟨z0_HZ1, z1_HZ1, z2_HZ1, z3_HZ1, z4_HZ1, z5_HZ1, z6_HZ1, z7_HZ1, z8_HZ1, z9_HZ1, zl_HZ1⟩ := HZ.out _ hX1
    have z1 := hX1.size
    simp only [World.alloc, Array.size_push] at z1
    clear hb1 hX1 
    go_wp2_with fail
    with_reducible refine (HPC.out _ HX1.out).mono ?_
    rintro e u2 ⟨rfl, hb2⟩
    have hX2 := HX1.out.trans (hb2.mono HX1.out.size)
    have HX2 := Lib.hid hX2
    obtain ⟨k0_HB2, k1_HB2, k2_HB2, k3_HB2, k4_HB2, kl_HB2⟩ := HB.out _ hX2
    obtain ⟨p0_HP2, p1_HP2, pl_HP2⟩ := HP.out _ hX2
    obtain ⟨z0_HZ2, z1_HZ2, z2_HZ2, z3_HZ2, z4_HZ2, z5_HZ2, z6_HZ2, z7_HZ2, z8_HZ2, z9_HZ2, zl_HZ2⟩ := HZ.out _ hX2
    have z2 := hX2.size
    simp only [World.alloc, Array.size_push] at z2
    clear hb2 hX2 k0_HB1 k1_HB1 k2_HB1 k3_HB1 k4_HB1 kl_HB1 p0_HP1 p1_HP1 pl_HP1 z0_HZ1 z1_HZ1 z2_HZ1 z3_HZ1 z4_HZ1 z5_HZ1 z6_HZ1 z7_HZ1 z8_HZ1 z9_HZ1 zl_HZ1
    go_wp2_with fail
    with_reducible refine (HMe.out _ HX2.out).mono ?_
    rintro e u3 ⟨C, zs, cz, g, rfl, hpm, hb3⟩
    have hX3 := HX2.out.trans (hb3.mono HX2.out.size)
    have HX3 := Lib.hid hX3
    obtain ⟨k0_HB3, k1_HB3, k2_HB3, k3_HB3, k4_HB3, kl_HB3⟩ := HB.out _ hX3
    obtain ⟨p0_HP3, p1_HP3, pl_HP3⟩ := HP.out _ hX3
    obtain ⟨z0_HZ3, z1_HZ3, z2_HZ3, z3_HZ3, z4_HZ3, z5_HZ3, z6_HZ3, z7_HZ3, z8_HZ3, z9_HZ3, zl_HZ3⟩ := HZ.out _ hX3
    have z3 := hX3.size
    simp only [World.alloc, Array.size_push] at z3
    generalize zs.length = nz at *
    clear hpm
    clear hb3 hX3 k0_HB2 k1_HB2 k2_HB2 k3_HB2 k4_HB2 kl_HB2 p0_HP2 p1_HP2 pl_HP2 z0_HZ2 z1_HZ2 z2_HZ2 z3_HZ2 z4_HZ2 z5_HZ2 z6_HZ2 z7_HZ2 z8_HZ2 z9_HZ2 zl_HZ2
    have gg := fun o => res_alloc5 o (.bool false) (.slice none 0 0) (.bool false) (.slice none 0 0) (.bool false) (HZ.out _ HX3.out)
    set_option maxRecDepth 100000 in go_wp2
    refine bodyPost_ret (v := .tuple #[rulV false none 0 0 false none 0 0 false, .bool false, .int .i64 0]) (by simp [results, Tryz.results52, go_sem, (gg _).1, (gg _).2.1, (gg _).2.2.1, (gg _).2.2.2.1, (gg _).2.2.2.2]) rfl ⟨false, none, [], 0, false, none, [], 0, false, rfl, rulR_zero _, ?_⟩
    exact (Below.set5 (HAL.out.trans (HX3.out.mono HAL.out.size)) _ (by omega) _ _ _ _ _).alloc (by have := HAL.out.size; have := HX3.out.size; simp [World.setCell]; omega) _
  | some m =>
    obtain ⟨l, hbd, h3, h4⟩ := hmw m hme
    have hsz := hms m hme
    have hbs := Pt.bind_sizes hsz hbd
    rw [hme] at ho hk HMe
    simp only [hbd, Option.getD_some] at ho hk
    clear hms hmw hme h3 h4
    have HSZ := Lib.hid hsz
    have HBS := Lib.hid hbs
    have HBN := Lib.hid hbd
    have HO := Lib.hid ho
    have HK := Lib.hid hk
    clear hsz hbs hbd ho hk
    generalize xs.length = nx at *
    generalize ys.length = ny at *
    generalize ps.length = np at *
    clear hbx hpx hzx hr hp hxz hyz hpz hws
    subst hW0
    clear hal
    go_enter Tryz.func52, Tryz.ntmps52
    go_wp2_with fail
    with_reducible refine (HRC.out _ HX0.out).mono ?_
    rintro e u1 ⟨rfl, hb1⟩
    have hX1 := HX0.out.trans (hb1.mono HX0.out.size)
    have HX1 := Lib.hid hX1
    obtain ⟨k0_HB1, k1_HB1, k2_HB1, k3_HB1, k4_HB1, kl_HB1⟩ := HB.out _ hX1
    obtain ⟨p0_HP1, p1_HP1, pl_HP1⟩ := HP.out _ hX1
    obtain ⟨z0_HZ1, z1_HZ1, z2_HZ1, z3_HZ1, z4_HZ1, z5_HZ1, z6_HZ1, z7_HZ1, z8_HZ1, z9_HZ1, zl_HZ1⟩ := HZ.out _ hX1
    have z1 := hX1.size
    simp only [World.alloc, Array.size_push] at z1
    clear hb1 hX1 
    go_wp2_with fail
    with_reducible refine (HPC.out _ HX1.out).mono ?_
    rintro e u2 ⟨rfl, hb2⟩
    have hX2 := HX1.out.trans (hb2.mono HX1.out.size)
    have HX2 := Lib.hid hX2
    obtain ⟨k0_HB2, k1_HB2, k2_HB2, k3_HB2, k4_HB2, kl_HB2⟩ := HB.out _ hX2
    obtain ⟨p0_HP2, p1_HP2, pl_HP2⟩ := HP.out _ hX2
    obtain ⟨z0_HZ2, z1_HZ2, z2_HZ2, z3_HZ2, z4_HZ2, z5_HZ2, z6_HZ2, z7_HZ2, z8_HZ2, z9_HZ2, zl_HZ2⟩ := HZ.out _ hX2
    have z2 := hX2.size
    simp only [World.alloc, Array.size_push] at z2
    clear hb2 hX2 k0_HB1 k1_HB1 k2_HB1 k3_HB1 k4_HB1 kl_HB1 p0_HP1 p1_HP1 pl_HP1 z0_HZ1 z1_HZ1 z2_HZ1 z3_HZ1 z4_HZ1 z5_HZ1 z6_HZ1 z7_HZ1 z8_HZ1 z9_HZ1 zl_HZ1
    go_wp2_with fail
    with_reducible refine (HMe.out _ HX2.out).mono ?_
    rintro e u3 ⟨C, zs, cz, g, rfl, hpm, hb3⟩
    have hX3 := HX2.out.trans (hb3.mono HX2.out.size)
    have HX3 := Lib.hid hX3
    obtain ⟨k0_HB3, k1_HB3, k2_HB3, k3_HB3, k4_HB3, kl_HB3⟩ := HB.out _ hX3
    obtain ⟨p0_HP3, p1_HP3, pl_HP3⟩ := HP.out _ hX3
    obtain ⟨z0_HZ3, z1_HZ3, z2_HZ3, z3_HZ3, z4_HZ3, z5_HZ3, z6_HZ3, z7_HZ3, z8_HZ3, z9_HZ3, zl_HZ3⟩ := HZ.out _ hX3
    have z3 := hX3.size
    simp only [World.alloc, Array.size_push] at z3
    have ha3 : Below u3.heap.size u3 (u3.alloc (.cells #[.slice C zs.length cz, .bool g] 24)) := (Below.refl _ _).alloc (Nat.le_refl _) _
    have hXa := hX3.trans (ha3.mono hX3.size)
    have HXa := Lib.hid hXa
    have hpm3 : PatR (u3.alloc (.cells #[.slice C zs.length cz, .bool g] 24)) C zs cz g m := hpm.keep ha3
    have HPM := Lib.hid hpm3
    obtain ⟨a0, a1, a2, a3, a4, al⟩ := HB.out _ hXa
    have hgx := PBox.new u3 C zs.length cz g
    have HGX := Lib.hid (fun (w' : World) (hb : Below (u3.alloc (.cells #[.slice C zs.length cz, .bool g] 24)).heap.size (u3.alloc (.cells #[.slice C zs.length cz, .bool g] 24)) w') => hgx.keep hb)
    obtain ⟨b0, b1, bl0⟩ := hgx
    have HBq := Lib.hid (HBd.out C zs cz g m _ hXa hpm3)
    rw [HBN.out] at HBq
    clear ha3 hXa hpm hpm3
    clear hb3 hX3 k0_HB2 k1_HB2 k2_HB2 k3_HB2 k4_HB2 kl_HB2 p0_HP2 p1_HP2 pl_HP2 z0_HZ2 z1_HZ2 z2_HZ2 z3_HZ2 z4_HZ2 z5_HZ2 z6_HZ2 z7_HZ2 z8_HZ2 z9_HZ2 zl_HZ2
    go_wp2_with fail
    with_reducible refine (HBq.out).mono ?_
    rintro e u4 ⟨v4, bl, rfl, hob, hmap, hb4⟩
    have hX4 := HXa.out.trans (hb4.mono HXa.out.size)
    have HX4 := Lib.hid hX4
    obtain ⟨k0_HB4, k1_HB4, k2_HB4, k3_HB4, k4_HB4, kl_HB4⟩ := HB.out _ hX4
    obtain ⟨p0_HP4, p1_HP4, pl_HP4⟩ := HP.out _ hX4
    obtain ⟨z0_HZ4, z1_HZ4, z2_HZ4, z3_HZ4, z4_HZ4, z5_HZ4, z6_HZ4, z7_HZ4, z8_HZ4, z9_HZ4, zl_HZ4⟩ := HZ.out _ hX4
    have z4 := hX4.size
    simp only [World.alloc, Array.size_push] at z4
    obtain ⟨v4A, v4c, rfl, hrd⟩ := hob.rd
    obtain ⟨e0, e1, el⟩ := HGX.out _ hb4
    have HG4 := Lib.hid (Below.refl u4.heap.size u4)
    have HPM4 := Lib.hid (HPM.out.keep hb4)
    have hv1 : ∀ v ∈ bl, (∀ y ∈ v.xs, y.size ≤ 100000) ∧ v.xs.length ≤ 1000 := fun v hv => by
      have h5 := HBS.out v.pat (by rw [← hmap]; exact List.mem_map_of_mem hv)
      refine ⟨fun y hy => ?_, ?_⟩
      · have := h5.1 y.data.toList (List.mem_map_of_mem hy)
        rw [Lib.size_eq]; omega
      · have := h5.2
        simp only [BindV.pat, bs_length] at this
        omega
    have HSq := Lib.hid (HSu.out v4A bl v4c u4 hX4 hrd (fun v hv => (hv1 v hv).1) (fun v hv => (hv1 v hv).2))
    rw [hmap] at HSq
    have hbk := HGX.out
    clear hob hmap hrd hv1 hbk a0 a1 a2 a3 a4 al b0 b1 bl0
    generalize bl.length = nb at *
    clear hb4 hX4 k0_HB3 k1_HB3 k2_HB3 k3_HB3 k4_HB3 kl_HB3 p0_HP3 p1_HP3 pl_HP3 z0_HZ3 z1_HZ3 z2_HZ3 z3_HZ3 z4_HZ3 z5_HZ3 z6_HZ3 z7_HZ3 z8_HZ3 z9_HZ3 zl_HZ3
    go_wp2_with fail
    with_reducible refine (HSq.out).mono ?_
    rintro e u5 ⟨D, ws, dw, h, rfl, hps, hb5⟩
    have hX5 := HX4.out.trans (hb5.mono HX4.out.size)
    have HX5 := Lib.hid hX5
    obtain ⟨k0_HB5, k1_HB5, k2_HB5, k3_HB5, k4_HB5, kl_HB5⟩ := HB.out _ hX5
    obtain ⟨p0_HP5, p1_HP5, pl_HP5⟩ := HP.out _ hX5
    obtain ⟨z0_HZ5, z1_HZ5, z2_HZ5, z3_HZ5, z4_HZ5, z5_HZ5, z6_HZ5, z7_HZ5, z8_HZ5, z9_HZ5, zl_HZ5⟩ := HZ.out _ hX5
    have z5 := hX5.size
    simp only [World.alloc, Array.size_push] at z5
    have e2 := (hb5.cell (p := ⟨u3.heap.size, 0, none⟩) el).trans e0
    have e3 := (hb5.cell (p := ⟨u3.heap.size, 1, none⟩) el).trans e1
    have e4 : u3.heap.size < u5.heap.size := Nat.lt_of_lt_of_le el hb5.size
    have HPM5 := Lib.hid (HPM4.out.keep hb5)
    have HPS := Lib.hid hps
    clear e0 e1 el hps
    clear hb5 hX5 k0_HB4 k1_HB4 k2_HB4 k3_HB4 k4_HB4 kl_HB4 p0_HP4 p1_HP4 pl_HP4 z0_HZ4 z1_HZ4 z2_HZ4 z3_HZ4 z4_HZ4 z5_HZ4 z6_HZ4 z7_HZ4 z8_HZ4 z9_HZ4 zl_HZ4
    have hk := HK.out
    have ho := HO.out
    generalize Pt.substErr r.right l = ke at *
    generalize Pt.subst r.right l = ms at *
    by_cases hke : ke = 0
    rotate_left
    · rw [if_neg hke] at ho hk
      subst ho hk
      have t1 : ((ke : Int) == 0) = false := by rw [beq_eq_false_iff_ne]; omega
      have t2 : ((ke : Int) != 0) = true := by rw [bne, t1]; rfl
      clear hke
      generalize ws.length = nw at *
      generalize zs.length = nz at *
      have gg := fun o => res_alloc5 o (.bool false) (.slice none 0 0) (.bool false) (.slice none 0 0) (.bool false) (HZ.out _ HX5.out)
      set_option maxRecDepth 100000 in go_wp2
      refine bodyPost_ret (v := .tuple #[rulV false none 0 0 false none 0 0 false, .bool false, .int .i64 43]) (by simp [results, Tryz.results52, go_sem, (gg _).1, (gg _).2.1, (gg _).2.2.1, (gg _).2.2.2.1, (gg _).2.2.2.2]) rfl ⟨false, none, [], 0, false, none, [], 0, false, rfl, rulR_zero _, ?_⟩
      exact (Below.set5 (HAL.out.trans (HX5.out.mono HAL.out.size)) _ (by omega) _ _ _ _ _).alloc (by have := HAL.out.size; have := HX5.out.size; simp [World.setCell]; omega) _
    subst hke
    rw [if_pos rfl] at ho hk
    subst ho hk
    have ha5 : ∀ o, Below u5.heap.size u5 (u5.alloc o) := fun o => (Below.refl _ _).alloc (Nat.le_refl _) o
    have f0 := ((ha5 (.cells #[.slice D ws.length dw, .bool h] 24)).cell (p := ⟨u3.heap.size, 0, none⟩) e4).trans e2
    have f1 := ((ha5 (.cells #[.slice D ws.length dw, .bool h] 24)).cell (p := ⟨u3.heap.size, 1, none⟩) e4).trans e3
    clear ha5
    have HZ5 := Lib.hid (HZ.out _ HX5.out)
    have gg := fun o => res_alloc5 o (.bool false) (.slice C zs.length cz) (.bool g) (.slice D ws.length dw) (.bool h) HZ5.out
    set_option maxRecDepth 100000 in go_wp2
    refine bodyPost_ret (v := .tuple #[rulV false C zs.length cz g D ws.length dw h, .bool true, .int .i64 0]) (by simp [results, Tryz.results52, go_sem, (gg _).1, (gg _).2.1, (gg _).2.2.1, (gg _).2.2.2.1, (gg _).2.2.2.2]) rfl ⟨false, C, zs, cz, g, D, ws, dw, h, rfl, ⟨rfl, ?_, ?_⟩, ?_⟩
    · exact (HPM5.out.grow5 _ _ _ _ _ _ HZ5.out).keep ((Below.refl _ _).alloc (Nat.le_refl _) _)
    · exact (HPS.out.grow5 _ _ _ _ _ _ HZ5.out).keep ((Below.refl _ _).alloc (Nat.le_refl _) _)
    · exact (Below.set5 (HAL.out.trans (HX5.out.mono HAL.out.size)) _ (by omega) _ _ _ _ _).alloc (by have := HAL.out.size; have := HX5.out.size; simp [World.setCell]; omega) _
end Go.Proofs.YthgcnlhlhipllaaGreatDoor

namespace Go.Proofs.YthgcnlhlhipllaaGreatDoor
open Go.RowKit

/-- What lies there behind the narrowing of the turned line. -/
structure NRel (u wx : World) (p8 p9 p10 : Value) (g : Nat) (ex5 : Bool) (C : Option Addr) (zs : List ByteArray) (cz : Nat) (g5 : Bool) (D : Option Addr) (ws : List ByteArray) (dz : Nat) (h5 : Bool) (o : Option Pt.Rul) (k : Nat) : Prop where
  p8 : p8 = .pointer (some ⟨g, 0, none⟩)
  p9 : p9 = .bool o.isSome
  p10 : p10 = .int .i64 (k : Int)
  bx : RBox wx g ex5 C zs.length cz g5 D ws.length dz h5
  rr : RulR wx ex5 C zs cz g5 D ws dz h5 (o.getD Pt.zeroR)
  below : Below u.heap.size u wx
theorem InE.allocd {u w' : World} (h : InE u w') (o : Obj) : InE u (w'.alloc o) := h.next ((Below.refl _ _).alloc (Nat.le_refl _) _)
theorem InE.st {u w' : World} (h : InE u w') (g k : Nat) (hg : u.heap.size ≤ g) (v : Value) : InE u (w'.setCell ⟨g, k, none⟩ v) := ⟨h.below.setCell (p := ⟨g, k, none⟩) hg v⟩
theorem RulR.keepA {w : World} {ex : Bool} {A : Option Addr} {xs : List ByteArray} {c : Nat} {b : Bool} {B : Option Addr} {ys : List ByteArray} {d : Nat} {f : Bool} {r : Pt.Rul} (h : RulR w ex A xs c b B ys d f r) (o : Obj) : RulR (w.alloc o) ex A xs c b B ys d f r := h.keep ((Below.refl _ _).alloc (Nat.le_refl _) o)
theorem RBox.set5 {w : World} {g : Nat} (z : ZRul w g) (ex : Bool) (A : Option Addr) (n c : Nat) (b : Bool) (B : Option Addr) (m d : Nat) (f : Bool) : RBox (((((w.setCell ⟨g, 0, none⟩ (.bool ex)).setCell ⟨g, 1, none⟩ (.slice A n c)).setCell ⟨g, 2, none⟩ (.bool b)).setCell ⟨g, 3, none⟩ (.slice B m d)).setCell ⟨g, 4, none⟩ (.bool f)) g ex A n c b B m d f :=
  ⟨by simp [go_sem, z.c0], by simp [go_sem, z.c1], by simp [go_sem, z.c2], by simp [go_sem, z.c3], by simp [go_sem, z.c4], by simpa [World.setCell] using z.lt⟩
theorem RulR.grow5 {w : World} {ex : Bool} {A : Option Addr} {xs : List ByteArray} {c : Nat} {b : Bool} {B : Option Addr} {ys : List ByteArray} {d : Nat} {f : Bool} {r : Pt.Rul} (h : RulR w ex A xs c b B ys d f r) (g : Nat) (u0 u1 u2 u3 u4 : Value) (z : ZRul w g) : RulR (((((w.setCell ⟨g, 0, none⟩ u0).setCell ⟨g, 1, none⟩ u1).setCell ⟨g, 2, none⟩ u2).setCell ⟨g, 3, none⟩ u3).setCell ⟨g, 4, none⟩ u4) ex A xs c b B ys d f r :=
  ⟨h.ex, h.left.grow5 g u0 u1 u2 u3 u4 z, h.right.grow5 g u0 u1 u2 u3 u4 z⟩
theorem ZRul.drew {w : World} {g : Nat} (h : ZRul w g) : ZRul w.drew g := h.keep (below_drew (Below.refl _ _))
theorem nleft_turn_none {r : Pt.Rul} {p : Pt.Pat} (h : Pt.rcheck r ≠ 0) : Pt.nleft (Pt.turnR r) p = none := by
  unfold Pt.nleft
  rw [if_neg (fun h2 => h (by have := Pt.turn_check h2; rwa [Pt.turn_turn] at this))]
theorem nleft_lens {r n : Pt.Rul} {p : Pt.Pat} (h : Pt.nleft r p = some n) : n.left.parts.length ≤ 12 ∧ n.right.parts.length ≤ 12 := by
  obtain ⟨_, _, _, _, _, _, _, _, _, _, hc⟩ := Pt.nleft_form h
  obtain ⟨h1, h2, _, _⟩ := Pt.rcheck_zero.1 hc
  exact ⟨(Pt.check_ok.1 h1).2, (Pt.check_ok.1 h2).2⟩
set_option maxHeartbeats 16000000 in
theorem nright_any (ex : Bool) (A : Option Addr) (xs : List ByteArray) (c : Nat) (b : Bool) (B : Option Addr) (ys : List ByteArray) (d : Nat) (f : Bool) (r : Pt.Rul) (P : Option Addr) (ps : List ByteArray) (pc : Nat) (pb : Bool) (p : Pt.Pat) (w : World) (hr : RulR w ex A xs c b B ys d f r) (hp : PatR w P ps pc pb p) (hxz : Pt.szs 100000 r.left) (hyz : Pt.szs 50000 r.right) (hpz : Pt.szs 50000 p) (hN : xs.length ≤ 1000000) (hM : ys.length ≤ 1000000) :
    Calls Tryz.prog 47 #[rulV ex A xs.length c b B ys.length d f, patV P ps.length pc pb] w (GivesR w (Pt.nright r p) (Pt.nrightE r p)) := by
  obtain ⟨W0, hW0⟩ : ∃ W0, W0 = ((w.alloc (.cells #[.bool ex, .slice A xs.length c, .bool b, .slice B ys.length d, .bool f] 26)).alloc (.cells #[.slice P ps.length pc, .bool pb] 24)).alloc zeroRul := ⟨_, rfl⟩
  have hal : Below w.heap.size w W0 := by rw [hW0]; exact (((Below.refl _ _).alloc (Nat.le_refl _) _).alloc (by simp) _).alloc (by simp; omega) _
  have HX0 := Lib.hid (Below.refl W0.heap.size W0)
  have HAL := Lib.hid hal
  obtain ⟨hbx, hpx, hzx⟩ : RBox W0 w.heap.size ex A xs.length c b B ys.length d f ∧ PBox W0 (w.heap.size + 1) P ps.length pc pb ∧ ZRul W0 (w.heap.size + 1 + 1) := by rw [hW0]; exact boxes3 w ex A xs.length c b B ys.length d f P ps.length pc pb
  have HB := Lib.hid (fun (w' : World) (hb : Below W0.heap.size W0 w') => hbx.keep hb)
  have HP := Lib.hid (fun (w' : World) (hb : Below W0.heap.size W0 w') => hpx.keep hb)
  have HZ := Lib.hid (fun (w' : World) (hb : Below W0.heap.size W0 w') => hzx.keep hb)
  have HRC := Lib.hid (fun (w' : World) (hb : Below W0.heap.size W0 w') => check4_any ex A xs c b B ys d f r w' (hr.keep (hal.trans (hb.mono hal.size))))
  have HTu := Lib.hid (fun (w' : World) (hb : Below W0.heap.size W0 w') => turn_any ex A xs c b B ys d f r w' (hr.keep (hal.trans (hb.mono hal.size))) hN hM)
  have HNl := Lib.hid (fun (C D : Option Addr) (cz dz : Nat) (w' : World) (hb : Below W0.heap.size W0 w') (hq : RulR w' ex C ys cz f D xs dz b (Pt.turnR r)) => nleft_any ex C ys cz f D xs dz b (Pt.turnR r) P ps pc pb p w' hq (hp.keep (hal.trans (hb.mono hal.size))) hyz hxz hpz)
  obtain ⟨o, ho⟩ : ∃ o, o = Pt.nleft (Pt.turnR r) p := ⟨_, rfl⟩
  obtain ⟨k, hk⟩ : ∃ k, k = Pt.nleftE (Pt.turnR r) p := ⟨_, rfl⟩
  have h12 := fun n (h : Pt.nleft (Pt.turnR r) p = some n) => nleft_lens h
  have hk0 : ∀ n, o = some n → k = 0 := fun n h => by rw [hk]; exact Pt.nleft_some_E (ho.symm.trans h)
  have HK0 := Lib.hid hk0
  clear hk0
  rw [show Pt.nright r p = o.map Pt.turnR from by rw [ho]; rfl, show Pt.nrightE r p = (if Pt.rcheck r = 0 then k else Pt.rcheck r) from by rw [hk]; rfl]
  have hno := fun (h : Pt.rcheck r ≠ 0) => nleft_turn_none (p := p) h
  rw [← ho, ← hk] at HNl
  rw [← ho] at h12 hno
  have hl12 : (o.getD Pt.zeroR).left.parts.length ≤ 12 ∧ (o.getD Pt.zeroR).right.parts.length ≤ 12 := by
    cases o with
    | none => exact ⟨Nat.zero_le _, Nat.zero_le _⟩
    | some n => exact h12 n rfl
  clear ho hk h12
  generalize Pt.rcheck r = k1 at HRC hno ⊢
  have hws : W0.heap.size = w.heap.size + 1 + 1 + 1 := by rw [hW0]; simp
  have HWS := Lib.hid hws
  have HL12 := Lib.hid hl12
  have HEX := Lib.hid hr.ex
  by_cases h1 : k1 = 0
  rotate_left
  · rw [if_neg h1]
    obtain rfl := hno h1
    have t1 : ((k1 : Int) == 0) = false := by rw [beq_eq_false_iff_ne]; omega
    have t2 : ((k1 : Int) != 0) = true := by rw [bne, t1]; rfl
    clear h1 hno HNl HTu HL12
    generalize hnx : xs.length = nx at *
    generalize hny : ys.length = ny at *
    generalize ps.length = np at *
    clear hbx hpx hzx hr hp hxz hyz hpz hws hN hM hnx hny hl12
    subst hW0
    clear hal
    go_enter Tryz.func47, Tryz.ntmps47
    go_wp2_with fail
    with_reducible refine (HRC.out _ HX0.out).mono ?_
    rintro e u1 ⟨rfl, hb1⟩
    have hX1 := HX0.out.trans (hb1.mono HX0.out.size)
    have HX1 := Lib.hid hX1
    obtain ⟨k0_HB1, k1_HB1, k2_HB1, k3_HB1, k4_HB1, kl_HB1⟩ := HB.out _ hX1
    obtain ⟨p0_HP1, p1_HP1, pl_HP1⟩ := HP.out _ hX1
    obtain ⟨z0_HZ1, z1_HZ1, z2_HZ1, z3_HZ1, z4_HZ1, z5_HZ1, z6_HZ1, z7_HZ1, z8_HZ1, z9_HZ1, zl_HZ1⟩ := HZ.out _ hX1
    have z1 := hX1.size
    simp only [World.alloc, Array.size_push] at z1
    clear hb1 hX1 
    set_option maxRecDepth 100000 in go_wp2
    refine bodyPost_ret (v := .tuple #[rulV false none 0 0 false none 0 0 false, .bool false, .int .i64 k1]) (by simp [results, Tryz.results47, go_sem, z0_HZ1, z1_HZ1, z2_HZ1, z3_HZ1, z4_HZ1]) rfl ⟨false, none, [], 0, false, none, [], 0, false, rfl, rulR_zero _, ?_⟩
    exact Below.set5 (HAL.out.trans (HX1.out.mono HAL.out.size)) _ (by omega) _ _ _ _ _
  subst h1
  rw [if_pos rfl]
  clear hno
  unfold GivesTurn at HTu
  generalize hnx : xs.length = nx at *
  generalize hny : ys.length = ny at *
  generalize ps.length = np at *
  clear hbx hpx hzx hr hp hxz hyz hpz hws hN hM hnx hny hl12
  subst hW0
  clear hal
  go_enter Tryz.func47, Tryz.ntmps47
  go_wp2_with fail
  with_reducible refine (HRC.out _ HX0.out).mono ?_
  rintro e u1 ⟨rfl, hb1⟩
  have hX1 := HX0.out.trans (hb1.mono HX0.out.size)
  have HX1 := Lib.hid hX1
  obtain ⟨k0_HB1, k1_HB1, k2_HB1, k3_HB1, k4_HB1, kl_HB1⟩ := HB.out _ hX1
  obtain ⟨p0_HP1, p1_HP1, pl_HP1⟩ := HP.out _ hX1
  obtain ⟨z0_HZ1, z1_HZ1, z2_HZ1, z3_HZ1, z4_HZ1, z5_HZ1, z6_HZ1, z7_HZ1, z8_HZ1, z9_HZ1, zl_HZ1⟩ := HZ.out _ hX1
  have z1 := hX1.size
  simp only [World.alloc, Array.size_push] at z1
  clear hb1 hX1 
  go_upto_region 4 with fail
  go_cut [8, 9, 10] (fun p8 p9 p10 wx => ∃ (g : Nat) (ex5 : Bool) (C : Option Addr) (zs : List ByteArray) (cz : Nat) (g5 : Bool) (D : Option Addr) (ws : List ByteArray) (dz : Nat) (h5 : Bool), NRel u1 wx p8 p9 p10 g ex5 C zs cz g5 D ws dz h5 o k)
  case first =>
    have HSK := Lib.hid (fun (w' : World) (h : InE u1 w') => show w'.cell? ⟨w.heap.size, 0, none⟩ = some (.bool ex) ∧ w'.cell? ⟨w.heap.size, 1, none⟩ = some (.slice A nx c) ∧ w'.cell? ⟨w.heap.size, 2, none⟩ = some (.bool b) ∧ w'.cell? ⟨w.heap.size, 3, none⟩ = some (.slice B ny d) ∧ w'.cell? ⟨w.heap.size, 4, none⟩ = some (.bool f) ∧ w'.cell? ⟨w.heap.size + 1, 0, none⟩ = some (.slice P np pc) ∧ w'.cell? ⟨w.heap.size + 1, 1, none⟩ = some (.bool pb) ∧ InE u1 w' from by
      have hX := HX1.out.trans (h.below.mono HX1.out.size)
      obtain ⟨m0, m1, m2, m3, m4, _⟩ := HB.out _ hX
      obtain ⟨m5, m6, _⟩ := HP.out _ hX
      exact ⟨m0, m1, m2, m3, m4, m5, m6, h⟩)
    have HI := Lib.hid (show InE u1 u1 from ⟨Below.refl _ _⟩)
    have HTuI := Lib.hid (fun (w' : World) (h : InE u1 w') => HTu.out w' (HX1.out.trans (h.below.mono HX1.out.size)))
    have HNlI := Lib.hid (fun (C D : Option Addr) (cz dz : Nat) (w' : World) (h : InE u1 w') => HNl.out C D cz dz w' (HX1.out.trans (h.below.mono HX1.out.size)))
    unfold GivesR at HNlI
    clear k0_HB1 k1_HB1 k2_HB1 k3_HB1 k4_HB1 p0_HP1 p1_HP1 z0_HZ1 z1_HZ1 z2_HZ1 z3_HZ1 z4_HZ1 z5_HZ1 z6_HZ1 z7_HZ1 z8_HZ1 z9_HZ1 HRC HTu HNl HB HP HZ HL12
    have HT1 := Lib.hid (HTuI.out u1.drew (InE.drew HI.out))
    have HT2 := Lib.hid (HTuI.out (u1.alloc (.cells #[.bool false, .slice none 0 0, .bool false, .slice none 0 0, .bool false] 26)).drew (InE.drew (InE.allocd HI.out (.cells #[.bool false, .slice none 0 0, .bool false, .slice none 0 0, .bool false] 26))))
    have HT3 := Lib.hid (HTuI.out (u1.drew.alloc (.cells #[.bool false, .slice none 0 0, .bool false, .slice none 0 0, .bool false] 26)) (InE.allocd (InE.drew HI.out) (.cells #[.bool false, .slice none 0 0, .bool false, .slice none 0 0, .bool false] 26)))
    have HZ2 := Lib.hid (ZRul.drew (ZRul.new u1))
    have HZ3 := Lib.hid (ZRul.new u1.drew)
    set_option maxRecDepth 100000 in
    go_region_held3 (fun w' => w'.cell? ⟨w.heap.size, 0, none⟩ = some (.bool ex) ∧ w'.cell? ⟨w.heap.size, 1, none⟩ = some (.slice A nx c) ∧ w'.cell? ⟨w.heap.size, 2, none⟩ = some (.bool b) ∧ w'.cell? ⟨w.heap.size, 3, none⟩ = some (.slice B ny d) ∧ w'.cell? ⟨w.heap.size, 4, none⟩ = some (.bool f) ∧ w'.cell? ⟨w.heap.size + 1, 0, none⟩ = some (.slice P np pc) ∧ w'.cell? ⟨w.heap.size + 1, 1, none⟩ = some (.bool pb) ∧ InE u1 w')
      ((refine HSK.out _ ?_; (repeat (first | with_reducible exact hI6 | with_reducible exact hI5 | with_reducible exact InE.drew HI.out | with_reducible exact HI.out | with_reducible refine InE.allocd ?_ _ | with_reducible refine InE.drew ?_ | with_reducible refine InE.st ?_ _ _ (by omega) _))))
      (first
          | (go_at_call 48; have hcc := HNlI.out C5 D5 cz5 dz5 w5 (hI5) (hq5); with_reducible refine hcc.mono ?_; intro e w6 hh; obtain ⟨ex5, C, zs, cz, g5, D, ws, dz, h5, rfl, hq6, hb6⟩ := hh
             have hI6 : InE u1 w6 := InE.next (hI5) hb6
             have sz6 := hI6.below.size
             first | (have yy := ZRul.keep pA hb6; obtain ⟨i0, i1, i2, i3, i4, i5, i6, i7, i8, i9, il⟩ := yy) | skip)
          | (go_at_call 48; have hcc := HNlI.out C5 D5 cz5 dz5 (w5.alloc (.cells #[.bool false, .slice none 0 0, .bool false, .slice none 0 0, .bool false] 26)) (InE.allocd hI5 (.cells #[.bool false, .slice none 0 0, .bool false, .slice none 0 0, .bool false] 26)) (RulR.keepA hq5 (.cells #[.bool false, .slice none 0 0, .bool false, .slice none 0 0, .bool false] 26)); with_reducible refine hcc.mono ?_; intro e w6 hh; obtain ⟨ex5, C, zs, cz, g5, D, ws, dz, h5, rfl, hq6, hb6⟩ := hh
             have hI6 : InE u1 w6 := InE.next (InE.allocd hI5 (.cells #[.bool false, .slice none 0 0, .bool false, .slice none 0 0, .bool false] 26)) hb6
             have sz6 := hI6.below.size
             have yy := ZRul.keep (ZRul.new w5) hb6; obtain ⟨i0, i1, i2, i3, i4, i5, i6, i7, i8, i9, il⟩ := yy)
          | (go_at_call 83; have hcc := HT1.out; with_reducible refine hcc.mono ?_; intro e w5 hh; obtain ⟨C5, cz5, D5, dz5, rfl, hq5, hb5⟩ := hh
             have hI5 : InE u1 w5 := InE.next (InE.drew HI.out) hb5
             have sz5 := hI5.below.size
             skip)
          | (go_at_call 83; have hcc := HT2.out; with_reducible refine hcc.mono ?_; intro e w5 hh; obtain ⟨C5, cz5, D5, dz5, rfl, hq5, hb5⟩ := hh
             have hI5 : InE u1 w5 := InE.next (InE.drew (InE.allocd HI.out (.cells #[.bool false, .slice none 0 0, .bool false, .slice none 0 0, .bool false] 26))) hb5
             have sz5 := hI5.below.size
             have pA := ZRul.keep HZ2.out hb5)
          | (go_at_call 83; have hcc := HT3.out; with_reducible refine hcc.mono ?_; intro e w5 hh; obtain ⟨C5, cz5, D5, dz5, rfl, hq5, hb5⟩ := hh
             have hI5 : InE u1 w5 := InE.next (InE.allocd (InE.drew HI.out) (.cells #[.bool false, .slice none 0 0, .bool false, .slice none 0 0, .bool false] 26)) hb5
             have sz5 := hI5.below.size
             have pA := ZRul.keep HZ3.out hb5))
    all_goals set_option maxRecDepth 100000 in go_wp2_with fail
    all_goals go_meet
    all_goals first
      | exact ⟨_, ex5, C, zs, cz, g5, D, ws, dz, h5, ⟨rfl, rfl, rfl, RBox.new .., RulR.keepA hq6 _, (InE.allocd hI6 _).below⟩⟩
      | exact ⟨_, ex5, C, zs, cz, g5, D, ws, dz, h5, ⟨rfl, rfl, rfl, RBox.set5 ⟨i0, i1, i2, i3, i4, i5, i6, i7, i8, i9, il⟩ .., RulR.grow5 hq6 _ _ _ _ _ _ ⟨i0, i1, i2, i3, i4, i5, i6, i7, i8, i9, il⟩, Below.set5 hI6.below _ (by omega) _ _ _ _ _⟩⟩
  case rest =>
    obtain ⟨g, ex5, C, zs, cz, g5, D, ws, dz, h5, R⟩ := hcut
    obtain rfl := R.p8
    obtain rfl := R.p9
    obtain rfl := R.p10
    have hXc := HX1.out.trans (R.below.mono HX1.out.size)
    have HXc := Lib.hid hXc
    have hl12 := HL12.out
    have HT := Lib.hid (turn_any ex5 C zs cz g5 D ws dz h5 (o.getD Pt.zeroR) wc R.rr (by have := R.rr.left.len; omega) (by have := R.rr.right.len; omega))
    unfold GivesTurn at HT
    obtain ⟨t0, t1, t2, t3, t4, tl⟩ := R.bx
    obtain ⟨z0, z1, z2, z3, z4, z5, z6, z7, z8, z9, zl⟩ := HZ.out _ hXc
    have him : (o.map Pt.turnR).isSome = o.isSome := by cases o <;> rfl
    have hgd : (o.map Pt.turnR).getD Pt.zeroR = Pt.turnR (o.getD Pt.zeroR) := by cases o <;> rfl
    have HIM := Lib.hid him
    have HGD := Lib.hid hgd
    have hzc := hXc.size
    simp only [World.alloc, Array.size_push] at hzc
    clear R hXc hl12 him hgd HL12 k0_HB1 k1_HB1 k2_HB1 k3_HB1 k4_HB1 p0_HP1 p1_HP1 z0_HZ1 z1_HZ1 z2_HZ1 z3_HZ1 z4_HZ1 z5_HZ1 z6_HZ1 z7_HZ1 z8_HZ1 z9_HZ1
    go_wp2_with fail
    with_reducible refine HT.out.mono ?_
    rintro e u7 ⟨E, ez, F, fz, rfl, hrt, hb7⟩
    have HX7 := Lib.hid (HXc.out.trans (hb7.mono HXc.out.size))
    have HZ7 := Lib.hid (HZ.out _ HX7.out)
    obtain ⟨y0, y1, y2, y3, y4, y5, y6, y7, y8, y9, yl⟩ := HZ7.out
    have HRT := Lib.hid hrt
    clear hrt hb7
    set_option maxRecDepth 100000 in go_wp2
    refine bodyPost_ret (v := .tuple #[rulV ex5 E ws.length ez h5 F zs.length fz g5, .bool o.isSome, .int .i64 k]) (by simp [results, Tryz.results47, go_sem, y0, y1, y2, y3, y4]) rfl ⟨ex5, E, ws, ez, h5, F, zs, fz, g5, by rw [HIM.out], ?_, ?_⟩
    · rw [HGD.out]
      exact RulR.grow5 HRT.out _ _ _ _ _ _ HZ7.out
    · exact Below.set5 (HAL.out.trans (HX7.out.mono HAL.out.size)) _ (by omega) _ _ _ _ _
set_option maxHeartbeats 16000000 in
theorem qnr_any (ex : Bool) (A : Option Addr) (xs : List ByteArray) (c : Nat) (b : Bool) (B : Option Addr) (ys : List ByteArray) (d : Nat) (f : Bool) (r : Pt.Rul) (P : Option Addr) (ps : List ByteArray) (pc : Nat) (pb : Bool) (p : Pt.Pat) (w : World) (hr : RulR w ex A xs c b B ys d f r) (hp : PatR w P ps pc pb p) (hxz : Pt.szs 100000 r.left) (hyz : Pt.szs 50000 r.right) (hpz : Pt.szs 50000 p) (hN : xs.length ≤ 1000000) (hM : ys.length ≤ 1000000) :
    Calls Tryz.prog 51 #[rulV ex A xs.length c b B ys.length d f, patV P ps.length pc pb] w (GivesR w (Pt.nright r p) (Pt.nrightE r p)) := by
  obtain ⟨W0, hW0⟩ : ∃ W0, W0 = ((w.alloc (.cells #[.bool ex, .slice A xs.length c, .bool b, .slice B ys.length d, .bool f] 26)).alloc (.cells #[.slice P ps.length pc, .bool pb] 24)).alloc zeroRul := ⟨_, rfl⟩
  have hal : Below w.heap.size w W0 := by rw [hW0]; exact (((Below.refl _ _).alloc (Nat.le_refl _) _).alloc (by simp) _).alloc (by simp; omega) _
  have HX0 := Lib.hid (Below.refl W0.heap.size W0)
  have HAL := Lib.hid hal
  obtain ⟨hbx, hpx, hzx⟩ : RBox W0 w.heap.size ex A xs.length c b B ys.length d f ∧ PBox W0 (w.heap.size + 1) P ps.length pc pb ∧ ZRul W0 (w.heap.size + 1 + 1) := by rw [hW0]; exact boxes3 w ex A xs.length c b B ys.length d f P ps.length pc pb
  have HB := Lib.hid (fun (w' : World) (hb : Below W0.heap.size W0 w') => hbx.keep hb)
  have HP := Lib.hid (fun (w' : World) (hb : Below W0.heap.size W0 w') => hpx.keep hb)
  have HZ := Lib.hid (fun (w' : World) (hb : Below W0.heap.size W0 w') => hzx.keep hb)
  have HRC := Lib.hid (fun (w' : World) (hb : Below W0.heap.size W0 w') => qcheck_any ex A xs c b B ys d f r w' (hr.keep (hal.trans (hb.mono hal.size))))
  have HTu := Lib.hid (fun (w' : World) (hb : Below W0.heap.size W0 w') => qturn_any ex A xs c b B ys d f r w' (hr.keep (hal.trans (hb.mono hal.size))) hN hM)
  have HNl := Lib.hid (fun (C D : Option Addr) (cz dz : Nat) (w' : World) (hb : Below W0.heap.size W0 w') (hq : RulR w' ex C ys cz f D xs dz b (Pt.turnR r)) => qnl_any ex C ys cz f D xs dz b (Pt.turnR r) P ps pc pb p w' hq (hp.keep (hal.trans (hb.mono hal.size))) hyz hxz hpz)
  obtain ⟨o, ho⟩ : ∃ o, o = Pt.nleft (Pt.turnR r) p := ⟨_, rfl⟩
  obtain ⟨k, hk⟩ : ∃ k, k = Pt.nleftE (Pt.turnR r) p := ⟨_, rfl⟩
  have h12 := fun n (h : Pt.nleft (Pt.turnR r) p = some n) => nleft_lens h
  have hk0 : ∀ n, o = some n → k = 0 := fun n h => by rw [hk]; exact Pt.nleft_some_E (ho.symm.trans h)
  have HK0 := Lib.hid hk0
  clear hk0
  rw [show Pt.nright r p = o.map Pt.turnR from by rw [ho]; rfl, show Pt.nrightE r p = (if Pt.rcheck r = 0 then k else Pt.rcheck r) from by rw [hk]; rfl]
  have hno := fun (h : Pt.rcheck r ≠ 0) => nleft_turn_none (p := p) h
  rw [← ho, ← hk] at HNl
  rw [← ho] at h12 hno
  have hl12 : (o.getD Pt.zeroR).left.parts.length ≤ 12 ∧ (o.getD Pt.zeroR).right.parts.length ≤ 12 := by
    cases o with
    | none => exact ⟨Nat.zero_le _, Nat.zero_le _⟩
    | some n => exact h12 n rfl
  clear ho hk h12
  generalize Pt.rcheck r = k1 at HRC hno ⊢
  have hws : W0.heap.size = w.heap.size + 1 + 1 + 1 := by rw [hW0]; simp
  have HWS := Lib.hid hws
  have HL12 := Lib.hid hl12
  have HEX := Lib.hid hr.ex
  by_cases h1 : k1 = 0
  rotate_left
  · rw [if_neg h1]
    obtain rfl := hno h1
    have t1 : ((k1 : Int) == 0) = false := by rw [beq_eq_false_iff_ne]; omega
    have t2 : ((k1 : Int) != 0) = true := by rw [bne, t1]; rfl
    clear h1 hno HNl HTu HL12
    generalize hnx : xs.length = nx at *
    generalize hny : ys.length = ny at *
    generalize ps.length = np at *
    clear hbx hpx hzx hr hp hxz hyz hpz hws hN hM hnx hny hl12
    subst hW0
    clear hal
    go_enter Tryz.func51, Tryz.ntmps51
    go_wp2_with fail
    with_reducible refine (HRC.out _ HX0.out).mono ?_
    rintro e u1 ⟨rfl, hb1⟩
    have hX1 := HX0.out.trans (hb1.mono HX0.out.size)
    have HX1 := Lib.hid hX1
    obtain ⟨k0_HB1, k1_HB1, k2_HB1, k3_HB1, k4_HB1, kl_HB1⟩ := HB.out _ hX1
    obtain ⟨p0_HP1, p1_HP1, pl_HP1⟩ := HP.out _ hX1
    obtain ⟨z0_HZ1, z1_HZ1, z2_HZ1, z3_HZ1, z4_HZ1, z5_HZ1, z6_HZ1, z7_HZ1, z8_HZ1, z9_HZ1, zl_HZ1⟩ := HZ.out _ hX1
    have z1 := hX1.size
    simp only [World.alloc, Array.size_push] at z1
    clear hb1 hX1 
    set_option maxRecDepth 100000 in go_wp2
    refine bodyPost_ret (v := .tuple #[rulV false none 0 0 false none 0 0 false, .bool false, .int .i64 k1]) (by simp [results, Tryz.results51, go_sem, z0_HZ1, z1_HZ1, z2_HZ1, z3_HZ1, z4_HZ1]) rfl ⟨false, none, [], 0, false, none, [], 0, false, rfl, rulR_zero _, ?_⟩
    exact Below.set5 (HAL.out.trans (HX1.out.mono HAL.out.size)) _ (by omega) _ _ _ _ _
  subst h1
  rw [if_pos rfl]
  clear hno
  unfold GivesTurn at HTu
  generalize hnx : xs.length = nx at *
  generalize hny : ys.length = ny at *
  generalize ps.length = np at *
  clear hbx hpx hzx hr hp hxz hyz hpz hws hN hM hnx hny hl12
  subst hW0
  clear hal
  go_enter Tryz.func51, Tryz.ntmps51
  go_wp2_with fail
  with_reducible refine (HRC.out _ HX0.out).mono ?_
  rintro e u1 ⟨rfl, hb1⟩
  have hX1 := HX0.out.trans (hb1.mono HX0.out.size)
  have HX1 := Lib.hid hX1
  obtain ⟨k0_HB1, k1_HB1, k2_HB1, k3_HB1, k4_HB1, kl_HB1⟩ := HB.out _ hX1
  obtain ⟨p0_HP1, p1_HP1, pl_HP1⟩ := HP.out _ hX1
  obtain ⟨z0_HZ1, z1_HZ1, z2_HZ1, z3_HZ1, z4_HZ1, z5_HZ1, z6_HZ1, z7_HZ1, z8_HZ1, z9_HZ1, zl_HZ1⟩ := HZ.out _ hX1
  have z1 := hX1.size
  simp only [World.alloc, Array.size_push] at z1
  clear hb1 hX1 
  go_upto_region 4 with fail
  go_cut [8, 9, 10] (fun p8 p9 p10 wx => ∃ (g : Nat) (ex5 : Bool) (C : Option Addr) (zs : List ByteArray) (cz : Nat) (g5 : Bool) (D : Option Addr) (ws : List ByteArray) (dz : Nat) (h5 : Bool), NRel u1 wx p8 p9 p10 g ex5 C zs cz g5 D ws dz h5 o k)
  case first =>
    have HSK := Lib.hid (fun (w' : World) (h : InE u1 w') => show w'.cell? ⟨w.heap.size, 0, none⟩ = some (.bool ex) ∧ w'.cell? ⟨w.heap.size, 1, none⟩ = some (.slice A nx c) ∧ w'.cell? ⟨w.heap.size, 2, none⟩ = some (.bool b) ∧ w'.cell? ⟨w.heap.size, 3, none⟩ = some (.slice B ny d) ∧ w'.cell? ⟨w.heap.size, 4, none⟩ = some (.bool f) ∧ w'.cell? ⟨w.heap.size + 1, 0, none⟩ = some (.slice P np pc) ∧ w'.cell? ⟨w.heap.size + 1, 1, none⟩ = some (.bool pb) ∧ InE u1 w' from by
      have hX := HX1.out.trans (h.below.mono HX1.out.size)
      obtain ⟨m0, m1, m2, m3, m4, _⟩ := HB.out _ hX
      obtain ⟨m5, m6, _⟩ := HP.out _ hX
      exact ⟨m0, m1, m2, m3, m4, m5, m6, h⟩)
    have HI := Lib.hid (show InE u1 u1 from ⟨Below.refl _ _⟩)
    have HTuI := Lib.hid (fun (w' : World) (h : InE u1 w') => HTu.out w' (HX1.out.trans (h.below.mono HX1.out.size)))
    have HNlI := Lib.hid (fun (C D : Option Addr) (cz dz : Nat) (w' : World) (h : InE u1 w') => HNl.out C D cz dz w' (HX1.out.trans (h.below.mono HX1.out.size)))
    unfold GivesR at HNlI
    clear k0_HB1 k1_HB1 k2_HB1 k3_HB1 k4_HB1 p0_HP1 p1_HP1 z0_HZ1 z1_HZ1 z2_HZ1 z3_HZ1 z4_HZ1 z5_HZ1 z6_HZ1 z7_HZ1 z8_HZ1 z9_HZ1 HRC HTu HNl HB HP HZ HL12
    have HT1 := Lib.hid (HTuI.out u1.drew (InE.drew HI.out))
    have HT2 := Lib.hid (HTuI.out (u1.alloc (.cells #[.bool false, .slice none 0 0, .bool false, .slice none 0 0, .bool false] 26)).drew (InE.drew (InE.allocd HI.out (.cells #[.bool false, .slice none 0 0, .bool false, .slice none 0 0, .bool false] 26))))
    have HT3 := Lib.hid (HTuI.out (u1.drew.alloc (.cells #[.bool false, .slice none 0 0, .bool false, .slice none 0 0, .bool false] 26)) (InE.allocd (InE.drew HI.out) (.cells #[.bool false, .slice none 0 0, .bool false, .slice none 0 0, .bool false] 26)))
    have HZ2 := Lib.hid (ZRul.drew (ZRul.new u1))
    have HZ3 := Lib.hid (ZRul.new u1.drew)
    set_option maxRecDepth 100000 in
    go_region_held3 (fun w' => w'.cell? ⟨w.heap.size, 0, none⟩ = some (.bool ex) ∧ w'.cell? ⟨w.heap.size, 1, none⟩ = some (.slice A nx c) ∧ w'.cell? ⟨w.heap.size, 2, none⟩ = some (.bool b) ∧ w'.cell? ⟨w.heap.size, 3, none⟩ = some (.slice B ny d) ∧ w'.cell? ⟨w.heap.size, 4, none⟩ = some (.bool f) ∧ w'.cell? ⟨w.heap.size + 1, 0, none⟩ = some (.slice P np pc) ∧ w'.cell? ⟨w.heap.size + 1, 1, none⟩ = some (.bool pb) ∧ InE u1 w')
      ((refine HSK.out _ ?_; (repeat (first | with_reducible exact hI6 | with_reducible exact hI5 | with_reducible exact InE.drew HI.out | with_reducible exact HI.out | with_reducible refine InE.allocd ?_ _ | with_reducible refine InE.drew ?_ | with_reducible refine InE.st ?_ _ _ (by omega) _))))
      (first
          | (go_at_call 52; have hcc := HNlI.out C5 D5 cz5 dz5 w5 (hI5) (hq5); with_reducible refine hcc.mono ?_; intro e w6 hh; obtain ⟨ex5, C, zs, cz, g5, D, ws, dz, h5, rfl, hq6, hb6⟩ := hh
             have hI6 : InE u1 w6 := InE.next (hI5) hb6
             have sz6 := hI6.below.size
             first | (have yy := ZRul.keep pA hb6; obtain ⟨i0, i1, i2, i3, i4, i5, i6, i7, i8, i9, il⟩ := yy) | skip)
          | (go_at_call 52; have hcc := HNlI.out C5 D5 cz5 dz5 (w5.alloc (.cells #[.bool false, .slice none 0 0, .bool false, .slice none 0 0, .bool false] 26)) (InE.allocd hI5 (.cells #[.bool false, .slice none 0 0, .bool false, .slice none 0 0, .bool false] 26)) (RulR.keepA hq5 (.cells #[.bool false, .slice none 0 0, .bool false, .slice none 0 0, .bool false] 26)); with_reducible refine hcc.mono ?_; intro e w6 hh; obtain ⟨ex5, C, zs, cz, g5, D, ws, dz, h5, rfl, hq6, hb6⟩ := hh
             have hI6 : InE u1 w6 := InE.next (InE.allocd hI5 (.cells #[.bool false, .slice none 0 0, .bool false, .slice none 0 0, .bool false] 26)) hb6
             have sz6 := hI6.below.size
             have yy := ZRul.keep (ZRul.new w5) hb6; obtain ⟨i0, i1, i2, i3, i4, i5, i6, i7, i8, i9, il⟩ := yy)
          | (go_at_call 88; have hcc := HT1.out; with_reducible refine hcc.mono ?_; intro e w5 hh; obtain ⟨C5, cz5, D5, dz5, rfl, hq5, hb5⟩ := hh
             have hI5 : InE u1 w5 := InE.next (InE.drew HI.out) hb5
             have sz5 := hI5.below.size
             skip)
          | (go_at_call 88; have hcc := HT2.out; with_reducible refine hcc.mono ?_; intro e w5 hh; obtain ⟨C5, cz5, D5, dz5, rfl, hq5, hb5⟩ := hh
             have hI5 : InE u1 w5 := InE.next (InE.drew (InE.allocd HI.out (.cells #[.bool false, .slice none 0 0, .bool false, .slice none 0 0, .bool false] 26))) hb5
             have sz5 := hI5.below.size
             have pA := ZRul.keep HZ2.out hb5)
          | (go_at_call 88; have hcc := HT3.out; with_reducible refine hcc.mono ?_; intro e w5 hh; obtain ⟨C5, cz5, D5, dz5, rfl, hq5, hb5⟩ := hh
             have hI5 : InE u1 w5 := InE.next (InE.allocd (InE.drew HI.out) (.cells #[.bool false, .slice none 0 0, .bool false, .slice none 0 0, .bool false] 26)) hb5
             have sz5 := hI5.below.size
             have pA := ZRul.keep HZ3.out hb5))
    all_goals set_option maxRecDepth 100000 in go_wp2_with fail
    all_goals go_meet
    all_goals first
      | exact ⟨_, ex5, C, zs, cz, g5, D, ws, dz, h5, ⟨rfl, rfl, rfl, RBox.new .., RulR.keepA hq6 _, (InE.allocd hI6 _).below⟩⟩
      | exact ⟨_, ex5, C, zs, cz, g5, D, ws, dz, h5, ⟨rfl, rfl, rfl, RBox.set5 ⟨i0, i1, i2, i3, i4, i5, i6, i7, i8, i9, il⟩ .., RulR.grow5 hq6 _ _ _ _ _ _ ⟨i0, i1, i2, i3, i4, i5, i6, i7, i8, i9, il⟩, Below.set5 hI6.below _ (by omega) _ _ _ _ _⟩⟩
  case rest =>
    obtain ⟨g, ex5, C, zs, cz, g5, D, ws, dz, h5, R⟩ := hcut
    obtain rfl := R.p8
    obtain rfl := R.p9
    obtain rfl := R.p10
    have hXc := HX1.out.trans (R.below.mono HX1.out.size)
    have HXc := Lib.hid hXc
    have hl12 := HL12.out
    have HT := Lib.hid (qturn_any ex5 C zs cz g5 D ws dz h5 (o.getD Pt.zeroR) wc R.rr (by have := R.rr.left.len; omega) (by have := R.rr.right.len; omega))
    unfold GivesTurn at HT
    obtain ⟨t0, t1, t2, t3, t4, tl⟩ := R.bx
    obtain ⟨z0, z1, z2, z3, z4, z5, z6, z7, z8, z9, zl⟩ := HZ.out _ hXc
    have him : (o.map Pt.turnR).isSome = o.isSome := by cases o <;> rfl
    have hgd : (o.map Pt.turnR).getD Pt.zeroR = Pt.turnR (o.getD Pt.zeroR) := by cases o <;> rfl
    have HIM := Lib.hid him
    have HGD := Lib.hid hgd
    have hzc := hXc.size
    simp only [World.alloc, Array.size_push] at hzc
    clear R hXc hl12 him hgd HL12 k0_HB1 k1_HB1 k2_HB1 k3_HB1 k4_HB1 p0_HP1 p1_HP1 z0_HZ1 z1_HZ1 z2_HZ1 z3_HZ1 z4_HZ1 z5_HZ1 z6_HZ1 z7_HZ1 z8_HZ1 z9_HZ1
    cases o with
    | none =>
      set_option maxRecDepth 100000 in go_wp2
      refine bodyPost_ret (v := .tuple #[rulV false none 0 0 false none 0 0 false, .bool false, .int .i64 k]) (by simp [results, Tryz.results51, go_sem, z0, z1, z2, z3, z4]) rfl ⟨false, none, [], 0, false, none, [], 0, false, rfl, rulR_zero _, ?_⟩
      exact Below.set5 (HAL.out.trans (HXc.out.mono HAL.out.size)) _ (by omega) _ _ _ _ _
    | some n =>
      obtain rfl := HK0.out n rfl
      go_wp2_with fail
      with_reducible refine HT.out.mono ?_
      rintro e u7 ⟨E, ez, F, fz, rfl, hrt, hb7⟩
      have HX7 := Lib.hid (HXc.out.trans (hb7.mono HXc.out.size))
      have HZ7 := Lib.hid (HZ.out _ HX7.out)
      obtain ⟨y0, y1, y2, y3, y4, y5, y6, y7, y8, y9, yl⟩ := HZ7.out
      have HRT := Lib.hid hrt
      clear hrt hb7
      set_option maxRecDepth 100000 in go_wp2
      refine bodyPost_ret (v := .tuple #[rulV ex5 E ws.length ez h5 F zs.length fz g5, .bool true, .int .i64 0]) (by simp [results, Tryz.results51, go_sem, y0, y1, y2, y3, y4]) rfl ⟨ex5, E, ws, ez, h5, F, zs, fz, g5, by rw [HIM.out]; rfl, ?_, ?_⟩
      · rw [HGD.out]
        exact RulR.grow5 HRT.out _ _ _ _ _ _ HZ7.out
      · exact Below.set5 (HAL.out.trans (HX7.out.mono HAL.out.size)) _ (by omega) _ _ _ _ _
end Go.Proofs.YthgcnlhlhipllaaGreatDoor

namespace Go.Proofs.YthgcnlhlhipllaaGreatDoor
open Go.RowKit

/-- A box that holds a line and may be written. -/
structure FBox (w : World) (g : Nat) (ex : Bool) (A : Option Addr) (n c : Nat) (b : Bool) (B : Option Addr) (m d : Nat) (f : Bool) : Prop where
  bx : RBox w g ex A n c b B m d f
  f0 : w.frozen? ⟨g, 0, none⟩ = false
  f1 : w.frozen? ⟨g, 1, none⟩ = false
  f2 : w.frozen? ⟨g, 2, none⟩ = false
  f3 : w.frozen? ⟨g, 3, none⟩ = false
  f4 : w.frozen? ⟨g, 4, none⟩ = false
theorem FBox.keep {w w' : World} {g : Nat} {ex : Bool} {A : Option Addr} {n c : Nat} {b : Bool} {B : Option Addr} {m d : Nat} {f : Bool} (h : FBox w g ex A n c b B m d f) (hb : Below w.heap.size w w') : FBox w' g ex A n c b B m d f :=
  ⟨h.bx.keep hb, (hb.frozen (p := ⟨g, 0, none⟩) h.bx.lt).trans h.f0, (hb.frozen (p := ⟨g, 1, none⟩) h.bx.lt).trans h.f1, (hb.frozen (p := ⟨g, 2, none⟩) h.bx.lt).trans h.f2, (hb.frozen (p := ⟨g, 3, none⟩) h.bx.lt).trans h.f3, (hb.frozen (p := ⟨g, 4, none⟩) h.bx.lt).trans h.f4⟩
theorem FBox.new (w : World) (ex : Bool) (A : Option Addr) (n c : Nat) (b : Bool) (B : Option Addr) (m d : Nat) (f : Bool) : FBox (w.alloc (rulObj ex A n c b B m d f)) w.heap.size ex A n c b B m d f :=
  ⟨RBox.new .., cells_free _ _ _ 0, cells_free _ _ _ 1, cells_free _ _ _ 2, cells_free _ _ _ 3, cells_free _ _ _ 4⟩
theorem FBox.over {w : World} {g : Nat} {ex : Bool} {A : Option Addr} {n c : Nat} {b : Bool} {B : Option Addr} {m d : Nat} {f : Bool} (h : FBox w g ex A n c b B m d f) (ex2 : Bool) (A2 : Option Addr) (n2 c2 : Nat) (b2 : Bool) (B2 : Option Addr) (m2 d2 : Nat) (f2 : Bool) : FBox (((((w.setCell ⟨g, 0, none⟩ (.bool ex2)).setCell ⟨g, 1, none⟩ (.slice A2 n2 c2)).setCell ⟨g, 2, none⟩ (.bool b2)).setCell ⟨g, 3, none⟩ (.slice B2 m2 d2)).setCell ⟨g, 4, none⟩ (.bool f2)) g ex2 A2 n2 c2 b2 B2 m2 d2 f2 :=
  ⟨⟨by simp [go_sem, h.bx.c0], by simp [go_sem, h.bx.c1], by simp [go_sem, h.bx.c2], by simp [go_sem, h.bx.c3], by simp [go_sem, h.bx.c4], by simpa [World.setCell] using h.bx.lt⟩, by simpa using h.f0, by simpa using h.f1, by simpa using h.f2, by simpa using h.f3, by simpa using h.f4⟩
theorem FBox.aside {w : World} {g q : Nat} {ex : Bool} {A : Option Addr} {n c : Nat} {b : Bool} {B : Option Addr} {m d : Nat} {f : Bool} (h : FBox w g ex A n c b B m d f) (hq : q ≠ g) (u0 u1 u2 u3 u4 : Value) : FBox (((((w.setCell ⟨q, 0, none⟩ u0).setCell ⟨q, 1, none⟩ u1).setCell ⟨q, 2, none⟩ u2).setCell ⟨q, 3, none⟩ u3).setCell ⟨q, 4, none⟩ u4) g ex A n c b B m d f := by
  have hq2 := hq.symm
  exact ⟨⟨by simp [go_sem, h.bx.c0], by simp [go_sem, h.bx.c1], by simp [go_sem, h.bx.c2], by simp [go_sem, h.bx.c3], by simp [go_sem, h.bx.c4], by simpa [World.setCell] using h.bx.lt⟩, by simpa using h.f0, by simpa using h.f1, by simpa using h.f2, by simpa using h.f3, by simpa using h.f4⟩
theorem ZRul.aside {w : World} {g q : Nat} (h : ZRul w g) (hq : q ≠ g) (u0 u1 u2 u3 u4 : Value) : ZRul (((((w.setCell ⟨q, 0, none⟩ u0).setCell ⟨q, 1, none⟩ u1).setCell ⟨q, 2, none⟩ u2).setCell ⟨q, 3, none⟩ u3).setCell ⟨q, 4, none⟩ u4) g := by
  have hq2 := hq.symm
  exact ⟨by simp [go_sem, h.c0], by simp [go_sem, h.c1], by simp [go_sem, h.c2], by simp [go_sem, h.c3], by simp [go_sem, h.c4], by simpa using h.f0, by simpa using h.f1, by simpa using h.f2, by simpa using h.f3, by simpa using h.f4, by simpa [World.setCell] using h.lt⟩
theorem PatR.over {w : World} {A0 : Option Addr} {zs : List ByteArray} {c0 : Nat} {b0 : Bool} {p : Pt.Pat} (h : PatR w A0 zs c0 b0 p) {g : Nat} {ex : Bool} {A : Option Addr} {n c : Nat} {b : Bool} {B : Option Addr} {m d : Nat} {f : Bool} (z : RBox w g ex A n c b B m d f) (u0 u1 u2 u3 u4 : Value) : PatR (((((w.setCell ⟨g, 0, none⟩ u0).setCell ⟨g, 1, none⟩ u1).setCell ⟨g, 2, none⟩ u2).setCell ⟨g, 3, none⟩ u3).setCell ⟨g, 4, none⟩ u4) A0 zs c0 b0 p := by
  refine ((((h.stored ⟨g, 0, none⟩ u0 _ z.c0 (fun _ h => by cases h)).stored ⟨g, 1, none⟩ u1 (.slice A n c) ?_ (fun _ h => by cases h)).stored ⟨g, 2, none⟩ u2 (.bool b) ?_ (fun _ h => by cases h)).stored ⟨g, 3, none⟩ u3 (.slice B m d) ?_ (fun _ h => by cases h)).stored ⟨g, 4, none⟩ u4 (.bool f) ?_ (fun _ h => by cases h)
  · simp [go_sem, z.c1]
  · simp [go_sem, z.c2]
  · simp [go_sem, z.c3]
  · simp [go_sem, z.c4]
theorem RulR.over {w : World} {ex0 : Bool} {A0 : Option Addr} {xs0 : List ByteArray} {c0 : Nat} {b0 : Bool} {B0 : Option Addr} {ys0 : List ByteArray} {d0 : Nat} {f0 : Bool} {r : Pt.Rul} (h : RulR w ex0 A0 xs0 c0 b0 B0 ys0 d0 f0 r) {g : Nat} {ex : Bool} {A : Option Addr} {n c : Nat} {b : Bool} {B : Option Addr} {m d : Nat} {f : Bool} (z : RBox w g ex A n c b B m d f) (u0 u1 u2 u3 u4 : Value) : RulR (((((w.setCell ⟨g, 0, none⟩ u0).setCell ⟨g, 1, none⟩ u1).setCell ⟨g, 2, none⟩ u2).setCell ⟨g, 3, none⟩ u3).setCell ⟨g, 4, none⟩ u4) ex0 A0 xs0 c0 b0 B0 ys0 d0 f0 r :=
  ⟨h.ex, h.left.over z u0 u1 u2 u3 u4, h.right.over z u0 u1 u2 u3 u4⟩
theorem boxesC (w : World) (ex : Bool) (A : Option Addr) (n c : Nat) (b : Bool) (B : Option Addr) (m d : Nat) (f : Bool) (ex2 : Bool) (A2 : Option Addr) (n2 c2 : Nat) (b2 : Bool) (B2 : Option Addr) (m2 d2 : Nat) (f2 : Bool) :
    FBox (((w.alloc (rulObj ex A n c b B m d f)).alloc (rulObj ex2 A2 n2 c2 b2 B2 m2 d2 f2)).alloc zeroRul) w.heap.size ex A n c b B m d f ∧ FBox (((w.alloc (rulObj ex A n c b B m d f)).alloc (rulObj ex2 A2 n2 c2 b2 B2 m2 d2 f2)).alloc zeroRul) (w.heap.size + 1) ex2 A2 n2 c2 b2 B2 m2 d2 f2 ∧ ZRul (((w.alloc (rulObj ex A n c b B m d f)).alloc (rulObj ex2 A2 n2 c2 b2 B2 m2 d2 f2)).alloc zeroRul) (w.heap.size + 1 + 1) := by
  have e1 : (w.alloc (rulObj ex A n c b B m d f)).heap.size = w.heap.size + 1 := by simp
  have e2 : ((w.alloc (rulObj ex A n c b B m d f)).alloc (rulObj ex2 A2 n2 c2 b2 B2 m2 d2 f2)).heap.size = w.heap.size + 1 + 1 := by simp
  refine ⟨((FBox.new ..).keep ((Below.refl _ _).alloc (Nat.le_refl _) _)).keep ((Below.refl _ _).alloc (Nat.le_refl _) _), ?_, ?_⟩
  · have h := (FBox.new (w.alloc (rulObj ex A n c b B m d f)) ex2 A2 n2 c2 b2 B2 m2 d2 f2).keep ((Below.refl _ _).alloc (Nat.le_refl _) zeroRul)
    rw [e1] at h
    exact h
  · have h := ZRul.new ((w.alloc (rulObj ex A n c b B m d f)).alloc (rulObj ex2 A2 n2 c2 b2 B2 m2 d2 f2))
    rw [e2] at h
    exact h
/-- What lies there behind a narrowing that is laid into the variable it came from. -/
structure CRel (w wx : World) (p8 p9 : Value) (e1 : Bool) (A1 : Option Addr) (n1 : List ByteArray) (c1 : Nat) (b1 : Bool) (B1 : Option Addr) (m1 : List ByteArray) (d1 : Nat) (f1 : Bool) (r1 : Pt.Rul) (e2 : Bool) (A2 : Option Addr) (n2 : List ByteArray) (c2 : Nat) (b2 : Bool) (B2 : Option Addr) (m2 : List ByteArray) (d2 : Nat) (f2 : Bool) (r2 : Pt.Rul) (j : Bool) (k : Nat) : Prop where
  p8 : p8 = .bool j
  p9 : p9 = .int .i64 (k : Int)
  x1 : FBox wx w.heap.size e1 A1 n1.length c1 b1 B1 m1.length d1 f1
  x2 : FBox wx (w.heap.size + 1) e2 A2 n2.length c2 b2 B2 m2.length d2 f2
  z : ZRul wx (w.heap.size + 1 + 1)
  r1 : RulR wx e1 A1 n1 c1 b1 B1 m1 d1 f1 r1
  r2 : RulR wx e2 A2 n2 c2 b2 B2 m2 d2 f2 r2
  below : Below w.heap.size w wx
theorem checkBoth_any (ex : Bool) (A : Option Addr) (xs : List ByteArray) (c : Nat) (b : Bool) (B : Option Addr) (ys : List ByteArray) (d : Nat) (f : Bool) (r : Pt.Rul) (ex' : Bool) (A' : Option Addr) (xs' : List ByteArray) (c' : Nat) (b' : Bool) (B' : Option Addr) (ys' : List ByteArray) (d' : Nat) (f' : Bool) (r' : Pt.Rul) (w : World) (hr : RulR w ex A xs c b B ys d f r) (hq : RulR w ex' A' xs' c' b' B' ys' d' f' r') :
    Calls Tryz.prog 46 #[rulV ex A xs.length c b B ys.length d f, rulV ex' A' xs'.length c' b' B' ys'.length d' f'] w (GivesN w (if Pt.rcheck r = 0 then Pt.rcheck r' else Pt.rcheck r)) := by
  obtain ⟨W0, hW0⟩ : ∃ W0, W0 = (w.alloc (.cells #[.bool ex, .slice A xs.length c, .bool b, .slice B ys.length d, .bool f] 26)).alloc (.cells #[.bool ex', .slice A' xs'.length c', .bool b', .slice B' ys'.length d', .bool f'] 26) := ⟨_, rfl⟩
  have hal : Below w.heap.size w W0 := by rw [hW0]; exact ((Below.refl _ _).alloc (Nat.le_refl _) _).alloc (by simp) _
  have HX0 := Lib.hid (Below.refl W0.heap.size W0)
  have HAL := Lib.hid hal
  obtain ⟨hbx, hpx⟩ : RBox W0 w.heap.size ex A xs.length c b B ys.length d f ∧ RBox W0 (w.heap.size + 1) ex' A' xs'.length c' b' B' ys'.length d' f' := by rw [hW0]; exact boxesR ..
  have HB := Lib.hid (fun (w' : World) (hb : Below W0.heap.size W0 w') => hpx.keep hb)
  have H1 := Lib.hid (fun (w' : World) (hb : Below W0.heap.size W0 w') => check4_any ex A xs c b B ys d f r w' (hr.keep (hal.trans (hb.mono hal.size))))
  have H2 := Lib.hid (fun (w' : World) (hb : Below W0.heap.size W0 w') => check4_any ex' A' xs' c' b' B' ys' d' f' r' w' (hq.keep (hal.trans (hb.mono hal.size))))
  generalize Pt.rcheck r = k1 at *
  generalize Pt.rcheck r' = k2 at *
  generalize xs.length = n at *
  generalize ys.length = m at *
  generalize xs'.length = n' at *
  generalize ys'.length = m' at *
  clear hr hq hbx hpx
  subst hW0
  clear hal
  by_cases h : k1 = 0
  · subst h
    rw [if_pos rfl]
    go_enter Tryz.func46, Tryz.ntmps46
    go_wp2_with fail
    with_reducible refine (H1.out _ HX0.out).mono ?_
    rintro e u1 ⟨rfl, hb1⟩
    obtain ⟨k0, k1, k2, k3, k4, kl⟩ := HB.out _ hb1
    have HX1 := Lib.hid hb1
    clear hb1
    go_wp2_with fail
    with_reducible refine (H2.out _ HX1.out).mono ?_
    rintro e u2 ⟨rfl, hb2⟩
    have HX2 := Lib.hid (HX1.out.trans (hb2.mono HX1.out.size))
    clear hb2
    go_wp2
    go_ret
    exact ⟨rfl, HAL.out.trans (HX2.out.mono HAL.out.size)⟩
  · rw [if_neg h]
    have t1 : ((k1 : Int) == 0) = false := by rw [beq_eq_false_iff_ne]; omega
    have t2 : ((k1 : Int) != 0) = true := by rw [bne, t1]; rfl
    clear h
    go_enter Tryz.func46, Tryz.ntmps46
    go_wp2_with fail
    with_reducible refine (H1.out _ HX0.out).mono ?_
    rintro e u1 ⟨rfl, hb1⟩
    have HX1 := Lib.hid hb1
    clear hb1
    go_wp2
    go_ret
    exact ⟨rfl, HAL.out.trans (HX1.out.mono HAL.out.size)⟩
theorem nright_szs {r x : Pt.Rul} {p : Pt.Pat} (h : Pt.nright r p = some x) (_h1 : Pt.szs 100000 r.left) (h2 : Pt.szs 50000 r.right) (h3 : Pt.szs 50000 p) : Pt.szs 50000 x.right := by
  obtain ⟨n', hn, rfl⟩ := Pt.nright_form h
  exact (Pt.nleft_sizes (M := 100000) hn h2 h3 _h1).1
set_option maxHeartbeats 16000000 in
theorem chain_any (ex : Bool) (A : Option Addr) (xs : List ByteArray) (c : Nat) (b : Bool) (B : Option Addr) (ys : List ByteArray) (d : Nat) (f : Bool) (r : Pt.Rul) (ex' : Bool) (A' : Option Addr) (xs' : List ByteArray) (c' : Nat) (b' : Bool) (B' : Option Addr) (ys' : List ByteArray) (d' : Nat) (f' : Bool) (r' : Pt.Rul) (w : World) (hr : RulR w ex A xs c b B ys d f r) (hq : RulR w ex' A' xs' c' b' B' ys' d' f' r') (h1 : Pt.szs 100000 r.left) (h2 : Pt.szs 50000 r.right) (h3 : Pt.szs 50000 r'.left) (h4 : Pt.szs 100000 r'.right) (hN : xs.length ≤ 1000000) (hM : ys.length ≤ 1000000) :
    Calls Tryz.prog 18 #[rulV ex A xs.length c b B ys.length d f, rulV ex' A' xs'.length c' b' B' ys'.length d' f'] w (GivesR w (Pt.chain r r') (Pt.chainE r r')) := by
  obtain ⟨W0, hW0⟩ : ∃ W0, W0 = ((w.alloc (.cells #[.bool ex, .slice A xs.length c, .bool b, .slice B ys.length d, .bool f] 26)).alloc (.cells #[.bool ex', .slice A' xs'.length c', .bool b', .slice B' ys'.length d', .bool f'] 26)).alloc zeroRul := ⟨_, rfl⟩
  have hal : Below w.heap.size w W0 := by rw [hW0]; exact (((Below.refl _ _).alloc (Nat.le_refl _) _).alloc (by simp) _).alloc (by simp; omega) _
  have HX0 := Lib.hid (Below.refl W0.heap.size W0)
  have HAL := Lib.hid hal
  obtain ⟨hbx, hpx, hzx⟩ : FBox W0 w.heap.size ex A xs.length c b B ys.length d f ∧ FBox W0 (w.heap.size + 1) ex' A' xs'.length c' b' B' ys'.length d' f' ∧ ZRul W0 (w.heap.size + 1 + 1) := by rw [hW0]; exact boxesC ..
  have HB := Lib.hid (fun (w' : World) (hb : Below W0.heap.size W0 w') => hbx.keep hb)
  have HP := Lib.hid (fun (w' : World) (hb : Below W0.heap.size W0 w') => hpx.keep hb)
  have HZ := Lib.hid (fun (w' : World) (hb : Below W0.heap.size W0 w') => hzx.keep hb)
  have HCb := Lib.hid (fun (w' : World) (hb : Below W0.heap.size W0 w') => checkBoth_any ex A xs c b B ys d f r ex' A' xs' c' b' B' ys' d' f' r' w' (hr.keep (hal.trans (hb.mono hal.size))) (hq.keep (hal.trans (hb.mono hal.size))))
  have HNR := Lib.hid (fun (w' : World) (hb : Below W0.heap.size W0 w') => nright_any ex A xs c b B ys d f r A' xs' c' b' r'.left w' (hr.keep (hal.trans (hb.mono hal.size))) (hq.keep (hal.trans (hb.mono hal.size))).left h1 h2 h3 hN hM)
  have HR2 := Lib.hid (fun (w' : World) (hb : Below W0.heap.size W0 w') => hq.keep (hal.trans (hb.mono hal.size)))
  obtain ⟨o, ho⟩ : ∃ o, o = Pt.nright r r'.left := ⟨_, rfl⟩
  obtain ⟨k, hk⟩ : ∃ k, k = Pt.nrightE r r'.left := ⟨_, rfl⟩
  have hxs := fun x (h : o = some x) => nright_szs (ho.symm.trans h) h1 h2 h3
  have hv : Pt.chain r r' = if Pt.rcheck r = 0 ∧ Pt.rcheck r' = 0 then (match o with
      | none => none
      | some x => match Pt.nleft r' x.right with
        | none => none
        | some y => some ⟨false, x.left, y.right⟩) else none := by rw [ho]; rfl
  have he : Pt.chainE r r' = if Pt.rcheck r = 0 then (if Pt.rcheck r' = 0 then (match o with
      | none => k
      | some x => Pt.nleftE r' x.right) else Pt.rcheck r') else Pt.rcheck r := by rw [ho, hk]; rfl
  rw [← ho, ← hk] at HNR
  clear ho hk
  generalize Pt.chain r r' = cv at hv ⊢
  generalize Pt.chainE r r' = ce at he ⊢
  have HNL := Lib.hid (fun (x : Pt.Rul) (hx : o = some x) (w' : World) (hq' : RulR w' ex' A' xs' c' b' B' ys' d' f' r') (C : Option Addr) (zs : List ByteArray) (cz : Nat) (g : Bool) (hp : PatR w' C zs cz g x.right) => nleft_any ex' A' xs' c' b' B' ys' d' f' r' C zs cz g x.right w' hq' hp h3 h4 (hxs x hx))
  have HQ := Lib.hid hq
  have hws : W0.heap.size = w.heap.size + 1 + 1 + 1 := by rw [hW0]; simp
  have HWS := Lib.hid hws
  have HV := Lib.hid hv
  have HE := Lib.hid he
  clear hv he hxs hr hq h1 h2 h3 h4 hN hM
  have HLB := Lib.hid (show ∀ (zs : List ByteArray), zs.length = zs.length from fun _ => rfl)
  clear HLB
  by_cases hk0 : (if Pt.rcheck r = 0 then Pt.rcheck r' else Pt.rcheck r) = 0
  rotate_left
  · have hcv : cv = none := by
      rw [HV.out, if_neg]
      rintro ⟨a1, a2⟩
      rw [if_pos a1] at hk0
      exact hk0 a2
    have hce : ce = (if Pt.rcheck r = 0 then Pt.rcheck r' else Pt.rcheck r) := by
      rw [HE.out]
      by_cases a1 : Pt.rcheck r = 0
      · rw [if_pos a1, if_pos a1]
        rw [if_pos a1] at hk0
        rw [if_neg hk0]
      · rw [if_neg a1, if_neg a1]
    subst hcv
    rw [hce]
    clear hce HV HE
    generalize (if Pt.rcheck r = 0 then Pt.rcheck r' else Pt.rcheck r) = k1 at *
    have t1 : ((k1 : Int) == 0) = false := by rw [beq_eq_false_iff_ne]; omega
    have t2 : ((k1 : Int) != 0) = true := by rw [bne, t1]; rfl
    clear hk0
    generalize xs.length = n at *
    generalize ys.length = m at *
    generalize xs'.length = n' at *
    generalize ys'.length = m' at *
    clear hbx hpx hzx hws
    subst hW0
    clear hal
    go_enter Tryz.func18, Tryz.ntmps18
    go_wp2_with fail
    with_reducible refine (HCb.out _ HX0.out).mono ?_
    rintro e u1 ⟨rfl, hb1⟩
    obtain ⟨z0, z1, z2, z3, z4, z5, z6, z7, z8, z9, zl⟩ := HZ.out _ hb1
    have HX1 := Lib.hid hb1
    clear hb1
    set_option maxRecDepth 100000 in go_wp2
    refine bodyPost_ret (v := .tuple #[rulV false none 0 0 false none 0 0 false, .bool false, .int .i64 k1]) (by simp [results, Tryz.results18, go_sem, z0, z1, z2, z3, z4]) rfl ⟨false, none, [], 0, false, none, [], 0, false, rfl, rulR_zero _, ?_⟩
    exact Below.set5 (HAL.out.trans (HX1.out.mono HAL.out.size)) _ (by omega) _ _ _ _ _
  have hk1 : Pt.rcheck r = 0 ∧ Pt.rcheck r' = 0 := by
    by_cases a1 : Pt.rcheck r = 0
    · rw [if_pos a1] at hk0
      exact ⟨a1, hk0⟩
    · rw [if_neg a1] at hk0
      exact absurd hk0 a1
  have hv := HV.out
  have he := HE.out
  rw [if_pos hk1] at hv
  rw [if_pos hk1.1, if_pos hk1.2] at he
  rw [hk0] at HCb
  have HV := Lib.hid hv
  have HE := Lib.hid he
  clear hk0 hk1 hv he
  generalize hn : xs.length = n at *
  generalize hm : ys.length = m at *
  clear hn hm hws
  have HBX := Lib.hid hbx
  clear hbx hpx hzx
  subst hW0
  clear hal
  go_enter Tryz.func18, Tryz.ntmps18
  go_wp2_with fail
  with_reducible refine (HCb.out _ HX0.out).mono ?_
  rintro e u1 ⟨rfl, hb1⟩
  obtain ⟨⟨k0, k1, k2, k3, k4, kl⟩, k5, k6, k7, k8, k9⟩ := HB.out _ hb1
  obtain ⟨⟨q0, q1, q2, q3, q4, ql⟩, q5, q6, q7, q8, q9⟩ := HP.out _ hb1
  have HX1 := Lib.hid hb1
  have hs1 := hb1.size
  simp only [World.alloc, Array.size_push] at hs1
  clear hb1
  go_upto_region 4 with fail
  go_cut [8, 9] (fun p8 p9 wx => ∃ (e1 : Bool) (A1 : Option Addr) (n1 : List ByteArray) (c1 : Nat) (b1 : Bool) (B1 : Option Addr) (m1 : List ByteArray) (d1 : Nat) (f1 : Bool), CRel w wx p8 p9 e1 A1 n1 c1 b1 B1 m1 d1 f1 (o.getD Pt.zeroR) ex' A' xs' c' b' B' ys' d' f' r' o.isSome k)
  case first =>
    go_wp2_with fail
    with_reducible refine (HNR.out _ HX1.out).mono ?_
    rintro e u2 ⟨e1, A1, n1, c1, b1, B1, m1, d1, f1, rfl, hr1, hb2⟩
    have hX2 := HX1.out.trans (hb2.mono HX1.out.size)
    have hfb := HB.out _ hX2
    have HFB := Lib.hid hfb
    obtain ⟨⟨y0, y1, y2, y3, y4, yl⟩, y5, y6, y7, y8, y9⟩ := hfb
    have HX2 := Lib.hid hX2
    have HR1 := Lib.hid hr1
    clear hb2 hX2 hr1 k0 k1 k2 k3 k4 k5 k6 k7 k8 k9 q0 q1 q2 q3 q4 q5 q6 q7 q8 q9
    set_option maxRecDepth 100000 in go_wp2_with fail
    go_meet
    exact ⟨e1, A1, n1, c1, b1, B1, m1, d1, f1, ⟨rfl, rfl, HFB.out.over .., (HP.out _ HX2.out).aside (by omega) _ _ _ _ _, (HZ.out _ HX2.out).aside (by omega) _ _ _ _ _, HR1.out.over HFB.out.bx _ _ _ _ _, (HR2.out _ HX2.out).over HFB.out.bx _ _ _ _ _, Below.set5 (HAL.out.trans (HX2.out.mono HAL.out.size)) _ (Nat.le_refl _) _ _ _ _ _⟩⟩
  case rest =>
    obtain ⟨e1, A1, n1, c1, b1, B1, m1, d1, f1, R⟩ := hcut
    obtain rfl := R.p8
    obtain rfl := R.p9
    obtain ⟨⟨t0, t1, t2, t3, t4, tl⟩, t5, t6, t7, t8, t9⟩ := R.x1
    obtain ⟨⟨s0, s1, s2, s3, s4, sl⟩, s5, s6, s7, s8, s9⟩ := R.x2
    obtain ⟨z0, z1, z2, z3, z4, z5, z6, z7, z8, z9, zl⟩ := R.z
    have HR := Lib.hid R
    clear R k0 k1 k2 k3 k4 k5 k6 k7 k8 k9 q0 q1 q2 q3 q4 q5 q6 q7 q8 q9
    cases o with
    | none =>
      have hcv : cv = none := HV.out
      have hce : ce = k := HE.out
      subst hcv
      subst hce
      clear HV HE HNL HNR HR2
      set_option maxRecDepth 100000 in go_wp2
      refine bodyPost_ret (v := .tuple #[rulV false none 0 0 false none 0 0 false, .bool false, .int .i64 ce]) (by simp [results, Tryz.results18, go_sem, z0, z1, z2, z3, z4]) rfl ⟨false, none, [], 0, false, none, [], 0, false, rfl, rulR_zero _, ?_⟩
      exact Below.set5 HR.out.below _ (by omega) _ _ _ _ _
    | some x =>
      have HNL2 := Lib.hid (HNL.out x rfl wc HR.out.r2 B1 m1 d1 f1 HR.out.r1.right)
      have hv : cv = match Pt.nleft r' x.right with
        | none => none
        | some y => some ⟨false, x.left, y.right⟩ := HV.out
      have he : ce = Pt.nleftE r' x.right := HE.out
      clear HV HE HNL HNR HR2
      rw [← he] at HNL2
      obtain ⟨o2, ho2⟩ : ∃ o2, o2 = Pt.nleft r' x.right := ⟨_, rfl⟩
      have he0 : o2.isSome = true → ce = 0 := fun h => by
        rw [he]
        cases hn : Pt.nleft r' x.right with
        | none => rw [ho2, hn] at h; cases h
        | some y => exact Pt.nleft_some_E hn
      rw [← ho2] at HNL2 hv
      clear he ho2
      have HV := Lib.hid hv
      have HE0 := Lib.hid he0
      clear hv he0
      go_upto_region 7 with fail
      go_cut [8, 9] (fun p8 p9 wx => ∃ (e2 : Bool) (A2 : Option Addr) (n2 : List ByteArray) (c2 : Nat) (b2 : Bool) (B2 : Option Addr) (m2 : List ByteArray) (d2 : Nat) (f2 : Bool), CRel w wx p8 p9 e1 A1 n1 c1 b1 B1 m1 d1 f1 x e2 A2 n2 c2 b2 B2 m2 d2 f2 (o2.getD Pt.zeroR) o2.isSome ce)
      case first =>
        set_option maxRecDepth 100000 in go_wp2_with fail
        with_reducible refine HNL2.out.mono ?_
        rintro e u2 ⟨e2, A2, n2, c2, b2, B2, m2, d2, f2, rfl, hr2, hb2⟩
        have hfb := HR.out.x2.keep hb2
        have HFB := Lib.hid hfb
        have HFA := Lib.hid (HR.out.x1.keep hb2)
        have HZZ := Lib.hid (HR.out.z.keep hb2)
        have HR1 := Lib.hid (HR.out.r1.keep hb2)
        have HBW := Lib.hid (HR.out.below.trans (hb2.mono HR.out.below.size))
        obtain ⟨⟨y0, y1, y2, y3, y4, yl⟩, y5, y6, y7, y8, y9⟩ := hfb
        have HRR := Lib.hid hr2
        clear hb2 hr2 t0 t1 t2 t3 t4 tl t5 t6 t7 t8 t9 s0 s1 s2 s3 s4 sl s5 s6 s7 s8 s9 z0 z1 z2 z3 z4 z5 z6 z7 z8 z9 zl
        set_option maxRecDepth 100000 in go_wp2_with fail
        go_meet
        exact ⟨e2, A2, n2, c2, b2, B2, m2, d2, f2, ⟨rfl, rfl, HFA.out.aside (by omega) _ _ _ _ _, HFB.out.over .., HZZ.out.aside (by omega) _ _ _ _ _, HR1.out.over HFB.out.bx _ _ _ _ _, HRR.out.over HFB.out.bx _ _ _ _ _, Below.set5 HBW.out _ (by omega) _ _ _ _ _⟩⟩
      case rest =>
        clear t0 t1 t2 t3 t4 tl t5 t6 t7 t8 t9 s0 s1 s2 s3 s4 sl s5 s6 s7 s8 s9 z0 z1 z2 z3 z4 z5 z6 z7 z8 z9 zl HR HNL2
        obtain ⟨e2, A2, n2, c2, b2, B2, m2, d2, f2, R⟩ := hcut
        obtain rfl := R.p8
        obtain rfl := R.p9
        obtain ⟨⟨t0, t1, t2, t3, t4, tl⟩, t5, t6, t7, t8, t9⟩ := R.x1
        obtain ⟨⟨s0, s1, s2, s3, s4, sl⟩, s5, s6, s7, s8, s9⟩ := R.x2
        have hz := R.z
        obtain ⟨z0, z1, z2, z3, z4, z5, z6, z7, z8, z9, zl⟩ := hz
        have HR := Lib.hid R
        clear R
        cases o2 with
        | none =>
          have hcv : cv = none := HV.out
          subst hcv
          clear HV HE0
          set_option maxRecDepth 100000 in go_wp2
          refine bodyPost_ret (v := .tuple #[rulV false none 0 0 false none 0 0 false, .bool false, .int .i64 ce]) (by simp [results, Tryz.results18, go_sem, z0, z1, z2, z3, z4]) rfl ⟨false, none, [], 0, false, none, [], 0, false, rfl, rulR_zero _, ?_⟩
          exact Below.set5 HR.out.below _ (by omega) _ _ _ _ _
        | some y =>
          have hcv : cv = some ⟨false, x.left, y.right⟩ := HV.out
          have hce := HE0.out rfl
          subst hcv
          subst hce
          clear HV HE0
          set_option maxRecDepth 100000 in go_wp2
          refine bodyPost_ret (v := .tuple #[rulV false A1 n1.length c1 b1 B2 m2.length d2 f2, .bool true, .int .i64 0]) (by simp [results, Tryz.results18, go_sem, z0, z1, z2, z3, z4]) rfl ⟨false, A1, n1, c1, b1, B2, m2, d2, f2, rfl, ⟨rfl, ?_, ?_⟩, ?_⟩
          · exact HR.out.r1.left.grow5 _ _ _ _ _ _ HR.out.z
          · exact HR.out.r2.right.grow5 _ _ _ _ _ _ HR.out.z
          · exact Below.set5 HR.out.below _ (by omega) _ _ _ _ _
end Go.Proofs.YthgcnlhlhipllaaGreatDoor
