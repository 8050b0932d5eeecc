/- The contract of the reference's Same of lines, where both are the same line. -/
import Derived.Test.YtchgbigjfpffeaaDoorRulAll
import Derived.Test.YtchgbigjfpffeaaDoorPatSubAll
namespace Go.Proofs.YtchgbigjfpffeaaDoor
open Go.RowKit

theorem boxesR6 (w : World) (ex : Bool) (A : Option Addr) (n c : Nat) (b : Bool) (B : Option Addr) (m d : Nat) (f : Bool) (ex' : Bool) (A' : Option Addr) (n' c' : Nat) (b' : Bool) (B' : Option Addr) (m' d' : Nat) (f' : Bool) :
    RBox ((w.alloc (rulObj ex A n c b B m d f)).alloc (rulObj ex' A' n' c' b' B' m' d' f')) w.heap.size ex A n c b B m d f ∧ RBox ((w.alloc (rulObj ex A n c b B m d f)).alloc (rulObj ex' A' n' c' b' B' m' d' f')) (w.heap.size + 1) ex' A' n' c' b' B' m' d' f' := by
  have e1 : (w.alloc (rulObj ex A n c b B m d f)).heap.size = w.heap.size + 1 := by simp
  refine ⟨(RBox.new ..).keep ((Below.refl _ _).alloc (Nat.le_refl _) _), ?_⟩
  have h := RBox.new (w.alloc (rulObj ex A n c b B m d f)) ex' A' n' c' b' B' m' d' f'
  rw [e1] at h
  exact h
set_option maxHeartbeats 4000000 in
theorem same_lines6 (ex : Bool) (A : Option Addr) (xs : List ByteArray) (c : Nat) (b : Bool) (B : Option Addr) (ys : List ByteArray) (d : Nat) (f : Bool) (ex' : Bool) (A' : Option Addr) (xs' : List ByteArray) (c' : Nat) (b' : Bool) (B' : Option Addr) (ys' : List ByteArray) (d' : Nat) (f' : Bool) (r : Pt.Rul) (w : World) (h1 : RulR w ex A xs c b B ys d f r) (h2 : RulR w ex' A' xs' c' b' B' ys' d' f' r) :
    Calls Tryd.prog 16 #[rulV ex A xs.length c b B ys.length d f, rulV ex' A' xs'.length c' b' B' ys'.length d' f'] w (GivesBB w true) := by
  obtain rfl : ex = ex' := h1.ex.trans h2.ex.symm
  obtain ⟨W0, hW0⟩ : ∃ W0, W0 = (w.alloc (.cells #[.bool ex, .slice A xs.length c, .bool b, .slice B ys.length d, .bool f] 34)).alloc (.cells #[.bool ex, .slice A' xs'.length c', .bool b', .slice B' ys'.length d', .bool f'] 34) := ⟨_, rfl⟩
  have hal : Below w.heap.size w W0 := by rw [hW0]; exact ((Below.refl _ _).alloc (Nat.le_refl _) _).alloc (by simp) _
  have HX0 := Lib.hid (Below.refl W0.heap.size W0)
  have HAL := Lib.hid hal
  obtain ⟨hbx, hpx⟩ : RBox W0 w.heap.size ex A xs.length c b B ys.length d f ∧ RBox W0 (w.heap.size + 1) ex A' xs'.length c' b' B' ys'.length d' f' := by rw [hW0]; exact boxesR6 ..
  have HB := Lib.hid (fun (w' : World) (hb : Below W0.heap.size W0 w') => hbx.keep hb)
  have HP := Lib.hid (fun (w' : World) (hb : Below W0.heap.size W0 w') => hpx.keep hb)
  have HL := Lib.hid (fun (w' : World) (hb : Below W0.heap.size W0 w') => same_pats A A' xs xs' c c' b b' r.left w' (h1.left.keep (hal.trans (hb.mono hal.size))) (h2.left.keep (hal.trans (hb.mono hal.size))))
  have HR := Lib.hid (fun (w' : World) (hb : Below W0.heap.size W0 w') => same_pats B B' ys ys' d d' f f' r.right w' (h1.right.keep (hal.trans (hb.mono hal.size))) (h2.right.keep (hal.trans (hb.mono hal.size))))
  generalize xs.length = n at *
  generalize ys.length = m at *
  generalize xs'.length = n' at *
  generalize ys'.length = m' at *
  clear h1 h2 hbx hpx
  subst hW0
  clear hal
  cases ex
  all_goals
    go_enter Tryd.func16, Tryd.ntmps16
    go_wp2_with fail
    with_reducible refine (HL.out _ HX0.out).mono ?_
    rintro e u1 ⟨rfl, hb1⟩
    obtain ⟨k0, k1, k2, k3, k4, kl⟩ := HB.out _ hb1
    obtain ⟨p0, p1, p2, p3, p4, pl⟩ := HP.out _ hb1
    have HX1 := Lib.hid hb1
    clear hb1
    go_wp2_with fail
    with_reducible refine (HR.out _ HX1.out).mono ?_
    rintro e u2 ⟨rfl, hb2⟩
    have HX2 := Lib.hid (HX1.out.trans (hb2.mono HX1.out.size))
    clear hb2
    go_wp2
    go_ret
    exact ⟨rfl, HAL.out.trans (HX2.out.mono HAL.out.size)⟩
end Go.Proofs.YtchgbigjfpffeaaDoor
