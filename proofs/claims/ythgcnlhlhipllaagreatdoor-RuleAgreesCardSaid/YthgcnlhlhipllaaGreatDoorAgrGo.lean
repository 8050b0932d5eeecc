/- The contract of agreement. -/
import Derived.Test.YthgcnlhlhipllaaGreatDoorAgrFnS
import Derived.Test.YthgcnlhlhipllaaGreatDoorAgrFnC
import Derived.Test.YthgcnlhlhipllaaGreatDoorAgrFnW
import Derived.Deep.LoopGhost
namespace Go.Proofs.YthgcnlhlhipllaaGreatDoor
open Go.RowKit
/-- A box that holds the zero pattern, to be written. -/
structure ZPat (w : World) (g : Nat) : Prop where
  c0 : w.cell? ⟨g, 0, none⟩ = some (.slice none 0 0)
  c1 : w.cell? ⟨g, 1, none⟩ = some (.bool false)
  f0 : w.frozen? ⟨g, 0, none⟩ = false
  f1 : w.frozen? ⟨g, 1, none⟩ = false
  lt : g < w.heap.size
theorem ZPat.keep {w w' : World} {g : Nat} (h : ZPat w g) (hb : Below w.heap.size w w') : ZPat w' g :=
  ⟨(hb.cell (p := ⟨g, 0, none⟩) h.lt).trans h.c0, (hb.cell (p := ⟨g, 1, none⟩) h.lt).trans h.c1, (hb.frozen (p := ⟨g, 0, none⟩) h.lt).trans h.f0, (hb.frozen (p := ⟨g, 1, none⟩) h.lt).trans h.f1, Nat.lt_of_lt_of_le h.lt hb.size⟩
theorem ZPat.new (w : World) : ZPat (w.alloc (patObj none 0 0 false)) w.heap.size := ⟨cells_new _ _ _ 0 _ rfl, cells_new _ _ _ 1 _ rfl, cells_free _ _ _ 0, cells_free _ _ _ 1, by simp⟩
theorem ZPat.aside {w : World} {g q : Nat} (h : ZPat w g) (hq : q ≠ g) (u0 u1 u2 u3 u4 : Value) : ZPat (((((w.setCell ⟨q, 0, none⟩ u0).setCell ⟨q, 1, none⟩ u1).setCell ⟨q, 2, none⟩ u2).setCell ⟨q, 3, none⟩ u3).setCell ⟨q, 4, none⟩ u4) g := by
  have hq2 := hq.symm
  exact ⟨by simp [go_sem, h.c0], by simp [go_sem, h.c1], by simpa using h.f0, by simpa using h.f1, by simpa [World.setCell] using h.lt⟩
theorem boxesA (w : World) (ex : Bool) (A : Option Addr) (n c : Nat) (b : Bool) (B : Option Addr) (m d : Nat) (f : Bool) (ex2 : Bool) (A2 : Option Addr) (n2 c2 : Nat) (b2 : Bool) (B2 : Option Addr) (m2 d2 : Nat) (f2 : Bool) :
    FBox (((w.alloc (rulObj ex A n c b B m d f)).alloc (rulObj ex2 A2 n2 c2 b2 B2 m2 d2 f2)).alloc (patObj none 0 0 false)) w.heap.size ex A n c b B m d f ∧ FBox (((w.alloc (rulObj ex A n c b B m d f)).alloc (rulObj ex2 A2 n2 c2 b2 B2 m2 d2 f2)).alloc (patObj none 0 0 false)) (w.heap.size + 1) ex2 A2 n2 c2 b2 B2 m2 d2 f2 ∧ ZPat (((w.alloc (rulObj ex A n c b B m d f)).alloc (rulObj ex2 A2 n2 c2 b2 B2 m2 d2 f2)).alloc (patObj none 0 0 false)) (w.heap.size + 1 + 1) := by
  have e1 : (w.alloc (rulObj ex A n c b B m d f)).heap.size = w.heap.size + 1 := by simp
  have e2 : ((w.alloc (rulObj ex A n c b B m d f)).alloc (rulObj ex2 A2 n2 c2 b2 B2 m2 d2 f2)).heap.size = w.heap.size + 1 + 1 := by simp
  refine ⟨((FBox.new ..).keep ((Below.refl _ _).alloc (Nat.le_refl _) _)).keep ((Below.refl _ _).alloc (Nat.le_refl _) _), ?_, ?_⟩
  · have h := (FBox.new (w.alloc (rulObj ex A n c b B m d f)) ex2 A2 n2 c2 b2 B2 m2 d2 f2).keep ((Below.refl _ _).alloc (Nat.le_refl _) (patObj none 0 0 false))
    rw [e1] at h
    exact h
  · have h := ZPat.new ((w.alloc (rulObj ex A n c b B m d f)).alloc (rulObj ex2 A2 n2 c2 b2 B2 m2 d2 f2))
    rw [e2] at h
    exact h
/-- What stands at the head of a round of agreement. -/
structure XRel (w wx : World) (a b : Pt.Rul) (e1 : Bool) (A1 : Option Addr) (n1 : List ByteArray) (c1 : Nat) (b1 : Bool) (B1 : Option Addr) (m1 : List ByteArray) (d1 : Nat) (f1 : Bool) (r1 : Pt.Rul) (e2 : Bool) (A2 : Option Addr) (n2 : List ByteArray) (c2 : Nat) (b2 : Bool) (B2 : Option Addr) (m2 : List ByteArray) (d2 : Nat) (f2 : Bool) (r2 : Pt.Rul) : Prop where
  x1 : FBox wx w.heap.size e1 A1 n1.length c1 b1 B1 m1.length d1 f1
  x2 : FBox wx (w.heap.size + 1) e2 A2 n2.length c2 b2 B2 m2.length d2 f2
  z : ZPat wx (w.heap.size + 1 + 1)
  rr1 : RulR wx e1 A1 n1 c1 b1 B1 m1 d1 f1 r1
  rr2 : RulR wx e2 A2 n2 c2 b2 B2 m2 d2 f2 r2
  two : Pt.Two r1 r2
  agree : ∀ o, Pt.AgreeIs r1 r2 o → Pt.AgreeIs a b o
  sz : Pt.Szl 600 (600 * (13 - Pt.stars r1.left.parts)) r1 r2
  below : Below w.heap.size w wx
/-- What agreement gives: what Agree of the two lines answers. -/
def GivesAgr (w : World) (a b : Pt.Rul) (e : Ending) (w' : World) : Prop :=
  ∃ (C : Option Addr) (zs : List ByteArray) (cz : Nat) (g : Bool) (o : Option Pt.Pat), e = .returned (.tuple #[patV C zs.length cz g, .bool o.isSome]) ∧ PatR w' C zs cz g (o.getD Pt.none_) ∧ Pt.AgreeIs a b o ∧ Below w.heap.size w w'
theorem determined_any (ex : Bool) (A : Option Addr) (xs : List ByteArray) (c : Nat) (b : Bool) (B : Option Addr) (ys : List ByteArray) (d : Nat) (f : Bool) (r : Pt.Rul) (ex' : Bool) (A' : Option Addr) (xs' : List ByteArray) (c' : Nat) (b' : Bool) (B' : Option Addr) (ys' : List ByteArray) (d' : Nat) (f' : Bool) (r' : Pt.Rul) (i : Nat) (L : Nat) (w : World) (hr : RulR w ex A xs c b B ys d f r) (hq : RulR w ex' A' xs' c' b' B' ys' d' f' r') (h2 : Pt.Two r r') (hi : i < ys.length) (hj : i < ys'.length) (hsame : (bs ys).take i = (bs ys').take i) (hne : ys[i] ≠ ys'[i]) (hz : Pt.Szl 600 L r r') (hL : L ≤ 20000) :
    Calls Tryz.prog 91 #[rulV ex A xs.length c b B ys.length d f, rulV ex' A' xs'.length c' b' B' ys'.length d' f', .int .i64 (i : Int)] w (GivesDet w r r') := by
  cases h1 : Pt.isStar ys'[i].data.toList with
  | false => exact determined_comp ex A xs c b B ys d f r ex' A' xs' c' b' B' ys' d' f' r' i L w hr hq h2 hi hj hsame hne hz hL h1
  | true =>
    cases h3 : Pt.isStar ys[i].data.toList with
    | false => exact determined_swap ex A xs c b B ys d f r ex' A' xs' c' b' B' ys' d' f' r' i L w hr hq h2 hi hj hsame hne hz hL h1 h3
    | true => exact determined_stars ex A xs c b B ys d f r ex' A' xs' c' b' B' ys' d' f' r' i L w hr hq h2 hi hj hsame hne hz hL h1 h3
theorem ZPat.patR {w : World} {g : Nat} (z : ZPat w g) {A : Option Addr} {xs : List ByteArray} {c : Nat} {b : Bool} {p : Pt.Pat} (h : PatR w A xs c b p) (u0 u1 : Value) : PatR ((w.setCell ⟨g, 0, none⟩ u0).setCell ⟨g, 1, none⟩ u1) A xs c b p :=
  h.store2 g u0 u1 _ _ z.c0 z.c1 (fun _ h => by cases h) (fun _ h => by cases h)
theorem Below.set2 {w w' : World} {k : Nat} (hb : Below k w w') (g : Nat) (hg : k ≤ g) (u0 u1 : Value) : Below k w ((w'.setCell ⟨g, 0, none⟩ u0).setCell ⟨g, 1, none⟩ u1) := (hb.setCell (p := ⟨g, 0, none⟩) hg _).setCell (p := ⟨g, 1, none⟩) hg _
set_option maxHeartbeats 4000000 in
theorem agreement_any (ex : Bool) (A : Option Addr) (xs : List ByteArray) (c : Nat) (b : Bool) (B : Option Addr) (ys : List ByteArray) (d : Nat) (f : Bool) (r : Pt.Rul) (ex' : Bool) (A' : Option Addr) (xs' : List ByteArray) (c' : Nat) (b' : Bool) (B' : Option Addr) (ys' : List ByteArray) (d' : Nat) (f' : Bool) (r' : Pt.Rul) (w : World) (hr : RulR w ex A xs c b B ys d f r) (hq : RulR w ex' A' xs' c' b' B' ys' d' f' r') (ca : Pt.rcheck r = 0) (cb : Pt.rcheck r' = 0) (hl : r.left = r'.left) (hz : Pt.Szl 600 600 r r') :
    Calls Tryz.prog 53 #[rulV ex A xs.length c b B ys.length d f, rulV ex' A' xs'.length c' b' B' ys'.length d' f'] w (GivesAgr w r r') := by
  obtain ⟨W0, hW0⟩ : ∃ W0, W0 = ((w.alloc (.cells #[.bool ex, .slice A xs.length c, .bool b, .slice B ys.length d, .bool f] 26)).alloc (.cells #[.bool ex', .slice A' xs'.length c', .bool b', .slice B' ys'.length d', .bool f'] 26)).alloc (patObj none 0 0 false) := ⟨_, rfl⟩
  have hal : Below w.heap.size w W0 := by rw [hW0]; exact (((Below.refl _ _).alloc (Nat.le_refl _) _).alloc (by simp) _).alloc (by simp; omega) _
  have HAL := Lib.hid hal
  obtain ⟨hbx, hpx, hzx⟩ : FBox W0 w.heap.size ex A xs.length c b B ys.length d f ∧ FBox W0 (w.heap.size + 1) ex' A' xs'.length c' b' B' ys'.length d' f' ∧ ZPat W0 (w.heap.size + 1 + 1) := by rw [hW0]; exact boxesA ..
  have kl := hr.right.len
  have kl' := hq.right.len
  have l12 := (Pt.check_ok.1 (Pt.rcheck_zero.1 ca).1).2
  have st12 : Pt.stars r.left.parts ≤ 12 := Nat.le_trans (List.length_filter_le _ _) l12
  by_cases hlen : ys.length = ys'.length
  rotate_left
  · have HDEAD := Lib.hid (Pt.AgreeIs.dead (a := r) (b := r') fun p t f1 f2 => Pt.agree_len hl (by omega) f1 f2)
    have t1 : ((ys.length : Int) == (ys'.length : Int)) = false := by rw [beq_eq_false_iff_ne]; omega
    have t2 : ((ys.length : Int) != (ys'.length : Int)) = true := by rw [bne, t1]; rfl
    generalize xs.length = nx at *
    generalize ys.length = ny at *
    generalize xs'.length = mx at *
    generalize ys'.length = my at *
    have hy1 := hbx
    have hy2 := hpx
    have hy3 := hzx
    obtain ⟨⟨k0, k1, k2, k3, k4, kl⟩, k5, k6, k7, k8, k9⟩ := hy1
    obtain ⟨⟨q0, q1, q2, q3, q4, ql⟩, q5, q6, q7, q8, q9⟩ := hy2
    obtain ⟨z0, z1, z2, z3, zl⟩ := hy3
    clear hr hq hz hlen kl kl' hbx hpx hzx l12 st12 ca cb hl
    have HWS := Lib.hid (show W0.heap.size = w.heap.size + 1 + 1 + 1 from by rw [hW0]; simp)
    subst hW0
    clear hal
    go_enter Tryz.func53, Tryz.ntmps53
    go_wp2
    go_step3
    set_option maxRecDepth 100000 in go_wp2
    try rw [Exit.noGoto_ret]
    refine bodyPost_ret (v := .tuple #[patV none 0 0 false, .bool false]) (by simp [results, Tryz.results53, go_sem, z0, z1]) rfl ⟨none, [], 0, false, none, rfl, patR_zero _, HDEAD.out, ?_⟩
    exact HAL.out
  have h2 : Pt.Two r r' := ⟨ca, cb, hl, by omega⟩
  have hsz : Pt.Szl 600 (600 * (13 - Pt.stars r.left.parts)) r r' := by
    have h600 : 600 ≤ 600 * (13 - Pt.stars r.left.parts) := by omega
    exact ⟨fun x hx => ⟨Nat.le_trans (hz.left x hx).1 h600, (hz.left x hx).2⟩, fun x hx => ⟨Nat.le_trans (hz.ra x hx).1 h600, (hz.ra x hx).2⟩, fun x hx => ⟨Nat.le_trans (hz.rb x hx).1 h600, (hz.rb x hx).2⟩⟩
  have X0 := Lib.hid (show XRel w W0 r r' ex A xs c b B ys d f r ex' A' xs' c' b' B' ys' d' f' r' from ⟨hbx, hpx, hzx, hr.keep hal, hq.keep hal, h2, fun _ h => h, hsz, hal⟩)
  obtain ⟨N, hN⟩ : ∃ N, N = Pt.stars r.left.parts := ⟨_, rfl⟩
  have HN := Lib.hid hN
  have HST := Lib.hid st12
  have t1 : ((ys.length : Int) == (ys'.length : Int)) = true := by rw [beq_iff_eq]; omega
  have t2 : ((ys.length : Int) != (ys'.length : Int)) = false := by rw [bne, t1]; rfl
  have hy1 := hbx
  have hy2 := hpx
  have hy3 := hzx
  obtain ⟨⟨k0, k1, k2, k3, k4, kl⟩, k5, k6, k7, k8, k9⟩ := hy1
  obtain ⟨⟨q0, q1, q2, q3, q4, ql⟩, q5, q6, q7, q8, q9⟩ := hy2
  obtain ⟨z0, z1, z2, z3, zl⟩ := hy3
  clear hr hq hz hlen kl kl' hbx hpx hzx l12 st12 ca cb hl h2 hsz hN hal
  subst hW0
  go_enter Tryz.func53, Tryz.ntmps53
  go_wp2
  generalize ((w.alloc (.cells #[.bool ex, .slice A xs.length c, .bool b, .slice B ys.length d, .bool f] 26)).alloc (.cells #[.bool ex', .slice A' xs'.length c', .bool b', .slice B' ys'.length d', .bool f'] 26)).alloc (patObj none 0 0 false) = W5 at *
  go_step3
  go_wp2
  go_step3
  go_wp2
  clear k0 k1 k2 k3 k4 kl k5 k6 k7 k8 k9 q0 q1 q2 q3 q4 ql q5 q6 q7 q8 q9 z0 z1 z2 z3 zl t1 t2
  go_loopg [] N (fun g wx => ∃ (e1 : Bool) (A1 : Option Addr) (n1 : List ByteArray) (c1 : Nat) (b1 : Bool) (B1 : Option Addr) (m1 : List ByteArray) (d1 : Nat) (f1 : Bool) (r1 : Pt.Rul) (e2 : Bool) (A2 : Option Addr) (n2 : List ByteArray) (c2 : Nat) (b2 : Bool) (B2 : Option Addr) (m2 : List ByteArray) (d2 : Nat) (f2 : Bool) (r2 : Pt.Rul), Pt.stars r1.left.parts = g ∧ XRel w wx r r' e1 A1 n1 c1 b1 B1 m1 d1 f1 r1 e2 A2 n2 c2 b2 B2 m2 d2 f2 r2)
  case atStart => exact ⟨ex, A, xs, c, b, B, ys, d, f, r, ex', A', xs', c', b', B', ys', d', f', r', HN.out.symm, X0.out⟩
  case round =>
    obtain ⟨e1, A1, n1, c1, b1, B1, m1, d1, f1, r1, e2, A2, n2, c2, b2, B2, m2, d2, f2, r2, hg, X⟩ := hrel
    subst hg
    obtain ⟨w1, hw1⟩ : ∃ w1, w1 = wr := ⟨_, rfl⟩
    subst hw1
    have hlen : m1.length = m2.length := by
      have h1 := X.rr1.right.len
      have h2 := X.rr2.right.len
      have h3 := X.two.len
      omega
    have hpos : 0 < m1.length := by
      have h1 := X.rr1.right.len
      have h2 := Pt.form_pos (Pt.check_ok.1 (Pt.rcheck_zero.1 X.two.ca).2.1).1
      omega
    have hst : Pt.stars r1.left.parts ≤ 12 := Nat.le_trans (List.length_filter_le _ _) (Pt.check_ok.1 (Pt.rcheck_zero.1 X.two.ca).1).2
    have n12 : m1.length ≤ 12 := by
      have h1 := X.rr1.right.len
      have h2 := (Pt.check_ok.1 (Pt.rcheck_zero.1 X.two.ca).2.1).2
      omega
    obtain ⟨g0, o0, hB, hg0, hc0⟩ := X.rr1.right.rd.cells hpos
    obtain ⟨g1, o1, hB', hg1, hc1⟩ := X.rr2.right.rd.cells (by omega)
    subst hB hB'
    have HC0 := Lib.hid hc0
    have HC1 := Lib.hid hc1
    have HDet := Lib.hid (fun (i : Nat) (hi : i < m1.length) (hj : i < m2.length) (hs : (bs m1).take i = (bs m2).take i) (hn : m1[i] ≠ m2[i]) => determined_any e1 A1 n1 c1 b1 _ m1 d1 f1 r1 e2 A2 n2 c2 b2 _ m2 d2 f2 r2 i (600 * (13 - Pt.stars r1.left.parts)) w1 X.rr1 X.rr2 X.two hi hj hs hn X.sz (by omega))
    obtain ⟨⟨t0, t1, t2, t3, t4, tl⟩, t5, t6, t7, t8, t9⟩ := X.x1
    obtain ⟨⟨s0, s1, s2, s3, s4, sl⟩, s5, s6, s7, s8, s9⟩ := X.x2
    obtain ⟨z0, z1, z2, z3, zl⟩ := X.z
    have HX := Lib.hid X
    have HST1 := Lib.hid hst
    have le1 : m1.length ≤ m2.length := Nat.le_of_eq hlen
    have le2 : m2.length ≤ m1.length := Nat.le_of_eq hlen.symm
    clear X hc0 hc1 hst hlen
    go_wp2
    go_loopg [23] m1.length (fun g2 s23 wx => ∃ (k : Nat), k + g2 = m1.length ∧ s23 = .int .i64 (k : Int) ∧ wx = w1 ∧ Aside ((bs m1).take k = (bs m2).take k))
    case atStart => exact ⟨0, by omega, rfl, rfl, rfl⟩
    case round =>
      obtain ⟨k, hk, rfl, rfl, HP⟩ := hrel
      by_cases hkn : k < m1.length
      · have i1 : (k : Int) < (m1.length : Int) := by omega
        have hk2 : k < m2.length := by omega
        have i2 : (k : Int) < (m2.length : Int) := by omega
        have ca := HC0.out k hkn
        have cb := HC1.out k hk2
        have hdr : (bs m1).take k = (bs m2).take k := HP.out
        have HDR := Lib.hid hdr
        clear hdr
        by_cases he : m1[k] = m2[k]
        · have HEQ := Lib.hid he
          rw [← he] at cb
          have hb : (m1[k].toList == m1[k].toList) = true := by simp
          clear he
          go_wp2
          go_roundg (m1.length - (k + 1))
          case measure => omega
          case rel =>
            refine ⟨k + 1, by omega, by go_num, rfl, (show Aside _ from ?_)⟩
            have e1 := List.take_append_getElem (l := bs m1) (i := k) (by rw [bs_length]; exact hkn)
            have e2 := List.take_append_getElem (l := bs m2) (i := k) (by rw [bs_length]; exact hk2)
            show (bs m1).take (k + 1) = (bs m2).take (k + 1)
            rw [← e1, ← e2, HDR.out, bs_get m1 k hkn, bs_get m2 k hk2, HEQ.out]
        · have hb : (m1[k].toList == m2[k].toList) = false := by
            rw [beq_eq_false_iff_ne]
            intro e
            exact he (by apply ba_ext; rw [← Lib.toList_data, ← Lib.toList_data, e])
          have HD := Lib.hid (HDet.out k hkn hk2 HDR.out he)
          clear he
          go_wp2_with fail
          with_reducible refine HD.out.mono ?_
          rintro e u1 ⟨e3, A3, n3, c3, b3, B3, m3, d3, f3, r3, e4, A4, n4, c4, b4, B4, m4, d4, f4, r4, j, rfl, hr3, hr4, hdead, hnx, hbl⟩
          have x1k := HX.out.x1.keep hbl
          have x2k := HX.out.x2.keep hbl
          have zk := HX.out.z.keep hbl
          have HX1 := Lib.hid x1k
          have HX2 := Lib.hid x2k
          have HZ := Lib.hid zk
          have HR3 := Lib.hid hr3
          have HR4 := Lib.hid hr4
          have HBL := Lib.hid (HX.out.below.trans (hbl.mono HX.out.below.size))
          obtain ⟨⟨k0, k1, k2, k3, k4, kl⟩, k5, k6, k7, k8, k9⟩ := x1k
          obtain ⟨⟨q0, q1, q2, q3, q4, ql⟩, q5, q6, q7, q8, q9⟩ := x2k
          obtain ⟨y0, y1, y2, y3, yl⟩ := zk
          clear hr3 hr4 hbl ca cb hb t0 t1 t2 t3 t4 tl t5 t6 t7 t8 t9 s0 s1 s2 s3 s4 sl s5 s6 s7 s8 s9 z0 z1 z2 z3 zl
          cases j with
          | false =>
            have HDE := Lib.hid (hdead rfl)
            clear hdead hnx
            set_option maxRecDepth 100000 in go_wp2
            try rw [Exit.noGoto_ret]
            refine bodyPost_ret (v := .tuple #[patV none 0 0 false, .bool false]) (by simp [results, Tryz.results53, go_sem, y0, y1]) rfl ⟨none, [], 0, false, none, rfl, patR_zero _, HX.out.agree none HDE.out, ?_⟩
            exact Below.set2 (Below.set5 (Below.set5 HBL.out _ (Nat.le_refl _) _ _ _ _ _) _ (by omega) _ _ _ _ _) _ (by omega) _ _
          | true =>
            have HNX := Lib.hid (hnx rfl)
            clear hdead hnx
            set_option maxRecDepth 100000 in go_wp2
            go_roundg (Pt.stars r3.left.parts)
            case measure => exact HNX.out.less
            case rel =>
              have N1 := HNX.out
              have hs := N1.less
              have h12 := HST1.out
              have zz := N1.sizes 600 (600 * (13 - Pt.stars r1.left.parts)) (by omega) HX.out.sz
              have hle : 600 * (13 - Pt.stars r1.left.parts) + 600 ≤ 600 * (13 - Pt.stars r3.left.parts) := by omega
              refine ⟨e3, A3, n3, c3, b3, B3, m3, d3, f3, r3, e4, A4, n4, c4, b4, B4, m4, d4, f4, r4, rfl, ?_, ?_, ?_, ?_, ?_, N1.two, fun o ho => HX.out.agree o (N1.agree o ho), ?_, ?_⟩
              · exact (HX1.out.over ..).aside (by omega) _ _ _ _ _
              · exact (HX2.out.aside (by omega) _ _ _ _ _).over ..
              · exact (HZ.out.aside (by omega) _ _ _ _ _).aside (by omega) _ _ _ _ _
              · exact (HR3.out.over HX1.out.bx _ _ _ _ _).over (HX2.out.aside (by omega) _ _ _ _ _).bx _ _ _ _ _
              · exact (HR4.out.over HX1.out.bx _ _ _ _ _).over (HX2.out.aside (by omega) _ _ _ _ _).bx _ _ _ _ _
              · exact ⟨fun x hx => ⟨Nat.le_trans (zz.left x hx).1 hle, (zz.left x hx).2⟩, fun x hx => ⟨Nat.le_trans (zz.ra x hx).1 hle, (zz.ra x hx).2⟩, fun x hx => ⟨Nat.le_trans (zz.rb x hx).1 hle, (zz.rb x hx).2⟩⟩
              · exact Below.set5 (Below.set5 HBL.out _ (Nat.le_refl _) _ _ _ _ _) _ (by omega) _ _ _ _ _
      · have i1 : ¬ (k : Int) < (m1.length : Int) := by omega
        set_option maxRecDepth 100000 in go_wp2
        try rw [Exit.noGoto_ret]
        refine bodyPost_ret (v := .tuple #[patV A1 n1.length c1 b1, .bool true]) (by simp [results, Tryz.results53, go_sem, z0, z1]) rfl ⟨A1, n1, c1, b1, some r1.left, rfl, HX.out.z.patR HX.out.rr1.left _ _, HX.out.agree _ ?_, ?_⟩
        · refine Pt.AgreeIs.whole HX.out.two.ca HX.out.two.cb HX.out.two.left ?_
          have hdr : (bs m1).take k = (bs m2).take k := HP.out
          rw [← HX.out.rr1.right.parts, ← HX.out.rr2.right.parts]
          rw [List.take_of_length_le (by rw [bs_length]; omega), List.take_of_length_le (by rw [bs_length]; omega)] at hdr
          exact hdr
        · exact Below.set2 HX.out.below _ (by omega) _ _
end Go.Proofs.YthgcnlhlhipllaaGreatDoor
