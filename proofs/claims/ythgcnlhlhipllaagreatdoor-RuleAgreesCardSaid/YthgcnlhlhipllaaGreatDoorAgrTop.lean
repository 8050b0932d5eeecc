/- The contract of Agree. -/
import Derived.Test.YthgcnlhlhipllaaGreatDoorAgrGo
namespace Go.Proofs.YthgcnlhlhipllaaGreatDoor
open Go.RowKit

namespace Pt
/-- The error of Agree. -/
def agreeE (a b : Rul) : Nat := if rcheck a = 0 then (if rcheck b = 0 then (match nleft a b.left with
  | none => nleftE a b.left
  | some x => nleftE b x.left) else rcheck b) else rcheck a
theorem agree_none1 {a b : Rul} (hn : nleft a b.left = none) (he : nleftE a b.left = 0) : AgreeIs a b none :=
  AgreeIs.dead fun p t f1 f2 => by
    have := nleft_none hn he p (fwd_back f1).1
    rw [(fwd_back f2).1] at this
    cases this
theorem agree_none2 {a b x : Rul} (hx : nleft a b.left = some x) (hn : nleft b x.left = none) (he : nleftE b x.left = 0) : AgreeIs a b none :=
  AgreeIs.dead fun p t f1 f2 => by
    have h1 := nleft_none hn he p (fwd_back f2).1
    have h2 : fwd x p = some t := by rw [nleft_fwd hx, if_pos (fwd_back f2).1]; exact f1
    rw [(fwd_back h2).1] at h1
    cases h1
theorem agree_both {a b x y : Rul} (hx : nleft a b.left = some x) (hy : nleft b x.left = some y) : rcheck x = 0 ∧ rcheck y = 0 ∧ x.left = y.left ∧ ∀ o, AgreeIs x y o → AgreeIs a b o := by
  obtain ⟨_, _, m, l, hm, _, _, _, _, hxe, hxc⟩ := nleft_form hx
  obtain ⟨_, _, m2, l2, hm2, _, _, _, _, hye, hyc⟩ := nleft_form hy
  have hxl : x.left = m := by rw [hxe]
  have hyl : y.left = m2 := by rw [hye]
  have hw : within x.left b.left = true := by rw [hxl]; exact (meet_within hm).2
  have hmm := meet_self hw
  rw [hm2] at hmm
  refine ⟨hxc, hyc, by rw [hyl]; exact (Option.some.inj hmm).symm, fun o ho => ho.of fun p t => ?_⟩
  constructor
  · rintro ⟨f1, f2⟩
    exact ⟨(nleft_sub hx f1).1, (nleft_sub hy f2).1⟩
  · rintro ⟨f1, f2⟩
    have g1 : fwd x p = some t := by rw [nleft_fwd hx, if_pos (fwd_back f2).1]; exact f1
    exact ⟨g1, by rw [nleft_fwd hy, if_pos (fwd_back g1).1]; exact f2⟩
theorem szc_of {N : Nat} {p : Pat} (h : szs N p) : szc N N p.parts := fun x hx => ⟨h x hx, fun _ => h x hx⟩
theorem agree_szl {a b x y : Rul} (hx : nleft a b.left = some x) (hy : nleft b x.left = some y) (h1 : szs 300 a.left) (h2 : szs 300 a.right) (h3 : szs 300 b.left) (h4 : szs 300 b.right) : Szl 600 600 x y := by
  obtain ⟨g1, g2⟩ := nleft_sizes hx h1 h3 h2
  obtain ⟨_, k2⟩ := nleft_sizes hy h3 g1 h4
  exact ⟨szc_of (g1.more (by decide)), szc_of g2, szc_of k2⟩
end Pt
/-- What Agree gives. -/
def GivesAg (w : World) (a b : Pt.Rul) (k : Nat) (e : Ending) (w' : World) : Prop :=
  ∃ (C : Option Addr) (zs : List ByteArray) (cz : Nat) (g : Bool) (o : Option Pt.Pat), e = .returned (.tuple #[patV C zs.length cz g, .bool o.isSome, .int .i64 (k : Int)]) ∧ PatR w' C zs cz g (o.getD Pt.none_) ∧ (k = 0 → Pt.AgreeIs a b o) ∧ (k ≠ 0 → o = none) ∧ Below w.heap.size w w'
structure ARel (w wx : World) (e1 : Bool) (A1 : Option Addr) (n1 : List ByteArray) (c1 : Nat) (b1 : Bool) (B1 : Option Addr) (m1 : List ByteArray) (d1 : Nat) (f1 : Bool) (r1 : Pt.Rul) (e2 : Bool) (A2 : Option Addr) (n2 : List ByteArray) (c2 : Nat) (b2 : Bool) (B2 : Option Addr) (m2 : List ByteArray) (d2 : Nat) (f2 : Bool) (r2 : Pt.Rul) : Prop where
  x1 : FBox wx w.heap.size e1 A1 n1.length c1 b1 B1 m1.length d1 f1
  x2 : FBox wx (w.heap.size + 1) e2 A2 n2.length c2 b2 B2 m2.length d2 f2
  z : ZPat wx (w.heap.size + 1 + 1)
  rr1 : RulR wx e1 A1 n1 c1 b1 B1 m1 d1 f1 r1
  rr2 : RulR wx e2 A2 n2 c2 b2 B2 m2 d2 f2 r2
  below : Below w.heap.size w wx
theorem ARel.keep {w wx w' : World} {e1 : Bool} {A1 : Option Addr} {n1 : List ByteArray} {c1 : Nat} {b1 : Bool} {B1 : Option Addr} {m1 : List ByteArray} {d1 : Nat} {f1 : Bool} {r1 : Pt.Rul} {e2 : Bool} {A2 : Option Addr} {n2 : List ByteArray} {c2 : Nat} {b2 : Bool} {B2 : Option Addr} {m2 : List ByteArray} {d2 : Nat} {f2 : Bool} {r2 : Pt.Rul} (h : ARel w wx e1 A1 n1 c1 b1 B1 m1 d1 f1 r1 e2 A2 n2 c2 b2 B2 m2 d2 f2 r2) (hb : Below wx.heap.size wx w') : ARel w w' e1 A1 n1 c1 b1 B1 m1 d1 f1 r1 e2 A2 n2 c2 b2 B2 m2 d2 f2 r2 :=
  ⟨h.x1.keep hb, h.x2.keep hb, h.z.keep hb, h.rr1.keep hb, h.rr2.keep hb, h.below.trans (hb.mono h.below.size)⟩
set_option maxHeartbeats 4000000 in
theorem agree_any (ex : Bool) (A : Option Addr) (xs : List ByteArray) (c : Nat) (b : Bool) (B : Option Addr) (ys : List ByteArray) (d : Nat) (f : Bool) (r : Pt.Rul) (ex' : Bool) (A' : Option Addr) (xs' : List ByteArray) (c' : Nat) (b' : Bool) (B' : Option Addr) (ys' : List ByteArray) (d' : Nat) (f' : Bool) (r' : Pt.Rul) (w : World) (hr : RulR w ex A xs c b B ys d f r) (hq : RulR w ex' A' xs' c' b' B' ys' d' f' r') (h1 : Pt.szs 300 r.left) (h2 : Pt.szs 300 r.right) (h3 : Pt.szs 300 r'.left) (h4 : Pt.szs 300 r'.right) :
    Calls Tryz.prog 21 #[rulV ex A xs.length c b B ys.length d f, rulV ex' A' xs'.length c' b' B' ys'.length d' f'] w (GivesAg w r r' (Pt.agreeE r r')) := by
  obtain ⟨W0, hW0⟩ : ∃ W0, W0 = ((w.alloc (.cells #[.bool ex, .slice A xs.length c, .bool b, .slice B ys.length d, .bool f] 26)).alloc (.cells #[.bool ex', .slice A' xs'.length c', .bool b', .slice B' ys'.length d', .bool f'] 26)).alloc (patObj none 0 0 false) := ⟨_, rfl⟩
  have hal : Below w.heap.size w W0 := by rw [hW0]; exact (((Below.refl _ _).alloc (Nat.le_refl _) _).alloc (by simp) _).alloc (by simp; omega) _
  have HAL := Lib.hid hal
  obtain ⟨hbx, hpx, hzx⟩ : FBox W0 w.heap.size ex A xs.length c b B ys.length d f ∧ FBox W0 (w.heap.size + 1) ex' A' xs'.length c' b' B' ys'.length d' f' ∧ ZPat W0 (w.heap.size + 1 + 1) := by rw [hW0]; exact boxesA ..
  have X0 := Lib.hid (show ARel w W0 ex A xs c b B ys d f r ex' A' xs' c' b' B' ys' d' f' r' from ⟨hbx, hpx, hzx, hr.keep hal, hq.keep hal, hal⟩)
  have HCb := Lib.hid (checkBoth_any ex A xs c b B ys d f r ex' A' xs' c' b' B' ys' d' f' r' W0 (hr.keep hal) (hq.keep hal))
  have HN1 := Lib.hid (fun (w' : World) (R : ARel w w' ex A xs c b B ys d f r ex' A' xs' c' b' B' ys' d' f' r') => nleft_any ex A xs c b B ys d f r A' xs' c' b' r'.left w' R.rr1 R.rr2.left (h1.more (by decide)) (h2.more (by decide)) (h3.more (by decide)))
  have hx3 : ∀ x, Pt.nleft r r'.left = some x → Pt.szs 300 x.left := fun x hx => (Pt.nleft_sizes hx h1 h3 h2).1
  have HN2 := Lib.hid (fun (x : Pt.Rul) (hx : Pt.nleft r r'.left = some x) (e1 : Bool) (A1 : Option Addr) (n1 : List ByteArray) (c1 : Nat) (b1 : Bool) (B1 : Option Addr) (m1 : List ByteArray) (d1 : Nat) (f1 : Bool) (w' : World) (R : ARel w w' e1 A1 n1 c1 b1 B1 m1 d1 f1 x ex' A' xs' c' b' B' ys' d' f' r') => nleft_any ex' A' xs' c' b' B' ys' d' f' r' A1 n1 c1 b1 x.left w' R.rr2 R.rr1.left (h3.more (by decide)) (h4.more (by decide)) ((hx3 x hx).more (by decide)))
  have HAG := Lib.hid (fun (x y : Pt.Rul) (hx : Pt.nleft r r'.left = some x) (hy : Pt.nleft r' x.left = some y) (e1 : Bool) (A1 : Option Addr) (n1 : List ByteArray) (c1 : Nat) (b1 : Bool) (B1 : Option Addr) (m1 : List ByteArray) (d1 : Nat) (f1 : Bool) (e2 : Bool) (A2 : Option Addr) (n2 : List ByteArray) (c2 : Nat) (b2 : Bool) (B2 : Option Addr) (m2 : List ByteArray) (d2 : Nat) (f2 : Bool) (w' : World) (R : ARel w w' e1 A1 n1 c1 b1 B1 m1 d1 f1 x e2 A2 n2 c2 b2 B2 m2 d2 f2 y) => agreement_any e1 A1 n1 c1 b1 B1 m1 d1 f1 x e2 A2 n2 c2 b2 B2 m2 d2 f2 y w' R.rr1 R.rr2 (Pt.agree_both hx hy).1 (Pt.agree_both hx hy).2.1 (Pt.agree_both hx hy).2.2.1 (Pt.agree_szl hx hy h1 h2 h3 h4))
  have hE : Pt.agreeE r r' = if Pt.rcheck r = 0 then (if Pt.rcheck r' = 0 then (match Pt.nleft r r'.left with
      | none => Pt.nleftE r r'.left
      | some x => Pt.nleftE r' x.left) else Pt.rcheck r') else Pt.rcheck r := rfl
  have HWS := Lib.hid (show W0.heap.size = w.heap.size + 1 + 1 + 1 from by rw [hW0]; simp)
  generalize hk : Pt.agreeE r r' = ke at hE ⊢
  have HE := Lib.hid hE
  clear hE hk hx3 h1 h2 h3 h4 hr hq
  have hy1 := hbx
  have hy2 := hpx
  have hy3 := hzx
  obtain ⟨⟨t0, t1, t2, t3, t4, tl⟩, t5, t6, t7, t8, t9⟩ := hy1
  obtain ⟨⟨s0, s1, s2, s3, s4, sl⟩, s5, s6, s7, s8, s9⟩ := hy2
  obtain ⟨z0, z1, z2, z3, zl⟩ := hy3
  clear hbx hpx hzx hal
  by_cases hk0 : (if Pt.rcheck r = 0 then Pt.rcheck r' else Pt.rcheck r) = 0
  rotate_left
  · have hce : ke = (if Pt.rcheck r = 0 then Pt.rcheck r' else Pt.rcheck r) := by
      rw [HE.out]
      by_cases a1 : Pt.rcheck r = 0
      · rw [if_pos a1, if_pos a1]
        rw [if_pos a1] at hk0
        rw [if_neg hk0]
      · rw [if_neg a1, if_neg a1]
    rw [← hce] at hk0 HCb
    have t1' : ((ke : Int) == 0) = false := by rw [beq_eq_false_iff_ne]; omega
    have t2' : ((ke : Int) != 0) = true := by rw [bne, t1']; rfl
    have HK0 := Lib.hid hk0
    clear hce HE hk0 HN1 HN2 HAG
    subst hW0
    go_enter Tryz.func21, Tryz.ntmps21
    go_wp2_with fail
    generalize ((w.alloc (.cells #[.bool ex, .slice A xs.length c, .bool b, .slice B ys.length d, .bool f] 26)).alloc (.cells #[.bool ex', .slice A' xs'.length c', .bool b', .slice B' ys'.length d', .bool f'] 26)).alloc (patObj none 0 0 false) = W5 at *
    with_reducible refine HCb.out.mono ?_
    rintro e u1 ⟨rfl, hb1⟩
    have X1 := Lib.hid (X0.out.keep hb1)
    obtain ⟨z0, z1, z2, z3, zl⟩ := X1.out.z
    clear hb1
    set_option maxRecDepth 100000 in go_wp2
    refine bodyPost_ret (v := .tuple #[patV none 0 0 false, .bool false, .int .i64 ke]) (by simp [results, Tryz.results21, go_sem, z0, z1]) rfl ⟨none, [], 0, false, none, rfl, patR_zero _, ?_, fun _ => rfl, ?_⟩
    · exact fun h => absurd h HK0.out
    · exact Below.set2 X1.out.below _ (by omega) _ _
  have hk1 : Pt.rcheck r = 0 ∧ Pt.rcheck r' = 0 := by
    by_cases a1 : Pt.rcheck r = 0
    · rw [if_pos a1] at hk0
      exact ⟨a1, hk0⟩
    · rw [if_neg a1] at hk0
      exact absurd hk0 a1
  have he := HE.out
  rw [if_pos hk1.1, if_pos hk1.2] at he
  have HE2 := Lib.hid he
  rw [hk0] at HCb
  clear HE he hk0 hk1
  obtain ⟨oo, ho⟩ : ∃ oo, oo = Pt.nleft r r'.left := ⟨_, rfl⟩
  obtain ⟨k1, hk1⟩ : ∃ k1, k1 = Pt.nleftE r r'.left := ⟨_, rfl⟩
  rw [← ho, ← hk1] at HN1 HE2
  have HO := Lib.hid ho
  have HK1 := Lib.hid hk1
  clear ho hk1
  subst hW0
  go_enter Tryz.func21, Tryz.ntmps21
  go_wp2_with fail
  generalize ((w.alloc (.cells #[.bool ex, .slice A xs.length c, .bool b, .slice B ys.length d, .bool f] 26)).alloc (.cells #[.bool ex', .slice A' xs'.length c', .bool b', .slice B' ys'.length d', .bool f'] 26)).alloc (patObj none 0 0 false) = W5 at *
  with_reducible refine HCb.out.mono ?_
  rintro e u1 ⟨rfl, hb1⟩
  have X1 := Lib.hid (X0.out.keep hb1)
  clear hb1 t0 t1 t2 t3 t4 tl t5 t6 t7 t8 t9 s0 s1 s2 s3 s4 sl s5 s6 s7 s8 s9 z0 z1 z2 z3 zl
  obtain ⟨⟨t0, t1, t2, t3, t4, tl⟩, t5, t6, t7, t8, t9⟩ := X1.out.x1
  obtain ⟨⟨s0, s1, s2, s3, s4, sl⟩, s5, s6, s7, s8, s9⟩ := X1.out.x2
  go_upto_region 4 with fail
  go_cut [8, 9] (fun p8 p9 wx => ∃ (e1 : Bool) (A1 : Option Addr) (n1 : List ByteArray) (c1 : Nat) (b1 : Bool) (B1 : Option Addr) (m1 : List ByteArray) (d1 : Nat) (f1 : Bool), p8 = .bool oo.isSome ∧ p9 = .int .i64 (k1 : Int) ∧ ARel w wx e1 A1 n1 c1 b1 B1 m1 d1 f1 (oo.getD Pt.zeroR) ex' A' xs' c' b' B' ys' d' f' r')
  case first =>
    go_wp2_with fail
    with_reducible refine (HN1.out _ X1.out).mono ?_
    rintro e u2 ⟨e1, A1, n1, c1, b1, B1, m1, d1, f1, rfl, hr1, hb2⟩
    have X2 := Lib.hid (X1.out.keep hb2)
    have HR1 := Lib.hid hr1
    obtain ⟨⟨k0, k1, k2, k3, k4, kl⟩, k5, k6, k7, k8, k9⟩ := X2.out.x1
    clear hb2 hr1 t0 t1 t2 t3 t4 tl t5 t6 t7 t8 t9 s0 s1 s2 s3 s4 sl s5 s6 s7 s8 s9
    set_option maxRecDepth 100000 in go_wp2_with fail
    go_meet
    exact ⟨e1, A1, n1, c1, b1, B1, m1, d1, f1, rfl, rfl, ⟨X2.out.x1.over .., X2.out.x2.aside (by omega) _ _ _ _ _, X2.out.z.aside (by omega) _ _ _ _ _, HR1.out.over X2.out.x1.bx _ _ _ _ _, X2.out.rr2.over X2.out.x1.bx _ _ _ _ _, Below.set5 X2.out.below _ (Nat.le_refl _) _ _ _ _ _⟩⟩
  case rest =>
    obtain ⟨e1, A1, n1, c1, b1, B1, m1, d1, f1, rfl, rfl, R⟩ := hcut
    have X2 := Lib.hid R
    clear R t0 t1 t2 t3 t4 tl t5 t6 t7 t8 t9 s0 s1 s2 s3 s4 sl s5 s6 s7 s8 s9
    cases oo with
    | none =>
      have hke : ke = k1 := HE2.out
      subst hke
      obtain ⟨z0, z1, z2, z3, zl⟩ := X2.out.z
      simp only [Option.isSome_none]
      set_option maxRecDepth 100000 in go_wp2
      refine bodyPost_ret (v := .tuple #[patV none 0 0 false, .bool false, .int .i64 ke]) (by simp [results, Tryz.results21, go_sem, z0, z1]) rfl ⟨none, [], 0, false, none, rfl, patR_zero _, ?_, fun _ => rfl, ?_⟩
      · exact fun h => Pt.agree_none1 HO.out.symm (by rw [← HK1.out]; exact h)
      · exact Below.set2 X2.out.below _ (by omega) _ _
    | some x =>
      have hxo : Pt.nleft r r'.left = some x := HO.out.symm
      have HXO := Lib.hid hxo
      have hke : ke = Pt.nleftE r' x.left := HE2.out
      have hn2 := HN2.out x hxo e1 A1 n1 c1 b1 B1 m1 d1 f1 wc X2.out
      obtain ⟨o2, ho2⟩ : ∃ o2, o2 = Pt.nleft r' x.left := ⟨_, rfl⟩
      rw [← ho2, ← hke] at hn2
      have H2 := Lib.hid hn2
      have HO2 := Lib.hid ho2
      have HKE := Lib.hid hke
      clear hxo hn2 ho2 hke
      obtain ⟨⟨t0, t1, t2, t3, t4, tl⟩, t5, t6, t7, t8, t9⟩ := X2.out.x1
      obtain ⟨⟨s0, s1, s2, s3, s4, sl⟩, s5, s6, s7, s8, s9⟩ := X2.out.x2
      simp only [Option.isSome_some]
      go_upto_region 7 with fail
      go_cut [8, 9] (fun p8 p9 wx => ∃ (e2 : Bool) (A2 : Option Addr) (n2 : List ByteArray) (c2 : Nat) (b2 : Bool) (B2 : Option Addr) (m2 : List ByteArray) (d2 : Nat) (f2 : Bool), p8 = .bool o2.isSome ∧ p9 = .int .i64 (ke : Int) ∧ ARel w wx e1 A1 n1 c1 b1 B1 m1 d1 f1 x e2 A2 n2 c2 b2 B2 m2 d2 f2 (o2.getD Pt.zeroR))
      case first =>
        set_option maxRecDepth 100000 in go_wp2_with fail
        with_reducible refine H2.out.mono ?_
        rintro e u2 ⟨e2, A2, n2, c2, b2, B2, m2, d2, f2, rfl, hr2, hb2⟩
        have X3 := Lib.hid (X2.out.keep hb2)
        have HR2 := Lib.hid hr2
        obtain ⟨⟨k0, k1, k2, k3, k4, kl⟩, k5, k6, k7, k8, k9⟩ := X3.out.x2
        clear hb2 hr2 t0 t1 t2 t3 t4 tl t5 t6 t7 t8 t9 s0 s1 s2 s3 s4 sl s5 s6 s7 s8 s9
        set_option maxRecDepth 100000 in go_wp2_with fail
        go_meet
        exact ⟨e2, A2, n2, c2, b2, B2, m2, d2, f2, rfl, rfl, ⟨X3.out.x1.aside (by omega) _ _ _ _ _, X3.out.x2.over .., X3.out.z.aside (by omega) _ _ _ _ _, X3.out.rr1.over X3.out.x2.bx _ _ _ _ _, HR2.out.over X3.out.x2.bx _ _ _ _ _, Below.set5 X3.out.below _ (by omega) _ _ _ _ _⟩⟩
      case rest =>
        obtain ⟨e2, A2, n2, c2, b2, B2, m2, d2, f2, rfl, rfl, R⟩ := hcut
        have X3 := Lib.hid R
        clear R t0 t1 t2 t3 t4 tl t5 t6 t7 t8 t9 s0 s1 s2 s3 s4 sl s5 s6 s7 s8 s9
        cases o2 with
        | none =>
          obtain ⟨z0, z1, z2, z3, zl⟩ := X3.out.z
          simp only [Option.isSome_none]
          set_option maxRecDepth 100000 in go_wp2
          refine bodyPost_ret (v := .tuple #[patV none 0 0 false, .bool false, .int .i64 ke]) (by simp [results, Tryz.results21, go_sem, z0, z1]) rfl ⟨none, [], 0, false, none, rfl, patR_zero _, ?_, fun _ => rfl, ?_⟩
          · exact fun h => Pt.agree_none2 HXO.out HO2.out.symm (by rw [← HKE.out]; exact h)
          · exact Below.set2 X3.out.below _ (by omega) _ _
        | some y =>
          have hyo : Pt.nleft r' x.left = some y := HO2.out.symm
          have hke0 : ke = 0 := by rw [HKE.out]; exact Pt.nleft_some_E hyo
          subst hke0
          have H3 := Lib.hid (HAG.out x y HXO.out hyo e1 A1 n1 c1 b1 B1 m1 d1 f1 e2 A2 n2 c2 b2 B2 m2 d2 f2 wc X3.out)
          have HYO := Lib.hid hyo
          clear hyo
          obtain ⟨⟨t0, t1, t2, t3, t4, tl⟩, t5, t6, t7, t8, t9⟩ := X3.out.x1
          obtain ⟨⟨s0, s1, s2, s3, s4, sl⟩, s5, s6, s7, s8, s9⟩ := X3.out.x2
          simp only [Option.isSome_some]
          set_option maxRecDepth 100000 in go_wp2_with fail
          with_reducible refine H3.out.mono ?_
          rintro e u3 ⟨C, zs, cz, g, o, rfl, hpz, hag, hb3⟩
          have X4 := Lib.hid (X3.out.keep hb3)
          have HPZ := Lib.hid hpz
          have HAGR := Lib.hid hag
          clear hb3 hpz hag t0 t1 t2 t3 t4 tl t5 t6 t7 t8 t9 s0 s1 s2 s3 s4 sl s5 s6 s7 s8 s9
          have ha : Below u3.heap.size u3 (u3.alloc (.cells #[.slice C zs.length cz, .bool g] 24)) := (Below.refl _ _).alloc (Nat.le_refl _) _
          have X5 := Lib.hid (X4.out.keep ha)
          have HPZ5 := Lib.hid (HPZ.out.keep ha)
          obtain ⟨p0, p1, pl⟩ := PBox.new u3 C zs.length cz g
          clear ha
          go_upto_region 11 with fail
          generalize u3.alloc (.cells #[.slice C zs.length cz, .bool g] 24) = W11 at *
          obtain ⟨z0, z1, z2, z3, zl⟩ := X5.out.z
          set_option maxRecDepth 100000 in go_wp2
          refine bodyPost_ret (v := .tuple #[patV C zs.length cz g, .bool o.isSome, .int .i64 0]) (by simp [results, Tryz.results21, go_sem, z0, z1]) rfl ⟨C, zs, cz, g, o, rfl, X5.out.z.patR HPZ5.out _ _, fun _ => (Pt.agree_both HXO.out HYO.out).2.2.2 o HAGR.out, fun h => absurd rfl h, ?_⟩
          exact Below.set2 X5.out.below _ (by omega) _ _
end Go.Proofs.YthgcnlhlhipllaaGreatDoor
