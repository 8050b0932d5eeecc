/- The contract of the reference's Chain. -/
import Derived.Test.YthgcnlhlhipllaaGreatDoorRulNarAll
namespace Go.Proofs.YthgcnlhlhipllaaGreatDoor
open Go.RowKit

/-- The boxes of the reference's functions over two lines. -/
structure QRel (w wx : World) (e1 : Bool) (A1 : Option Addr) (n1 : List ByteArray) (c1 : Nat) (b1 : Bool) (B1 : Option Addr) (m1 : List ByteArray) (d1 : Nat) (f1 : Bool) (r1 : Pt.Rul) (e2 : Bool) (A2 : Option Addr) (n2 : List ByteArray) (c2 : Nat) (b2 : Bool) (B2 : Option Addr) (m2 : List ByteArray) (d2 : Nat) (f2 : Bool) (r2 : Pt.Rul) : Prop where
  x1 : RBox wx w.heap.size e1 A1 n1.length c1 b1 B1 m1.length d1 f1
  x2 : RBox wx (w.heap.size + 1) e2 A2 n2.length c2 b2 B2 m2.length d2 f2
  z : ZRul wx (w.heap.size + 1 + 1)
  rr1 : RulR wx e1 A1 n1 c1 b1 B1 m1 d1 f1 r1
  rr2 : RulR wx e2 A2 n2 c2 b2 B2 m2 d2 f2 r2
  below : Below w.heap.size w wx
theorem QRel.keep {w wx w' : World} {e1 : Bool} {A1 : Option Addr} {n1 : List ByteArray} {c1 : Nat} {b1 : Bool} {B1 : Option Addr} {m1 : List ByteArray} {d1 : Nat} {f1 : Bool} {r1 : Pt.Rul} {e2 : Bool} {A2 : Option Addr} {n2 : List ByteArray} {c2 : Nat} {b2 : Bool} {B2 : Option Addr} {m2 : List ByteArray} {d2 : Nat} {f2 : Bool} {r2 : Pt.Rul} (h : QRel w wx e1 A1 n1 c1 b1 B1 m1 d1 f1 r1 e2 A2 n2 c2 b2 B2 m2 d2 f2 r2) (hb : Below wx.heap.size wx w') : QRel w w' e1 A1 n1 c1 b1 B1 m1 d1 f1 r1 e2 A2 n2 c2 b2 B2 m2 d2 f2 r2 :=
  ⟨h.x1.keep hb, h.x2.keep hb, h.z.keep hb, h.rr1.keep hb, h.rr2.keep hb, h.below.trans (hb.mono h.below.size)⟩
set_option maxHeartbeats 4000000 in
theorem qchain_any (ex : Bool) (A : Option Addr) (xs : List ByteArray) (c : Nat) (b : Bool) (B : Option Addr) (ys : List ByteArray) (d : Nat) (f : Bool) (r : Pt.Rul) (ex' : Bool) (A' : Option Addr) (xs' : List ByteArray) (c' : Nat) (b' : Bool) (B' : Option Addr) (ys' : List ByteArray) (d' : Nat) (f' : Bool) (r' : Pt.Rul) (w : World) (hr : RulR w ex A xs c b B ys d f r) (hq : RulR w ex' A' xs' c' b' B' ys' d' f' r') (h1 : Pt.szs 300 r.left) (h2 : Pt.szs 300 r.right) (h3 : Pt.szs 300 r'.left) (h4 : Pt.szs 300 r'.right) (hN : xs.length ≤ 1000000) (hM : ys.length ≤ 1000000) :
    Calls Tryz.prog 19 #[rulV ex A xs.length c b B ys.length d f, rulV ex' A' xs'.length c' b' B' ys'.length d' f'] w (GivesR w (Pt.chainR r r') (Pt.chainRE r r')) := by
  obtain ⟨W0, hW0⟩ : ∃ W0, W0 = ((w.alloc (.cells #[.bool ex, .slice A xs.length c, .bool b, .slice B ys.length d, .bool f] 26)).alloc (.cells #[.bool ex', .slice A' xs'.length c', .bool b', .slice B' ys'.length d', .bool f'] 26)).alloc zeroRul := ⟨_, rfl⟩
  have hal : Below w.heap.size w W0 := by rw [hW0]; exact (((Below.refl _ _).alloc (Nat.le_refl _) _).alloc (by simp) _).alloc (by simp; omega) _
  have HAL := Lib.hid hal
  obtain ⟨hbx, hpx, hzx⟩ : FBox W0 w.heap.size ex A xs.length c b B ys.length d f ∧ FBox W0 (w.heap.size + 1) ex' A' xs'.length c' b' B' ys'.length d' f' ∧ ZRul W0 (w.heap.size + 1 + 1) := by rw [hW0]; exact boxesC ..
  have X0 := Lib.hid (show QRel w W0 ex A xs c b B ys d f r ex' A' xs' c' b' B' ys' d' f' r' from ⟨hbx.bx, hpx.bx, hzx, hr.keep hal, hq.keep hal, hal⟩)
  have HQ1 := Lib.hid (qcheck_any ex A xs c b B ys d f r W0 (hr.keep hal))
  have HQ2 := Lib.hid (fun (w' : World) (R : QRel w w' ex A xs c b B ys d f r ex' A' xs' c' b' B' ys' d' f' r') => qcheck_any ex' A' xs' c' b' B' ys' d' f' r' w' R.rr2)
  have HME := Lib.hid (fun (w' : World) (R : QRel w w' ex A xs c b B ys d f r ex' A' xs' c' b' B' ys' d' f' r') => rmeet_any B A' ys xs' d c' f b' r.right r'.left w' R.rr1.right R.rr2.left)
  have hm3 : ∀ m, Pt.meet r.right r'.left = some m → Pt.szs 50000 m := fun m hm => (Pt.meet_sizes h2 h3 hm).more (by decide)
  have HNR := Lib.hid (fun (m : Pt.Pat) (hm : Pt.meet r.right r'.left = some m) (C : Option Addr) (zs : List ByteArray) (cz : Nat) (g : Bool) (w' : World) (R : QRel w w' ex A xs c b B ys d f r ex' A' xs' c' b' B' ys' d' f' r') (hp : PatR w' C zs cz g m) => qnr_any ex A xs c b B ys d f r C zs cz g m w' R.rr1 hp (h1.more (by decide)) (h2.more (by decide)) (hm3 m hm) hN hM)
  have HNL := Lib.hid (fun (m : Pt.Pat) (hm : Pt.meet r.right r'.left = some m) (C : Option Addr) (zs : List ByteArray) (cz : Nat) (g : Bool) (w' : World) (R : QRel w w' ex A xs c b B ys d f r ex' A' xs' c' b' B' ys' d' f' r') (hp : PatR w' C zs cz g m) => qnl_any ex' A' xs' c' b' B' ys' d' f' r' C zs cz g m w' R.rr2 hp (h3.more (by decide)) (h4.more (by decide)) (hm3 m hm))
  have hV : Pt.chainR r r' = if Pt.rcheck r = 0 ∧ Pt.rcheck r' = 0 then (match Pt.meet r.right r'.left with
      | none => none
      | some m => match Pt.nright r m, Pt.nleft r' m with
        | some x, some y => some ⟨false, x.left, y.right⟩
        | _, _ => none) else none := rfl
  have hE : Pt.chainRE r r' = if Pt.rcheck r = 0 then (if Pt.rcheck r' = 0 then (match Pt.meet r.right r'.left with
      | none => 0
      | some m => match Pt.nright r m, Pt.nleft r' m with
        | some _, some _ => 0
        | _, _ => 43) else Pt.rcheck r') else Pt.rcheck r := rfl
  generalize Pt.chainR r r' = cv at hV ⊢
  generalize Pt.chainRE r r' = ce at hE ⊢
  have HV := Lib.hid hV
  have HE := Lib.hid hE
  clear hE hV hm3 h1 h2 h3 h4 hr hq hN hM
  generalize hc1 : Pt.rcheck r = k1 at *
  generalize hc2 : Pt.rcheck r' = k2 at *
  clear hc1 hc2
  have hy1 := hbx.bx
  have hy2 := hpx.bx
  have hy3 := hzx
  obtain ⟨t0, t1, t2, t3, t4, tl⟩ := hy1
  obtain ⟨s0, s1, s2, s3, s4, sl⟩ := hy2
  obtain ⟨z0, z1, z2, z3, z4, z5, z6, z7, z8, z9, zl⟩ := hzx
  clear hbx hpx hal hy3
  by_cases h1 : k1 = 0
  rotate_left
  · have hv := HV.out
    have he := HE.out
    rw [if_neg (fun h => h1 h.1)] at hv
    rw [if_neg h1] at he
    subst hv he
    have p1 : ((ce : Int) == 0) = false := by rw [beq_eq_false_iff_ne]; omega
    have p2 : ((ce : Int) != 0) = true := by rw [bne, p1]; rfl
    clear h1 HV HE HNR HNL HME
    subst hW0
    go_enter Tryz.func19, Tryz.ntmps19
    go_wp2_with fail
    generalize ((w.alloc (.cells #[.bool ex, .slice A xs.length c, .bool b, .slice B ys.length d, .bool f] 26)).alloc (.cells #[.bool ex', .slice A' xs'.length c', .bool b', .slice B' ys'.length d', .bool f'] 26)).alloc zeroRul = W5 at *
    with_reducible refine HQ1.out.mono ?_
    rintro e u1 ⟨rfl, hb1⟩
    have X1 := Lib.hid (X0.out.keep hb1)
    clear hb1
    clear t0 t1 t2 t3 t4 tl s0 s1 s2 s3 s4 sl
    clear z0 z1 z2 z3 z4 z5 z6 z7 z8 z9 zl
    obtain ⟨z0, z1, z2, z3, z4, z5, z6, z7, z8, z9, zl⟩ := X1.out.z
    set_option maxRecDepth 100000 in go_wp2
    refine bodyPost_ret (v := .tuple #[rulV false none 0 0 false none 0 0 false, .bool false, .int .i64 ce]) (by simp [results, Tryz.results19, go_sem, z0, z1, z2, z3, z4]) rfl ⟨false, none, [], 0, false, none, [], 0, false, rfl, rulR_zero _, ?_⟩
    exact Below.set5 X1.out.below _ (by omega) _ _ _ _ _
  subst h1
  have he := HE.out
  rw [if_pos rfl] at he
  by_cases h2 : k2 = 0
  rotate_left
  · have hv := HV.out
    rw [if_neg (fun h => h2 h.2)] at hv
    rw [if_neg h2] at he
    subst hv he
    have p1 : ((ce : Int) == 0) = false := by rw [beq_eq_false_iff_ne]; omega
    have p2 : ((ce : Int) != 0) = true := by rw [bne, p1]; rfl
    clear h2 HV HE HNR HNL HME
    subst hW0
    go_enter Tryz.func19, Tryz.ntmps19
    go_wp2_with fail
    generalize ((w.alloc (.cells #[.bool ex, .slice A xs.length c, .bool b, .slice B ys.length d, .bool f] 26)).alloc (.cells #[.bool ex', .slice A' xs'.length c', .bool b', .slice B' ys'.length d', .bool f'] 26)).alloc zeroRul = W5 at *
    with_reducible refine HQ1.out.mono ?_
    rintro e u1 ⟨rfl, hb1⟩
    have X1 := Lib.hid (X0.out.keep hb1)
    clear hb1
    clear t0 t1 t2 t3 t4 tl s0 s1 s2 s3 s4 sl
    clear z0 z1 z2 z3 z4 z5 z6 z7 z8 z9 zl
    obtain ⟨t0, t1, t2, t3, t4, tl⟩ := X1.out.x1
    obtain ⟨s0, s1, s2, s3, s4, sl⟩ := X1.out.x2
    go_wp2_with fail
    with_reducible refine (HQ2.out _ X1.out).mono ?_
    rintro e u2 ⟨rfl, hb2⟩
    have X2 := Lib.hid (X1.out.keep hb2)
    clear hb2
    clear t0 t1 t2 t3 t4 tl s0 s1 s2 s3 s4 sl
    obtain ⟨z0, z1, z2, z3, z4, z5, z6, z7, z8, z9, zl⟩ := X2.out.z
    set_option maxRecDepth 100000 in go_wp2
    refine bodyPost_ret (v := .tuple #[rulV false none 0 0 false none 0 0 false, .bool false, .int .i64 ce]) (by simp [results, Tryz.results19, go_sem, z0, z1, z2, z3, z4]) rfl ⟨false, none, [], 0, false, none, [], 0, false, rfl, rulR_zero _, ?_⟩
    exact Below.set5 X2.out.below _ (by omega) _ _ _ _ _
  subst h2
  have hv := HV.out
  rw [if_pos ⟨rfl, rfl⟩] at hv
  rw [if_pos rfl] at he
  obtain ⟨om, hom⟩ : ∃ om, om = Pt.meet r.right r'.left := ⟨_, rfl⟩
  rw [← hom] at hv he HME
  have HV2 := Lib.hid hv
  have HE2 := Lib.hid he
  have HOM := Lib.hid hom
  clear hv he hom HV HE
  subst hW0
  go_enter Tryz.func19, Tryz.ntmps19
  go_wp2_with fail
  generalize ((w.alloc (.cells #[.bool ex, .slice A xs.length c, .bool b, .slice B ys.length d, .bool f] 26)).alloc (.cells #[.bool ex', .slice A' xs'.length c', .bool b', .slice B' ys'.length d', .bool f'] 26)).alloc zeroRul = W5 at *
  with_reducible refine HQ1.out.mono ?_
  rintro e u1 ⟨rfl, hb1⟩
  have X1 := Lib.hid (X0.out.keep hb1)
  clear hb1
  clear t0 t1 t2 t3 t4 tl s0 s1 s2 s3 s4 sl
  clear z0 z1 z2 z3 z4 z5 z6 z7 z8 z9 zl
  obtain ⟨t0, t1, t2, t3, t4, tl⟩ := X1.out.x1
  obtain ⟨s0, s1, s2, s3, s4, sl⟩ := X1.out.x2
  go_wp2_with fail
  with_reducible refine (HQ2.out _ X1.out).mono ?_
  rintro e u2 ⟨rfl, hb2⟩
  have X2 := Lib.hid (X1.out.keep hb2)
  clear hb2
  clear t0 t1 t2 t3 t4 tl s0 s1 s2 s3 s4 sl
  obtain ⟨t0, t1, t2, t3, t4, tl⟩ := X2.out.x1
  obtain ⟨s0, s1, s2, s3, s4, sl⟩ := X2.out.x2
  go_wp2_with fail
  with_reducible refine (HME.out _ X2.out).mono ?_
  rintro e u3 ⟨C, zs, cz, g, rfl, hpm, hb3⟩
  have X3 := Lib.hid (X2.out.keep hb3)
  have ha : Below u3.heap.size u3 (u3.alloc (.cells #[.slice C zs.length cz, .bool g] 24)) := (Below.refl _ _).alloc (Nat.le_refl _) _
  have X4 := Lib.hid (X3.out.keep ha)
  have HPM := Lib.hid (hpm.keep ha)
  have HPX := Lib.hid (PBox.new u3 C zs.length cz g)
  clear hb3 hpm ha
  clear t0 t1 t2 t3 t4 tl s0 s1 s2 s3 s4 sl
  go_upto_region 8 with fail
  generalize u3.alloc (.cells #[.slice C zs.length cz, .bool g] 24) = W8 at *
  cases om with
  | none =>
    have hcv : cv = none := HV2.out
    have hce : ce = 0 := HE2.out
    subst hcv hce
    simp only [Option.isSome_none]
    obtain ⟨z0, z1, z2, z3, z4, z5, z6, z7, z8, z9, zl⟩ := X4.out.z
    set_option maxRecDepth 100000 in go_wp2
    refine bodyPost_ret (v := .tuple #[rulV false none 0 0 false none 0 0 false, .bool false, .int .i64 0]) (by simp [results, Tryz.results19, go_sem, z0, z1, z2, z3, z4]) rfl ⟨false, none, [], 0, false, none, [], 0, false, rfl, rulR_zero _, ?_⟩
    exact Below.set5 X4.out.below _ (by omega) _ _ _ _ _
  | some m =>
    have hmm : Pt.meet r.right r'.left = some m := HOM.out.symm
    have H1 := Lib.hid (HNR.out m hmm C zs cz g W8 X4.out HPM.out)
    have HNL2 := Lib.hid (HNL.out m hmm C zs cz g)
    have hcv : cv = match Pt.nright r m, Pt.nleft r' m with
        | some x, some y => some ⟨false, x.left, y.right⟩
        | _, _ => none := HV2.out
    have hce : ce = match Pt.nright r m, Pt.nleft r' m with
        | some _, some _ => 0
        | _, _ => 43 := HE2.out
    generalize Pt.nright r m = o1 at *
    generalize Pt.nleft r' m = o2 at *
    generalize Pt.nrightE r m = q1 at *
    generalize Pt.nleftE r' m = q2 at *
    have HCV := Lib.hid hcv
    have HCE := Lib.hid hce
    simp only [Option.isSome_some]
    clear hmm hcv hce HNR HNL HME HV2 HE2 HOM HQ2
    obtain ⟨p0, p1, pl⟩ := HPX.out
    obtain ⟨t0, t1, t2, t3, t4, tl⟩ := X4.out.x1
    obtain ⟨s0, s1, s2, s3, s4, sl⟩ := X4.out.x2
    set_option maxRecDepth 100000 in go_wp2_with fail
    with_reducible refine H1.out.mono ?_
    rintro e u4 ⟨e3, A3, n3, c3, b3, B3, m3, d3, f3, rfl, hr4, hb4⟩
    have X5 := Lib.hid (X4.out.keep hb4)
    have ha : Below u4.heap.size u4 (u4.alloc (rulObj e3 A3 n3.length c3 b3 B3 m3.length d3 f3)) := (Below.refl _ _).alloc (Nat.le_refl _) _
    have X6 := Lib.hid (X5.out.keep ha)
    have HR6 := Lib.hid (hr4.keep ha)
    have HPM6 := Lib.hid ((HPM.out.keep hb4).keep ha)
    have HPX6 := Lib.hid ((HPX.out.keep hb4).keep ha)
    have HB6 := Lib.hid (RBox.new u4 e3 A3 n3.length c3 b3 B3 m3.length d3 f3)
    clear hb4 hr4 ha p0 p1 pl H1
    clear t0 t1 t2 t3 t4 tl s0 s1 s2 s3 s4 sl
    go_upto_region 11 with fail
    generalize u4.alloc (rulObj e3 A3 n3.length c3 b3 B3 m3.length d3 f3) = W11 at *
    have H2 := Lib.hid (HNL2.out W11 X6.out HPM6.out)
    obtain ⟨p0, p1, pl⟩ := HPX6.out
    obtain ⟨t0, t1, t2, t3, t4, tl⟩ := X6.out.x1
    obtain ⟨s0, s1, s2, s3, s4, sl⟩ := X6.out.x2
    set_option maxRecDepth 100000 in go_wp2_with fail
    with_reducible refine H2.out.mono ?_
    rintro e u5 ⟨e4, A4, n4, c4, b4, B4, m4, d4, f4, rfl, hr5, hb5⟩
    have X7 := Lib.hid (X6.out.keep hb5)
    have ha : Below u5.heap.size u5 (u5.alloc (rulObj e4 A4 n4.length c4 b4 B4 m4.length d4 f4)) := (Below.refl _ _).alloc (Nat.le_refl _) _
    have X8 := Lib.hid (X7.out.keep ha)
    have HR7 := Lib.hid ((HR6.out.keep hb5).keep ha)
    have HB7 := Lib.hid ((HB6.out.keep hb5).keep ha)
    have HR8 := Lib.hid (hr5.keep ha)
    have HB8 := Lib.hid (RBox.new u5 e4 A4 n4.length c4 b4 B4 m4.length d4 f4)
    clear hb5 hr5 ha p0 p1 pl H2
    clear t0 t1 t2 t3 t4 tl s0 s1 s2 s3 s4 sl
    go_upto_region 12 with fail
    generalize u5.alloc (rulObj e4 A4 n4.length c4 b4 B4 m4.length d4 f4) = W12 at *
    cases o1 with
    | none =>
      have hcv : cv = none := HCV.out
      have hce : ce = 43 := by have := HCE.out; cases o2 <;> exact this
      subst hcv hce
      simp only [Option.isSome_none]
      obtain ⟨z0, z1, z2, z3, z4, z5, z6, z7, z8, z9, zl⟩ := X8.out.z
      set_option maxRecDepth 100000 in go_wp2
      refine bodyPost_ret (v := .tuple #[rulV false none 0 0 false none 0 0 false, .bool false, .int .i64 43]) (by simp [results, Tryz.results19, go_sem, z0, z1, z2, z3, z4]) rfl ⟨false, none, [], 0, false, none, [], 0, false, rfl, rulR_zero _, ?_⟩
      exact Below.set5 X8.out.below _ (by omega) _ _ _ _ _
    | some x =>
      simp only [Option.isSome_some]
      cases o2 with
      | none =>
        have hcv : cv = none := HCV.out
        have hce : ce = 43 := HCE.out
        subst hcv hce
        simp only [Option.isSome_none]
        obtain ⟨z0, z1, z2, z3, z4, z5, z6, z7, z8, z9, zl⟩ := X8.out.z
        set_option maxRecDepth 100000 in go_wp2
        refine bodyPost_ret (v := .tuple #[rulV false none 0 0 false none 0 0 false, .bool false, .int .i64 43]) (by simp [results, Tryz.results19, go_sem, z0, z1, z2, z3, z4]) rfl ⟨false, none, [], 0, false, none, [], 0, false, rfl, rulR_zero _, ?_⟩
        exact Below.set5 X8.out.below _ (by omega) _ _ _ _ _
      | some y =>
        have hcv : cv = some ⟨false, x.left, y.right⟩ := HCV.out
        have hce : ce = 0 := HCE.out
        subst hcv hce
        simp only [Option.isSome_some]
        obtain ⟨t0, t1, t2, t3, t4, tl⟩ := HB7.out
        obtain ⟨s0, s1, s2, s3, s4, sl⟩ := HB8.out
        obtain ⟨z0, z1, z2, z3, z4, z5, z6, z7, z8, z9, zl⟩ := X8.out.z
        set_option maxRecDepth 100000 in go_wp2
        refine bodyPost_ret (v := .tuple #[rulV false A3 n3.length c3 b3 B4 m4.length d4 f4, .bool true, .int .i64 0]) (by simp [results, Tryz.results19, go_sem, z0, z1, z2, z3, z4]) rfl ⟨false, A3, n3, c3, b3, B4, m4, d4, f4, rfl, ⟨rfl, ?_, ?_⟩, ?_⟩
        · exact HR7.out.left.grow5 _ _ _ _ _ _ X8.out.z
        · exact HR8.out.right.grow5 _ _ _ _ _ _ X8.out.z
        · exact Below.set5 X8.out.below _ (by omega) _ _ _ _ _
end Go.Proofs.YthgcnlhlhipllaaGreatDoor
