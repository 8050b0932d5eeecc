/- The contract of the reference's Agree. -/
import Derived.Test.YthgcnlhlhipllaaGreatDoorRulFix
import Derived.Deep.LoopGhost
namespace Go.Proofs.YthgcnlhlhipllaaGreatDoor
open Go.RowKit

namespace Pt
theorem Inv.swap {a b : Rul} {m : Pat} (h : Inv a b m) : Inv b a m := ⟨h.cb, h.ca, h.ck, h.wb, h.wa, fun p t f1 f2 => h.all p t f2 f1⟩
theorem fixL_szc {S L K : Nat} {c : List UInt8} (hc : Pm.comp c = true) (hcl : c.length ≤ K) (hL : L ≤ K + S) : ∀ {ps : List (List UInt8)} {k : Nat}, szc S L ps → szc S (K + S) (fixL ps k c)
  | [], _, _ => fun x hx => by simp [fixL] at hx
  | y :: ps, k, h => by
    have h0 := h y (by simp)
    have h' : szc S L ps := fun z hz => h z (List.mem_cons_of_mem _ hz)
    have up : ∀ {qs : List (List UInt8)}, szc S L qs → szc S (K + S) qs := fun hq x hx => ⟨Nat.le_trans (hq x hx).1 hL, (hq x hx).2⟩
    cases hs : star y with
    | none =>
      rw [fixL_comp _ _ _ hs]
      intro x hx
      rcases List.mem_cons.1 hx with rfl | hx
      · exact ⟨Nat.le_trans h0.1 hL, h0.2⟩
      · exact fixL_szc hc hcl hL h' x hx
    | some s =>
      cases k with
      | zero =>
        rw [fixL_zero _ _ hs]
        intro x hx
        rcases List.mem_cons.1 hx with rfl | hx
        · have h2 := h0.2 (isStar_of hs)
          have h3 := (star_some.1 hs).1
          rw [h3] at h2
          simp only [List.length_cons] at h2
          refine ⟨by rw [List.length_append]; omega, fun hst => ?_⟩
          exact absurd hst (isStar_none (comp_star (comp_of_star hc hs)))
        · exact up h' x hx
      | succ k =>
        rw [fixL_succ _ _ _ hs]
        intro x hx
        rcases List.mem_cons.1 hx with rfl | hx
        · exact ⟨Nat.le_trans h0.1 hL, h0.2⟩
        · exact fixL_szc hc hcl hL h' x hx
end Pt
/-- A box that holds a pattern and may be written. -/
structure FPBox (w : World) (g : Nat) (A : Option Addr) (n c : Nat) (b : Bool) : Prop where
  bx : PBox w g A n c b
  f0 : w.frozen? ⟨g, 0, none⟩ = false
  f1 : w.frozen? ⟨g, 1, none⟩ = false
theorem FPBox.keep {w w' : World} {g : Nat} {A : Option Addr} {n c : Nat} {b : Bool} (h : FPBox w g A n c b) (hb : Below w.heap.size w w') : FPBox w' g A n c b :=
  ⟨h.bx.keep hb, (hb.frozen (p := ⟨g, 0, none⟩) h.bx.lt).trans h.f0, (hb.frozen (p := ⟨g, 1, none⟩) h.bx.lt).trans h.f1⟩
theorem FPBox.new (w : World) (A : Option Addr) (n c : Nat) (b : Bool) : FPBox (w.alloc (patObj A n c b)) w.heap.size A n c b := ⟨PBox.new .., cells_free _ _ _ 0, cells_free _ _ _ 1⟩
/-- What stands at the head of a round of the reference's Agree. -/
structure YRel (w wx : World) (ex : Bool) (A : Option Addr) (xs : List ByteArray) (c : Nat) (b : Bool) (B : Option Addr) (ys : List ByteArray) (d : Nat) (f : Bool) (r : Pt.Rul) (ex' : Bool) (A' : Option Addr) (xs' : List ByteArray) (c' : Nat) (b' : Bool) (B' : Option Addr) (ys' : List ByteArray) (d' : Nat) (f' : Bool) (r' : Pt.Rul) (g9 : Nat) (C : Option Addr) (zs : List ByteArray) (cz : Nat) (g : Bool) (m : Pt.Pat) (ke : Nat) : Prop where
  ar : ARel w wx ex A xs c b B ys d f r ex' A' xs' c' b' B' ys' d' f' r'
  hi : w.heap.size + 1 + 1 < g9
  b9 : FPBox wx g9 C zs.length cz g
  pm : PatR wx C zs cz g m
  inv : Pt.Inv r r' m
  sz : Pt.szc 300 (300 + 600 * (13 - Pt.stars m.parts)) m.parts
  ke : ke = if (Pt.nleft r m).isSome && (Pt.nleft r' m).isSome then 0 else 43
theorem FBox.aside2 {w : World} {g q : Nat} {ex : Bool} {A : Option Addr} {n c : Nat} {b : Bool} {B : Option Addr} {m d : Nat} {f : Bool} (h : FBox w g ex A n c b B m d f) (hq : q ≠ g) (u0 u1 : Value) : FBox ((w.setCell ⟨q, 0, none⟩ u0).setCell ⟨q, 1, none⟩ u1) g ex A n c b B m d f := by
  have hq2 := hq.symm
  exact ⟨⟨by simp [go_sem, h.bx.c0], by simp [go_sem, h.bx.c1], by simp [go_sem, h.bx.c2], by simp [go_sem, h.bx.c3], by simp [go_sem, h.bx.c4], by simpa [World.setCell] using h.bx.lt⟩, by simpa using h.f0, by simpa using h.f1, by simpa using h.f2, by simpa using h.f3, by simpa using h.f4⟩
theorem FPBox.patR {w : World} {g : Nat} {A0 : Option Addr} {n0 c0 : Nat} {b0 : Bool} (z : FPBox w g A0 n0 c0 b0) {A : Option Addr} {xs : List ByteArray} {c : Nat} {b : Bool} {p : Pt.Pat} (h : PatR w A xs c b p) (u0 u1 : Value) : PatR ((w.setCell ⟨g, 0, none⟩ u0).setCell ⟨g, 1, none⟩ u1) A xs c b p :=
  h.store2 g u0 u1 _ _ z.bx.c0 z.bx.c1 (fun _ h => by cases h) (fun _ h => by cases h)
theorem FPBox.over {w : World} {g : Nat} {A0 : Option Addr} {n0 c0 : Nat} {b0 : Bool} (z : FPBox w g A0 n0 c0 b0) (A : Option Addr) (n c : Nat) (b : Bool) : FPBox ((w.setCell ⟨g, 0, none⟩ (.slice A n c)).setCell ⟨g, 1, none⟩ (.bool b)) g A n c b :=
  ⟨⟨by simp [go_sem, z.bx.c0], by simp [go_sem, z.bx.c1], by simpa [World.setCell] using z.bx.lt⟩, by simpa using z.f0, by simpa using z.f1⟩
theorem ARel.aside2 {w wx : World} {g : Nat} {A0 : Option Addr} {n0 c0 : Nat} {b0 : Bool} (z : FPBox wx g A0 n0 c0 b0) (hg : w.heap.size + 1 + 1 < g) {e1 : Bool} {A1 : Option Addr} {n1 : List ByteArray} {c1 : Nat} {b1 : Bool} {B1 : Option Addr} {m1 : List ByteArray} {d1 : Nat} {f1 : Bool} {r1 : Pt.Rul} {e2 : Bool} {A2 : Option Addr} {n2 : List ByteArray} {c2 : Nat} {b2 : Bool} {B2 : Option Addr} {m2 : List ByteArray} {d2 : Nat} {f2 : Bool} {r2 : Pt.Rul} (h : ARel w wx e1 A1 n1 c1 b1 B1 m1 d1 f1 r1 e2 A2 n2 c2 b2 B2 m2 d2 f2 r2) (u0 u1 : Value) :
    ARel w ((wx.setCell ⟨g, 0, none⟩ u0).setCell ⟨g, 1, none⟩ u1) e1 A1 n1 c1 b1 B1 m1 d1 f1 r1 e2 A2 n2 c2 b2 B2 m2 d2 f2 r2 :=
  ⟨h.x1.aside2 (by omega) _ _, h.x2.aside2 (by omega) _ _, (h.z.stored (by omega) _ _).stored (by omega) _ _, ⟨h.rr1.ex, z.patR h.rr1.left _ _, z.patR h.rr1.right _ _⟩, ⟨h.rr2.ex, z.patR h.rr2.left _ _, z.patR h.rr2.right _ _⟩, Below.set2 h.below _ (by omega) _ _⟩
theorem YRel.next {w w1 wy : World} {ex : Bool} {A : Option Addr} {xs : List ByteArray} {c : Nat} {b : Bool} {B : Option Addr} {ys : List ByteArray} {d : Nat} {f : Bool} {r : Pt.Rul} {ex' : Bool} {A' : Option Addr} {xs' : List ByteArray} {c' : Nat} {b' : Bool} {B' : Option Addr} {ys' : List ByteArray} {d' : Nat} {f' : Bool} {r' : Pt.Rul} {g9 : Nat} {C : Option Addr} {zs : List ByteArray} {cz : Nat} {g : Bool} {m : Pt.Pat} {D : Option Addr} {vs : List ByteArray} {dz k : Nat} {l : List UInt8}
    (Y : YRel w w1 ex A xs c b B ys d f r ex' A' xs' c' b' B' ys' d' f' r' g9 C zs cz g m 0) (X9 : ARel w wy ex A xs c b B ys d f r ex' A' xs' c' b' B' ys' d' f' r') (P9 : FPBox wy g9 C zs.length cz g) (PD : PatR wy D vs dz g (Pt.fixP m k l))
    (hfx : Pt.Inv r r' (Pt.fixP m k l) ∧ Pt.stars (Pt.fixP m k l).parts + 1 = Pt.stars m.parts ∧ (Pt.nleft r (Pt.fixP m k l)).isSome = true ∧ (Pt.nleft r' (Pt.fixP m k l)).isSome = true) (hcc : Pm.comp l = true) (hcl : l.length ≤ 300 + (300 + 600 * (13 - Pt.stars m.parts))) (h12 : Pt.stars m.parts ≤ 12) :
    YRel w ((wy.setCell ⟨g9, 0, none⟩ (.slice D vs.length dz)).setCell ⟨g9, 1, none⟩ (.bool g)) ex A xs c b B ys d f r ex' A' xs' c' b' B' ys' d' f' r' g9 D vs dz g (Pt.fixP m k l) 0 := by
  refine ⟨ARel.aside2 P9 Y.hi X9 _ _, Y.hi, P9.over .., P9.patR PD _ _, hfx.1, ?_, by rw [hfx.2.2.1, hfx.2.2.2]; rfl⟩
  have h1 := hfx.2.1
  have h5 := Pt.fixL_szc (S := 300) hcc hcl (L := 300 + 600 * (13 - Pt.stars m.parts)) (by omega) Y.sz (k := k)
  intro z hz
  have := h5 z hz
  exact ⟨by omega, this.2⟩
set_option maxHeartbeats 4000000 in
theorem qagree_any (ex : Bool) (A : Option Addr) (xs : List ByteArray) (c : Nat) (b : Bool) (B : Option Addr) (ys : List ByteArray) (d : Nat) (f : Bool) (r : Pt.Rul) (ex' : Bool) (A' : Option Addr) (xs' : List ByteArray) (c' : Nat) (b' : Bool) (B' : Option Addr) (ys' : List ByteArray) (d' : Nat) (f' : Bool) (r' : Pt.Rul) (w : World) (hr : RulR w ex A xs c b B ys d f r) (hq : RulR w ex' A' xs' c' b' B' ys' d' f' r') (h1 : Pt.szs 300 r.left) (h2 : Pt.szs 300 r.right) (h3 : Pt.szs 300 r'.left) (h4 : Pt.szs 300 r'.right) :
    Calls Tryz.prog 22 #[rulV ex A xs.length c b B ys.length d f, rulV ex' A' xs'.length c' b' B' ys'.length d' f'] w (GivesAg w r r' (Pt.agreeE r r')) := by
  obtain ⟨W0, hW0⟩ : ∃ W0, W0 = ((w.alloc (.cells #[.bool ex, .slice A xs.length c, .bool b, .slice B ys.length d, .bool f] 26)).alloc (.cells #[.bool ex', .slice A' xs'.length c', .bool b', .slice B' ys'.length d', .bool f'] 26)).alloc (patObj none 0 0 false) := ⟨_, rfl⟩
  have hal : Below w.heap.size w W0 := by rw [hW0]; exact (((Below.refl _ _).alloc (Nat.le_refl _) _).alloc (by simp) _).alloc (by simp; omega) _
  have HAL := Lib.hid hal
  obtain ⟨hbx, hpx, hzx⟩ : FBox W0 w.heap.size ex A xs.length c b B ys.length d f ∧ FBox W0 (w.heap.size + 1) ex' A' xs'.length c' b' B' ys'.length d' f' ∧ ZPat W0 (w.heap.size + 1 + 1) := by rw [hW0]; exact boxesA ..
  have X0 := Lib.hid (show ARel w W0 ex A xs c b B ys d f r ex' A' xs' c' b' B' ys' d' f' r' from ⟨hbx, hpx, hzx, hr.keep hal, hq.keep hal, hal⟩)
  have HQ1 := Lib.hid (qcheck_any ex A xs c b B ys d f r W0 (hr.keep hal))
  have HQ2 := Lib.hid (fun (w' : World) (R : ARel w w' ex A xs c b B ys d f r ex' A' xs' c' b' B' ys' d' f' r') => qcheck_any ex' A' xs' c' b' B' ys' d' f' r' w' R.rr2)
  have HME := Lib.hid (fun (w' : World) (R : ARel w w' ex A xs c b B ys d f r ex' A' xs' c' b' B' ys' d' f' r') => rmeet_any A A' xs xs' c c' b b' r.left r'.left w' R.rr1.left R.rr2.left)
  have HN1 := Lib.hid (fun (m : Pt.Pat) (hm : Pt.szs 50000 m) (C : Option Addr) (zs : List ByteArray) (cz : Nat) (g : Bool) (w' : World) (R : ARel w w' ex A xs c b B ys d f r ex' A' xs' c' b' B' ys' d' f' r') (hp : PatR w' C zs cz g m) => qnl_any ex A xs c b B ys d f r C zs cz g m w' R.rr1 hp (h1.more (by decide)) (h2.more (by decide)) hm)
  have HN2 := Lib.hid (fun (m : Pt.Pat) (hm : Pt.szs 50000 m) (C : Option Addr) (zs : List ByteArray) (cz : Nat) (g : Bool) (w' : World) (R : ARel w w' ex A xs c b B ys d f r ex' A' xs' c' b' B' ys' d' f' r') (hp : PatR w' C zs cz g m) => qnl_any ex' A' xs' c' b' B' ys' d' f' r' C zs cz g m w' R.rr2 hp (h3.more (by decide)) (h4.more (by decide)) hm)
  have HSX := Lib.hid (fun (m : Pt.Pat) (L : Nat) (hL : 300 ≤ L) (hm : Pt.szs L m) => show (∀ x, Pt.nleft r m = some x → Pt.szs (300 + L) x.right) ∧ (∀ y, Pt.nleft r' m = some y → Pt.szs (300 + L) y.right) from ⟨fun x hx => (Pt.nleft_sizes hx (h1.more hL) hm h2).2, fun y hy => (Pt.nleft_sizes hy (h3.more hL) hm h4).2⟩)
  have hms : ∀ m, Pt.meet r.left r'.left = some m → Pt.szs 300 m := fun m hm => Pt.meet_sizes h1 h3 hm
  have hE : Pt.agreeE r r' = if Pt.rcheck r = 0 then (if Pt.rcheck r' = 0 then (match Pt.nleft r r'.left with
      | none => Pt.nleftE r r'.left
      | some x => Pt.nleftE r' x.left) else Pt.rcheck r') else Pt.rcheck r := rfl
  have hmE : ∀ m, Pt.rcheck r = 0 → Pt.rcheck r' = 0 → Pt.meet r.left r'.left = some m → Pt.Inv r r' m ∧ Pt.agreeE r r' = if (Pt.nleft r m).isSome && (Pt.nleft r' m).isSome then 0 else 43 := fun m c1 c2 hm => by
    obtain ⟨i1, i2⟩ := Pt.agreeE_meet c1 c2 hm
    refine ⟨i1, ?_⟩
    rw [hE, if_pos c1, if_pos c2]
    exact i2
  have hmN : Pt.rcheck r = 0 → Pt.rcheck r' = 0 → Pt.meet r.left r'.left = none → Pt.agreeE r r' = 0 ∧ Pt.AgreeIs r r' none := fun c1 c2 hm => by
    have hcl : Pt.check r'.left = 0 := (Pt.rcheck_zero.1 c2).1
    have hn : Pt.nleft r r'.left = none := by unfold Pt.nleft; rw [if_pos c1, if_pos hcl, hm]
    have hne : Pt.nleftE r r'.left = 0 := by unfold Pt.nleftE; rw [if_pos c1, if_pos hcl, hm]
    refine ⟨by rw [hE, if_pos c1, if_pos c2, hn]; exact hne, Pt.agree_none1 hn hne⟩
  generalize hk : Pt.agreeE r r' = ke at hE hmE hmN ⊢
  have HE := Lib.hid hE
  have HMS := Lib.hid hms
  have HMEE := Lib.hid hmE
  have HMN := Lib.hid hmN
  clear hE hk hms hmE hmN h1 h2 h3 h4 hr hq
  generalize hc1 : Pt.rcheck r = k1 at *
  generalize hc2 : Pt.rcheck r' = k2 at *
  have HC1 := Lib.hid hc1
  have HC2 := Lib.hid hc2
  clear hc1 hc2
  have hy1 := hbx
  have hy2 := hpx
  have hy3 := hzx
  obtain ⟨⟨t0, t1, t2, t3, t4, tl⟩, t5, t6, t7, t8, t9⟩ := hy1
  obtain ⟨⟨s0, s1, s2, s3, s4, sl⟩, s5, s6, s7, s8, s9⟩ := hy2
  obtain ⟨z0, z1, z2, z3, zl⟩ := hy3
  clear hbx hpx hzx hal
  by_cases h1 : k1 = 0
  rotate_left
  · have he := HE.out
    rw [if_neg h1] at he
    subst he
    have HK0 := Lib.hid h1
    have p1 : ((ke : Int) == 0) = false := by rw [beq_eq_false_iff_ne]; omega
    have p2 : ((ke : Int) != 0) = true := by rw [bne, p1]; rfl
    clear h1 HE HMEE HMN HN1 HN2 HME HSX
    subst hW0
    go_enter Tryz.func22, Tryz.ntmps22
    set_option maxRecDepth 100000 in go_wp2_with fail
    generalize ((w.alloc (.cells #[.bool ex, .slice A xs.length c, .bool b, .slice B ys.length d, .bool f] 26)).alloc (.cells #[.bool ex', .slice A' xs'.length c', .bool b', .slice B' ys'.length d', .bool f'] 26)).alloc (patObj none 0 0 false) = W5 at *
    with_reducible refine HQ1.out.mono ?_
    rintro e u1 ⟨rfl, hb1⟩
    have X1 := Lib.hid (X0.out.keep hb1)
    clear hb1 z0 z1 z2 z3 zl
    clear t0 t1 t2 t3 t4 tl t5 t6 t7 t8 t9 s0 s1 s2 s3 s4 sl s5 s6 s7 s8 s9
    obtain ⟨z0, z1, z2, z3, zl⟩ := X1.out.z
    set_option maxRecDepth 100000 in go_wp2
    try rw [Exit.noGoto_ret]
    set_option maxRecDepth 100000 in
    refine bodyPost_ret (v := .tuple #[patV none 0 0 false, .bool false, .int .i64 ke]) (by simp [results, Tryz.results22, go_sem, z0, z1]) rfl ⟨none, [], 0, false, none, rfl, patR_zero _, fun h => absurd h HK0.out, fun _ => rfl, ?_⟩
    exact Below.set2 X1.out.below _ (by omega) _ _
  subst h1
  have he := HE.out
  rw [if_pos rfl] at he
  by_cases h2 : k2 = 0
  rotate_left
  · rw [if_neg h2] at he
    subst he
    have HK0 := Lib.hid h2
    have p1 : ((ke : Int) == 0) = false := by rw [beq_eq_false_iff_ne]; omega
    have p2 : ((ke : Int) != 0) = true := by rw [bne, p1]; rfl
    clear h2 HE HMEE HMN HN1 HN2 HME HSX
    subst hW0
    go_enter Tryz.func22, Tryz.ntmps22
    set_option maxRecDepth 100000 in go_wp2_with fail
    generalize ((w.alloc (.cells #[.bool ex, .slice A xs.length c, .bool b, .slice B ys.length d, .bool f] 26)).alloc (.cells #[.bool ex', .slice A' xs'.length c', .bool b', .slice B' ys'.length d', .bool f'] 26)).alloc (patObj none 0 0 false) = W5 at *
    with_reducible refine HQ1.out.mono ?_
    rintro e u1 ⟨rfl, hb1⟩
    have X1 := Lib.hid (X0.out.keep hb1)
    clear hb1 z0 z1 z2 z3 zl
    clear t0 t1 t2 t3 t4 tl t5 t6 t7 t8 t9 s0 s1 s2 s3 s4 sl s5 s6 s7 s8 s9
    obtain ⟨⟨t0, t1, t2, t3, t4, tl⟩, t5, t6, t7, t8, t9⟩ := X1.out.x1
    obtain ⟨⟨s0, s1, s2, s3, s4, sl⟩, s5, s6, s7, s8, s9⟩ := X1.out.x2
    set_option maxRecDepth 100000 in go_wp2_with fail
    with_reducible refine (HQ2.out _ X1.out).mono ?_
    rintro e u2 ⟨rfl, hb2⟩
    have X2 := Lib.hid (X1.out.keep hb2)
    clear hb2
    clear t0 t1 t2 t3 t4 tl t5 t6 t7 t8 t9 s0 s1 s2 s3 s4 sl s5 s6 s7 s8 s9
    obtain ⟨z0, z1, z2, z3, zl⟩ := X2.out.z
    set_option maxRecDepth 100000 in go_wp2
    try rw [Exit.noGoto_ret]
    set_option maxRecDepth 100000 in
    refine bodyPost_ret (v := .tuple #[patV none 0 0 false, .bool false, .int .i64 ke]) (by simp [results, Tryz.results22, go_sem, z0, z1]) rfl ⟨none, [], 0, false, none, rfl, patR_zero _, fun h => absurd h HK0.out, fun _ => rfl, ?_⟩
    exact Below.set2 X2.out.below _ (by omega) _ _
  subst h2
  clear he HE
  obtain ⟨om, hom⟩ : ∃ om, om = Pt.meet r.left r'.left := ⟨_, rfl⟩
  rw [← hom] at HME HMEE HMN HMS
  clear hom
  have hmn := fun h : om = none => HMN.out rfl rfl h
  have hme := fun (m : Pt.Pat) (h : om = some m) => HMEE.out m rfl rfl h
  clear HMN HMEE
  have HMN := Lib.hid hmn
  have HMEE := Lib.hid hme
  clear hmn hme
  subst hW0
  go_enter Tryz.func22, Tryz.ntmps22
  set_option maxRecDepth 100000 in go_wp2_with fail
  generalize ((w.alloc (.cells #[.bool ex, .slice A xs.length c, .bool b, .slice B ys.length d, .bool f] 26)).alloc (.cells #[.bool ex', .slice A' xs'.length c', .bool b', .slice B' ys'.length d', .bool f'] 26)).alloc (patObj none 0 0 false) = W5 at *
  with_reducible refine HQ1.out.mono ?_
  rintro e u1 ⟨rfl, hb1⟩
  have X1 := Lib.hid (X0.out.keep hb1)
  clear hb1 z0 z1 z2 z3 zl
  clear t0 t1 t2 t3 t4 tl t5 t6 t7 t8 t9 s0 s1 s2 s3 s4 sl s5 s6 s7 s8 s9
  obtain ⟨⟨t0, t1, t2, t3, t4, tl⟩, t5, t6, t7, t8, t9⟩ := X1.out.x1
  obtain ⟨⟨s0, s1, s2, s3, s4, sl⟩, s5, s6, s7, s8, s9⟩ := X1.out.x2
  set_option maxRecDepth 100000 in go_wp2_with fail
  with_reducible refine (HQ2.out _ X1.out).mono ?_
  rintro e u2 ⟨rfl, hb2⟩
  have X2 := Lib.hid (X1.out.keep hb2)
  clear hb2
  clear t0 t1 t2 t3 t4 tl t5 t6 t7 t8 t9 s0 s1 s2 s3 s4 sl s5 s6 s7 s8 s9
  obtain ⟨⟨t0, t1, t2, t3, t4, tl⟩, t5, t6, t7, t8, t9⟩ := X2.out.x1
  obtain ⟨⟨s0, s1, s2, s3, s4, sl⟩, s5, s6, s7, s8, s9⟩ := X2.out.x2
  set_option maxRecDepth 100000 in go_wp2_with fail
  with_reducible refine (HME.out _ X2.out).mono ?_
  rintro e u3 ⟨C, zs, cz, g, rfl, hpm, hb3⟩
  have X3 := Lib.hid (X2.out.keep hb3)
  have ha : Below u3.heap.size u3 (u3.alloc (.cells #[.slice C zs.length cz, .bool g] 24)) := (Below.refl _ _).alloc (Nat.le_refl _) _
  have X4 := Lib.hid (X3.out.keep ha)
  have HPM := Lib.hid (hpm.keep ha)
  have HPX := Lib.hid (FPBox.new u3 C zs.length cz g)
  have HHI := Lib.hid (show w.heap.size + 1 + 1 < u3.heap.size from X3.out.z.lt)
  clear hb3 hpm ha
  clear t0 t1 t2 t3 t4 tl t5 t6 t7 t8 t9 s0 s1 s2 s3 s4 sl s5 s6 s7 s8 s9
  go_upto_region 8 with fail
  generalize u3.alloc (.cells #[.slice C zs.length cz, .bool g] 24) = W8 at *
  generalize u3.heap.size = g9 at *
  cases om with
  | none =>
    obtain ⟨hke, hagr⟩ := HMN.out rfl
    subst hke
    have HAGR := Lib.hid hagr
    clear hagr
    set_option maxRecDepth 100000 in simp only [Option.isSome_none]
    obtain ⟨z0, z1, z2, z3, zl⟩ := X4.out.z
    set_option maxRecDepth 100000 in go_wp2
    try rw [Exit.noGoto_ret]
    set_option maxRecDepth 100000 in
    refine bodyPost_ret (v := .tuple #[patV none 0 0 false, .bool false, .int .i64 0]) (by simp [results, Tryz.results22, go_sem, z0, z1]) rfl ⟨none, [], 0, false, none, rfl, patR_zero _, fun _ => HAGR.out, fun _ => rfl, ?_⟩
    exact Below.set2 X4.out.below _ (by omega) _ _
  | some m =>
    obtain ⟨hinv, hke⟩ := HMEE.out m rfl
    have hst12 : Pt.stars m.parts ≤ 12 := Nat.le_trans (List.length_filter_le _ _) (Pt.check_ok.1 hinv.ck).2
    have hsz : Pt.szc 300 (300 + 600 * (13 - Pt.stars m.parts)) m.parts := fun x hx => by
      have := HMS.out m rfl x hx
      exact ⟨by omega, fun _ => this⟩
    have Y0 := Lib.hid (show YRel w W8 ex A xs c b B ys d f r ex' A' xs' c' b' B' ys' d' f' r' g9 C zs cz g m ke from ⟨X4.out, HHI.out, HPX.out, HPM.out, hinv, hsz, hke⟩)
    set_option maxRecDepth 100000 in simp only [Option.isSome_some]
    obtain ⟨N, hN⟩ : ∃ N, N = Pt.stars m.parts := ⟨_, rfl⟩
    have HN := Lib.hid hN
    clear hN hinv hke hst12 hsz HMEE HMN HMS HME HQ1 HQ2
    set_option maxRecDepth 100000 in go_wp2
    go_loopg [] N (fun gg wx => ∃ (C : Option Addr) (zs : List ByteArray) (cz : Nat) (g : Bool) (m : Pt.Pat), Pt.stars m.parts = gg ∧ YRel w wx ex A xs c b B ys d f r ex' A' xs' c' b' B' ys' d' f' r' g9 C zs cz g m ke)
    case atStart => exact ⟨C, zs, cz, g, m, HN.out.symm, Y0.out⟩
    case round =>
      obtain ⟨C, zs, cz, g, m, hg, Y⟩ := hrel
      subst hg
      obtain ⟨w1, hw1⟩ : ∃ w1, w1 = wr := ⟨_, rfl⟩
      subst hw1
      have hst12 : Pt.stars m.parts ≤ 12 := Nat.le_trans (List.length_filter_le _ _) (Pt.check_ok.1 Y.inv.ck).2
      have hmL : Pt.szs (300 + 600 * (13 - Pt.stars m.parts)) m := fun x hx => (Y.sz x hx).1
      have H1 := Lib.hid (HN1.out m (hmL.more (by omega)) C zs cz g w1 Y.ar Y.pm)
      have HNL2 := Lib.hid (fun (w' : World) (R : ARel w w' ex A xs c b B ys d f r ex' A' xs' c' b' B' ys' d' f' r') (hp : PatR w' C zs cz g m) => HN2.out m (hmL.more (by omega)) C zs cz g w' R hp)
      have hsx := HSX.out m _ (by omega) hmL
      obtain ⟨o1, ho1⟩ : ∃ o1, o1 = Pt.nleft r m := ⟨_, rfl⟩
      obtain ⟨o2, ho2⟩ : ∃ o2, o2 = Pt.nleft r' m := ⟨_, rfl⟩
      have hke : ke = if o1.isSome && o2.isSome then 0 else 43 := by rw [ho1, ho2]; exact Y.ke
      rw [← ho1] at H1 hsx
      rw [← ho2] at HNL2 hsx
      have HSXX := Lib.hid hsx
      have HO1 := Lib.hid ho1
      have HO2 := Lib.hid ho2
      have HKE := Lib.hid hke
      have HST12 := Lib.hid hst12
      obtain ⟨⟨p0, p1, pl⟩, p2, p3⟩ := Y.b9
      obtain ⟨⟨t0, t1, t2, t3, t4, tl⟩, t5, t6, t7, t8, t9⟩ := Y.ar.x1
      have HY := Lib.hid Y
      clear Y hmL hsx ho1 ho2 hke hst12
      set_option maxRecDepth 100000 in go_wp2_with fail
      with_reducible refine H1.out.mono ?_
      rintro e u4 ⟨e3, A3, n3, c3, b3, B3, m3, d3, f3, rfl, hr4, hb4⟩
      have ha : Below u4.heap.size u4 (u4.alloc (rulObj e3 A3 n3.length c3 b3 B3 m3.length d3 f3)) := (Below.refl _ _).alloc (Nat.le_refl _) _
      have X5 := Lib.hid (HY.out.ar.keep hb4)
      have X6 := Lib.hid (X5.out.keep ha)
      have HR6 := Lib.hid (hr4.keep ha)
      have HPM6 := Lib.hid ((HY.out.pm.keep hb4).keep ha)
      have HPX6 := Lib.hid ((HY.out.b9.keep hb4).keep ha)
      have HB6 := Lib.hid (RBox.new u4 e3 A3 n3.length c3 b3 B3 m3.length d3 f3)
      clear hb4 hr4 ha p0 p1 pl p2 p3 H1 t0 t1 t2 t3 t4 tl t5 t6 t7 t8 t9
      set_option maxRecDepth 100000 in go_upto_region 11 with fail
      generalize u4.alloc (rulObj e3 A3 n3.length c3 b3 B3 m3.length d3 f3) = W11 at *
      generalize u4.heap.size = g11 at *
      have H2 := Lib.hid (HNL2.out W11 X6.out HPM6.out)
      obtain ⟨⟨p0, p1, pl⟩, p2, p3⟩ := HPX6.out
      obtain ⟨⟨s0, s1, s2, s3, s4, sl⟩, s5, s6, s7, s8, s9⟩ := X6.out.x2
      set_option maxRecDepth 100000 in go_wp2_with fail
      with_reducible refine H2.out.mono ?_
      rintro e u5 ⟨e4, A4, n4, c4, b4, B4, m4, d4, f4, rfl, hr5, hb5⟩
      have ha : Below u5.heap.size u5 (u5.alloc (rulObj e4 A4 n4.length c4 b4 B4 m4.length d4 f4)) := (Below.refl _ _).alloc (Nat.le_refl _) _
      have X7 := Lib.hid (X6.out.keep hb5)
      have X8 := Lib.hid (X7.out.keep ha)
      have HR7 := Lib.hid ((HR6.out.keep hb5).keep ha)
      have HB7 := Lib.hid ((HB6.out.keep hb5).keep ha)
      have HPM8 := Lib.hid ((HPM6.out.keep hb5).keep ha)
      have HPX8 := Lib.hid ((HPX6.out.keep hb5).keep ha)
      have HR8 := Lib.hid (hr5.keep ha)
      have HB8 := Lib.hid (RBox.new u5 e4 A4 n4.length c4 b4 B4 m4.length d4 f4)
      clear hb5 hr5 ha p0 p1 pl p2 p3 H2 s0 s1 s2 s3 s4 sl s5 s6 s7 s8 s9
      set_option maxRecDepth 100000 in go_upto_region 12 with fail
      generalize u5.alloc (rulObj e4 A4 n4.length c4 b4 B4 m4.length d4 f4) = W12 at *
      generalize u5.heap.size = g14 at *
      clear X5 X6 X7 HR6 HPM6 HPX6 HB6
      cases o1 with
      | none =>
        have hke : ke = 43 := by have := HKE.out; cases o2 <;> exact this
        subst hke
        set_option maxRecDepth 100000 in simp only [Option.isSome_none]
        obtain ⟨z0, z1, z2, z3, zl⟩ := X8.out.z
        set_option maxRecDepth 100000 in go_wp2
        try rw [Exit.noGoto_ret]
        set_option maxRecDepth 100000 in
        refine bodyPost_ret (v := .tuple #[patV none 0 0 false, .bool false, .int .i64 43]) (by simp [results, Tryz.results22, go_sem, z0, z1]) rfl ⟨none, [], 0, false, none, rfl, patR_zero _, fun h => (by cases h), fun _ => rfl, ?_⟩
        exact Below.set2 X8.out.below _ (by omega) _ _
      | some x =>
        set_option maxRecDepth 100000 in simp only [Option.isSome_some]
        cases o2 with
        | none =>
          have hke : ke = 43 := HKE.out
          subst hke
          set_option maxRecDepth 100000 in simp only [Option.isSome_none]
          obtain ⟨z0, z1, z2, z3, zl⟩ := X8.out.z
          set_option maxRecDepth 100000 in go_wp2
          try rw [Exit.noGoto_ret]
          set_option maxRecDepth 100000 in
          refine bodyPost_ret (v := .tuple #[patV none 0 0 false, .bool false, .int .i64 43]) (by simp [results, Tryz.results22, go_sem, z0, z1]) rfl ⟨none, [], 0, false, none, rfl, patR_zero _, fun h => (by cases h), fun _ => rfl, ?_⟩
          exact Below.set2 X8.out.below _ (by omega) _ _
        | some y =>
          have hke : ke = 0 := HKE.out
          subst hke
          set_option maxRecDepth 100000 in simp only [Option.isSome_some]
          have hx : Pt.nleft r m = some x := HO1.out.symm
          have hy : Pt.nleft r' m = some y := HO2.out.symm
          obtain ⟨cx, cy, lx, ly, hcom⟩ := Pt.inv_lines HY.out.inv hx hy
          clear hcom
          have kx := HR7.out.right.len
          have ky := HR8.out.right.len
          have n12 : m3.length ≤ 12 := by
            have : (Option.getD (some x) Pt.zeroR).right.parts.length ≤ 12 := (Pt.check_ok.1 (Pt.rcheck_zero.1 cx).2.1).2
            omega
          have npos : 0 < m3.length := by
            have : 1 ≤ (Option.getD (some x) Pt.zeroR).right.parts.length := Pt.form_pos (Pt.check_ok.1 (Pt.rcheck_zero.1 cx).2.1).1
            omega
          have npos2 : 0 < m4.length := by
            have : 1 ≤ (Option.getD (some y) Pt.zeroR).right.parts.length := Pt.form_pos (Pt.check_ok.1 (Pt.rcheck_zero.1 cy).2.1).1
            omega
          have hrx : RulR W12 e3 A3 n3 c3 b3 B3 m3 d3 f3 x := HR7.out
          have hry : RulR W12 e4 A4 n4 c4 b4 B4 m4 d4 f4 y := HR8.out
          obtain ⟨g0, o0, hB, hg0, hc0⟩ := hrx.right.rd.cells npos
          obtain ⟨g1, o1, hB', hg1, hc1⟩ := hry.right.rd.cells npos2
          subst hB hB'
          have HC0 := Lib.hid hc0
          have HC1 := Lib.hid hc1
          have PX := Lib.hid (show bs m3 = x.right.parts from hrx.right.parts)
          have PY := Lib.hid (show bs m4 = y.right.parts from hry.right.parts)
          have SX := Lib.hid (show ∀ z ∈ m3, z.size ≤ maxLen from hrx.right.sz)
          have SY := Lib.hid (show ∀ z ∈ m4, z.size ≤ maxLen from hry.right.sz)
          have HX := Lib.hid hx
          have HYY := Lib.hid hy
          have HPP := Lib.hid (show (∀ z ∈ x.right.parts, Pt.part z = true) ∧ (∀ z ∈ y.right.parts, Pt.part z = true) from ⟨Pt.form_parts (Pt.check_ok.1 (Pt.rcheck_zero.1 cx).2.1).1, Pt.form_parts (Pt.check_ok.1 (Pt.rcheck_zero.1 cy).2.1).1⟩)
          clear hx hy cx cy lx ly kx ky hrx hry hc0 hc1 npos npos2
          obtain ⟨t0, t1, t2, t3, t4, tl⟩ := HB7.out
          obtain ⟨s0, s1, s2, s3, s4, sl⟩ := HB8.out
          by_cases hlen : m3.length = m4.length
          rotate_left
          · have q1 : ((m3.length : Int) == (m4.length : Int)) = false := by rw [beq_eq_false_iff_ne]; omega
            have q2 : ((m3.length : Int) != (m4.length : Int)) = true := by rw [bne, q1]; rfl
            have HD := Lib.hid (Pt.inv_len HY.out.inv HX.out HYY.out (by rw [← PX.out, ← PY.out, bs_length, bs_length]; exact hlen))
            clear hlen
            obtain ⟨z0, z1, z2, z3, zl⟩ := X8.out.z
            set_option maxRecDepth 100000 in go_wp2
            try rw [Exit.noGoto_ret]
            set_option maxRecDepth 100000 in
            refine bodyPost_ret (v := .tuple #[patV none 0 0 false, .bool false, .int .i64 0]) (by simp [results, Tryz.results22, go_sem, z0, z1]) rfl ⟨none, [], 0, false, none, rfl, patR_zero _, fun _ => HD.out, fun _ => rfl, ?_⟩
            exact Below.set2 X8.out.below _ (by omega) _ _
          have q1 : ((m3.length : Int) == (m4.length : Int)) = true := by rw [beq_iff_eq]; omega
          have q2 : ((m3.length : Int) != (m4.length : Int)) = false := by rw [bne, q1]; rfl
          have le1 : m3.length ≤ m4.length := Nat.le_of_eq hlen
          have le2 : m4.length ≤ m3.length := Nat.le_of_eq hlen.symm
          clear hlen
          set_option maxRecDepth 100000 in go_wp2
          clear q1 q2
          go_loopg [17, 18, 19, 91] m3.length (fun g2 s17 s18 s19 s91 wx => ∃ (i : Nat), i + g2 = m3.length ∧ s91 = .int .i64 (i : Int) ∧ s17 = .int .i64 (Pt.stars ((bs m3).take i) : Int) ∧ s18 = .string ⟨#[]⟩ ∧ s19 = .bool false ∧ wx = W12 ∧ Aside ((bs m3).take i = (bs m4).take i))
          case atStart => exact ⟨0, by omega, rfl, rfl, rfl, rfl, rfl, rfl⟩
          case round =>
            obtain ⟨i, hi, rfl, rfl, rfl, rfl, rfl, HP⟩ := hrel
            by_cases hin : i < m3.length
            · have i1 : (i : Int) < (m3.length : Int) := by omega
              have i2 : (i : Int) < (m4.length : Int) := by omega
              have hj : i < m4.length := by omega
              have ca := HC0.out i hin
              have cb := HC1.out i hj
              have hsk : Pt.stars ((bs m3).take i) ≤ i := Nat.le_trans (List.length_filter_le _ _) (by rw [List.length_take]; omega)
              have hdr : (bs m3).take i = (bs m4).take i := HP.out
              have HDR := Lib.hid hdr
              have e1 : x.right.parts = (bs m3).take i ++ m3[i].data.toList :: (bs m3).drop (i + 1) := by
                rw [← PX.out, ← bs_get m3 i hin]
                exact Pt.split_at (bs m3) (by rw [bs_length]; exact hin)
              have e2 : y.right.parts = (bs m3).take i ++ m4[i].data.toList :: (bs m4).drop (i + 1) := by
                rw [← PY.out, ← bs_get m4 i hj, hdr]
                exact Pt.split_at (bs m4) (by rw [bs_length]; exact hj)
              have E1 := Lib.hid e1
              have E2 := Lib.hid e2
              have HS1 := Lib.hid (fun w => rstar_any m3[i] w (SX.out _ (List.getElem_mem hin)))
              have HS2 := Lib.hid (fun w => rstar_any m4[i] w (SY.out _ (List.getElem_mem hj)))
              have HCA := Lib.hid (fun w => rcapture_any m3[i] m4[i] w (SX.out _ (List.getElem_mem hin)) (SY.out _ (List.getElem_mem hj)))
              have HCB := Lib.hid (fun w => rcapture_any m4[i] m3[i] w (SY.out _ (List.getElem_mem hj)) (SX.out _ (List.getElem_mem hin)))
              generalize hk : Pt.stars ((bs m3).take i) = k at *
              have HK := Lib.hid hk
              clear hdr e1 e2 hk
              by_cases he : m3[i] = m4[i]
              · have HEQ := Lib.hid he
                rw [← he] at cb
                have hb : (m3[i].toList == m3[i].toList) = true := by simp
                have htk : (bs m3).take (i + 1) = (bs m3).take i ++ [m3[i].data.toList] := by
                  rw [← bs_get m3 i hin]
                  exact (List.take_append_getElem (l := bs m3) (i := i) (by rw [bs_length]; exact hin)).symm
                have htk2 : (bs m4).take (i + 1) = (bs m4).take i ++ [m4[i].data.toList] := by
                  rw [← bs_get m4 i hj]
                  exact (List.take_append_getElem (l := bs m4) (i := i) (by rw [bs_length]; exact hj)).symm
                have hst : Pt.stars ((bs m3).take (i + 1)) = k + (if Pt.isStar m3[i].data.toList then 1 else 0) := by
                  rw [htk, Pt.stars_append, HK.out, Pt.stars_cons]
                  simp [Pt.stars]
                have HSTT := Lib.hid hst
                have HTK := Lib.hid (show (bs m3).take (i + 1) = (bs m4).take (i + 1) by rw [htk, htk2, HDR.out, HEQ.out])
                clear he htk htk2 hst
                cases hs : Pt.star m3[i].data.toList with
                | none =>
                  rw [hs] at HS1
                  unfold StarRes at HS1
                  simp only [Option.getD_none, Option.isSome_none] at HS1
                  have HS := Lib.hid hs
                  clear hs
                  set_option maxRecDepth 100000 in go_wp2_with fail
                  with_reducible refine (HS1.out _).mono ?_
                  rintro e u6 ⟨rfl, rfl⟩
                  set_option maxRecDepth 100000 in go_wp2
                  set_option maxRecDepth 100000 in go_roundg (m3.length - (i + 1))
                  case measure => go_light; omega
                  case rel =>
                    go_light
                    have hst := HSTT.out
                    rw [if_neg (Pt.isStar_none HS.out)] at hst
                    refine ⟨i + 1, by omega, by go_num, ?_, rfl, rfl, rfl, (show Aside _ from HTK.out)⟩
                    rw [hst]
                    rfl
                | some s =>
                  rw [hs] at HS1
                  unfold StarRes at HS1
                  simp only [Option.getD_some, Option.isSome_some] at HS1
                  have HS := Lib.hid hs
                  clear hs
                  set_option maxRecDepth 100000 in go_wp2_with fail
                  with_reducible refine (HS1.out _).mono ?_
                  rintro e u6 ⟨rfl, rfl⟩
                  set_option maxRecDepth 100000 in go_wp2
                  set_option maxRecDepth 100000 in go_roundg (m3.length - (i + 1))
                  case measure => go_light; omega
                  case rel =>
                    go_light
                    have hst := HSTT.out
                    rw [if_pos (Pt.isStar_of HS.out)] at hst
                    refine ⟨i + 1, by omega, by go_num, ?_, rfl, rfl, rfl, (show Aside _ from HTK.out)⟩
                    rw [hst]
                    go_num
              · have hb : (m3[i].toList == m4[i].toList) = false := by
                  rw [beq_eq_false_iff_ne]
                  intro e
                  exact he (by apply ba_ext; rw [← Lib.toList_data, ← Lib.toList_data, e])
                have HNE := Lib.hid (show m3[i].data.toList ≠ m4[i].data.toList from fun e => he (ba_ext e))
                clear he
                cases hu : Pt.star m3[i].data.toList with
                | none =>
                  rw [hu] at HS1
                  cases hv : Pt.star m4[i].data.toList with
                  | none =>
                    rw [hv] at HS2
                    unfold StarRes at HS1
                    simp only [Option.getD_none, Option.isSome_none] at HS1
                    unfold StarRes at HS2
                    simp only [Option.getD_none, Option.isSome_none] at HS2
                    have HDD := Lib.hid (Pt.inv_dead HY.out.inv HX.out HYY.out E1.out E2.out HNE.out (.inr (.inl ⟨hu, hv⟩)))
                    clear hu hv
                    set_option maxRecDepth 100000 in go_wp2_with fail
                    with_reducible refine (HS1.out _).mono ?_
                    rintro e u6 ⟨rfl, rfl⟩
                    set_option maxRecDepth 100000 in go_wp2_with fail
                    with_reducible refine (HS2.out _).mono ?_
                    rintro e u6 ⟨rfl, rfl⟩
                    set_option maxRecDepth 100000 in go_wp2_with fail
                    with_reducible refine (HS1.out _).mono ?_
                    rintro e u6 ⟨rfl, rfl⟩
                    set_option maxRecDepth 100000 in go_wp2_with fail
                    with_reducible refine (HCB.out _).mono ?_
                    rintro e u6 ⟨l, rfl, hl, rfl⟩
                    obtain ⟨z0, z1, z2, z3, zl⟩ := X8.out.z
                    set_option maxRecDepth 100000 in go_wp2
                    try rw [Exit.noGoto_ret]
                    set_option maxRecDepth 100000 in
                    refine bodyPost_ret (v := .tuple #[patV none 0 0 false, .bool false, .int .i64 0]) (by simp [results, Tryz.results22, go_sem, z0, z1]) rfl ⟨none, [], 0, false, none, rfl, patR_zero _, fun _ => HDD.out, fun _ => rfl, ?_⟩
                    exact Below.set2 X8.out.below _ (by omega) _ _
                  | some t =>
                    rw [hv] at HS2
                    unfold StarRes at HS1
                    simp only [Option.getD_none, Option.isSome_none] at HS1
                    unfold StarRes at HS2
                    simp only [Option.getD_some, Option.isSome_some] at HS2
                    cases hc : Pt.capture m4[i].data.toList m3[i].data.toList with
                    | none =>
                      rw [hc] at HCB
                      unfold CapRes at HCB
                      set_option maxRecDepth 100000 in simp only [Option.isSome_none] at HCB
                      have HDD := Lib.hid (Pt.inv_dead HY.out.inv HX.out HYY.out E1.out E2.out HNE.out (.inr (.inr (.inr ⟨hu, hc⟩))))
                      clear hu hv hc
                      set_option maxRecDepth 100000 in go_wp2_with fail
                      with_reducible refine (HS1.out _).mono ?_
                      rintro e u6 ⟨rfl, rfl⟩
                      set_option maxRecDepth 100000 in go_wp2_with fail
                      with_reducible refine (HS2.out _).mono ?_
                      rintro e u6 ⟨rfl, rfl⟩
                      set_option maxRecDepth 100000 in go_wp2_with fail
                      with_reducible refine (HS1.out _).mono ?_
                      rintro e u6 ⟨rfl, rfl⟩
                      set_option maxRecDepth 100000 in go_wp2_with fail
                      with_reducible refine (HCB.out _).mono ?_
                      rintro e u6 ⟨l, rfl, hl, rfl⟩
                      obtain ⟨z0, z1, z2, z3, zl⟩ := X8.out.z
                      set_option maxRecDepth 100000 in go_wp2
                      try rw [Exit.noGoto_ret]
                      set_option maxRecDepth 100000 in
                      refine bodyPost_ret (v := .tuple #[patV none 0 0 false, .bool false, .int .i64 0]) (by simp [results, Tryz.results22, go_sem, z0, z1]) rfl ⟨none, [], 0, false, none, rfl, patR_zero _, fun _ => HDD.out, fun _ => rfl, ?_⟩
                      exact Below.set2 X8.out.below _ (by omega) _ _
                    | some cc =>
                      rw [hc] at HCB
                      unfold CapRes at HCB
                      have HSU := Lib.hid hv
                      have HSV := Lib.hid hu
                      have HCAP := Lib.hid hc
                      clear hu hv hc
                      set_option maxRecDepth 100000 in go_wp2_with fail
                      with_reducible refine (HS1.out _).mono ?_
                      rintro e u6 ⟨rfl, rfl⟩
                      set_option maxRecDepth 100000 in go_wp2_with fail
                      with_reducible refine (HS2.out _).mono ?_
                      rintro e u6 ⟨rfl, rfl⟩
                      set_option maxRecDepth 100000 in go_wp2_with fail
                      with_reducible refine (HS1.out _).mono ?_
                      rintro e u6 ⟨rfl, rfl⟩
                      set_option maxRecDepth 100000 in go_wp2_with fail
                      with_reducible refine (HCB.out _).mono ?_
                      rintro e u6 ⟨l, rfl, hl, rfl⟩
                      obtain rfl := hl cc rfl
                      set_option maxRecDepth 100000 in simp only [Option.isSome_some]
                      have hcl : l.length ≤ 300 + (300 + 600 * (13 - Pt.stars m.parts)) := by
                        have hsz := HSXX.out.1 x rfl
                        have := hsz _ (by rw [E1.out]; exact List.mem_append_right _ List.mem_cons_self)
                        have h5 := congrArg List.length (Pt.capture_star HSU.out |>.1 HCAP.out).1
                        rw [List.length_append] at h5
                        omega
                      have hcc : Pm.comp l = true := ((Pt.capture_star HSU.out).1 HCAP.out).2
                      have h12 := HST12.out
                      have HCL := Lib.hid hcl
                      have HCC := Lib.hid hcc
                      have hzL : ∀ z ∈ zs, z.size ≤ 1000000 := fun z hz => by
                        have h6 := (HY.out.sz z.data.toList (by rw [← HPM8.out.parts]; exact List.mem_map_of_mem hz)).1
                        rw [Lib.size_eq]; omega
                      have hz12 : zs.length ≤ 12 := by
                        have := (Pt.check_ok.1 HY.out.inv.ck).2
                        have := HPM8.out.len
                        omega
                      have hz1 : 1 ≤ zs.length := by
                        have := Pt.form_pos (Pt.check_ok.1 HY.out.inv.ck).1
                        have := HPM8.out.len
                        omega
                      have HFX := Lib.hid (qfix_any C zs cz g m k ⟨l.toArray⟩ _ HPM8.out hz1 (by omega) hzL (by rw [size_mk]; omega) (by omega))
                      obtain ⟨⟨p0, p1, pl⟩, p2, p3⟩ := HPX8.out
                      generalize hL : (⟨l.toArray⟩ : ByteArray) = LL at *
                      have HLL := Lib.hid (show LL.data.toList = l by rw [← hL])
                      clear hL hcl hcc h12 hzL hz12 hz1 ca cb hb t0 t1 t2 t3 t4 tl s0 s1 s2 s3 s4 sl hl
                      set_option maxRecDepth 100000 in go_wp2_with fail
                      with_reducible refine HFX.out.mono ?_
                      rintro e u7 ⟨D, vs, dz, rfl, hpd, hb7⟩
                      have X9 := Lib.hid (X8.out.keep hb7)
                      have HP9 := Lib.hid (HPX8.out.keep hb7)
                      have HPD := Lib.hid hpd
                      clear hb7 hpd p0 p1 pl p2 p3
                      obtain ⟨⟨p0, p1, pl⟩, p2, p3⟩ := HP9.out
                      set_option maxRecDepth 100000 in go_wp2
                      have hfx0 := Pt.inv_fix HY.out.inv.swap HYY.out HX.out E2.out E1.out HSU.out HSV.out HCAP.out
                      rw [HK.out] at hfx0
                      have hfx : Pt.Inv r r' (Pt.fixP m k l) ∧ Pt.stars (Pt.fixP m k l).parts + 1 = Pt.stars m.parts ∧ (Pt.nleft r (Pt.fixP m k l)).isSome = true ∧ (Pt.nleft r' (Pt.fixP m k l)).isSome = true := ⟨hfx0.1.swap, hfx0.2.1, hfx0.2.2.2, hfx0.2.2.1⟩
                      set_option maxRecDepth 100000 in go_roundg (Pt.stars (Pt.fixP m k l).parts)
                      case measure => exact Nat.lt_of_lt_of_eq (Nat.lt_succ_self _) hfx.2.1
                      case rel => exact ⟨D, vs, dz, g, Pt.fixP m k l, rfl, YRel.next HY.out X9.out HP9.out (by rw [← HLL.out]; exact HPD.out) hfx HCC.out HCL.out HST12.out⟩
                | some s =>
                  rw [hu] at HS1
                  cases hv : Pt.star m4[i].data.toList with
                  | some t =>
                    rw [hv] at HS2
                    unfold StarRes at HS1
                    simp only [Option.getD_some, Option.isSome_some] at HS1
                    unfold StarRes at HS2
                    simp only [Option.getD_some, Option.isSome_some] at HS2
                    have HDD := Lib.hid (Pt.inv_dead HY.out.inv HX.out HYY.out E1.out E2.out HNE.out (.inl ⟨s, t, hu, hv⟩))
                    clear hu hv
                    set_option maxRecDepth 100000 in go_wp2_with fail
                    with_reducible refine (HS1.out _).mono ?_
                    rintro e u6 ⟨rfl, rfl⟩
                    set_option maxRecDepth 100000 in go_wp2_with fail
                    with_reducible refine (HS1.out _).mono ?_
                    rintro e u6 ⟨rfl, rfl⟩
                    set_option maxRecDepth 100000 in go_wp2_with fail
                    with_reducible refine (HS2.out _).mono ?_
                    rintro e u6 ⟨rfl, rfl⟩
                    set_option maxRecDepth 100000 in go_wp2_with fail
                    with_reducible refine (HCA.out _).mono ?_
                    rintro e u6 ⟨l, rfl, hl, rfl⟩
                    obtain ⟨z0, z1, z2, z3, zl⟩ := X8.out.z
                    set_option maxRecDepth 100000 in go_wp2
                    try rw [Exit.noGoto_ret]
                    set_option maxRecDepth 100000 in
                    refine bodyPost_ret (v := .tuple #[patV none 0 0 false, .bool false, .int .i64 0]) (by simp [results, Tryz.results22, go_sem, z0, z1]) rfl ⟨none, [], 0, false, none, rfl, patR_zero _, fun _ => HDD.out, fun _ => rfl, ?_⟩
                    exact Below.set2 X8.out.below _ (by omega) _ _
                  | none =>
                    rw [hv] at HS2
                    unfold StarRes at HS1
                    simp only [Option.getD_some, Option.isSome_some] at HS1
                    unfold StarRes at HS2
                    simp only [Option.getD_none, Option.isSome_none] at HS2
                    cases hc : Pt.capture m3[i].data.toList m4[i].data.toList with
                    | none =>
                      rw [hc] at HCA
                      unfold CapRes at HCA
                      set_option maxRecDepth 100000 in simp only [Option.isSome_none] at HCA
                      have HDD := Lib.hid (Pt.inv_dead HY.out.inv HX.out HYY.out E1.out E2.out HNE.out (.inr (.inr (.inl ⟨hv, hc⟩))))
                      clear hu hv hc
                      set_option maxRecDepth 100000 in go_wp2_with fail
                      with_reducible refine (HS1.out _).mono ?_
                      rintro e u6 ⟨rfl, rfl⟩
                      set_option maxRecDepth 100000 in go_wp2_with fail
                      with_reducible refine (HS1.out _).mono ?_
                      rintro e u6 ⟨rfl, rfl⟩
                      set_option maxRecDepth 100000 in go_wp2_with fail
                      with_reducible refine (HS2.out _).mono ?_
                      rintro e u6 ⟨rfl, rfl⟩
                      set_option maxRecDepth 100000 in go_wp2_with fail
                      with_reducible refine (HCA.out _).mono ?_
                      rintro e u6 ⟨l, rfl, hl, rfl⟩
                      obtain ⟨z0, z1, z2, z3, zl⟩ := X8.out.z
                      set_option maxRecDepth 100000 in go_wp2
                      try rw [Exit.noGoto_ret]
                      set_option maxRecDepth 100000 in
                      refine bodyPost_ret (v := .tuple #[patV none 0 0 false, .bool false, .int .i64 0]) (by simp [results, Tryz.results22, go_sem, z0, z1]) rfl ⟨none, [], 0, false, none, rfl, patR_zero _, fun _ => HDD.out, fun _ => rfl, ?_⟩
                      exact Below.set2 X8.out.below _ (by omega) _ _
                    | some cc =>
                      rw [hc] at HCA
                      unfold CapRes at HCA
                      have HSU := Lib.hid hu
                      have HSV := Lib.hid hv
                      have HCAP := Lib.hid hc
                      clear hu hv hc
                      set_option maxRecDepth 100000 in go_wp2_with fail
                      with_reducible refine (HS1.out _).mono ?_
                      rintro e u6 ⟨rfl, rfl⟩
                      set_option maxRecDepth 100000 in go_wp2_with fail
                      with_reducible refine (HS1.out _).mono ?_
                      rintro e u6 ⟨rfl, rfl⟩
                      set_option maxRecDepth 100000 in go_wp2_with fail
                      with_reducible refine (HS2.out _).mono ?_
                      rintro e u6 ⟨rfl, rfl⟩
                      set_option maxRecDepth 100000 in go_wp2_with fail
                      with_reducible refine (HCA.out _).mono ?_
                      rintro e u6 ⟨l, rfl, hl, rfl⟩
                      obtain rfl := hl cc rfl
                      set_option maxRecDepth 100000 in simp only [Option.isSome_some]
                      have hcl : l.length ≤ 300 + (300 + 600 * (13 - Pt.stars m.parts)) := by
                        have hsz := HSXX.out.2 y rfl
                        have := hsz _ (by rw [E2.out]; exact List.mem_append_right _ List.mem_cons_self)
                        have h5 := congrArg List.length (Pt.capture_star HSU.out |>.1 HCAP.out).1
                        rw [List.length_append] at h5
                        omega
                      have hcc : Pm.comp l = true := ((Pt.capture_star HSU.out).1 HCAP.out).2
                      have h12 := HST12.out
                      have HCL := Lib.hid hcl
                      have HCC := Lib.hid hcc
                      have hzL : ∀ z ∈ zs, z.size ≤ 1000000 := fun z hz => by
                        have h6 := (HY.out.sz z.data.toList (by rw [← HPM8.out.parts]; exact List.mem_map_of_mem hz)).1
                        rw [Lib.size_eq]; omega
                      have hz12 : zs.length ≤ 12 := by
                        have := (Pt.check_ok.1 HY.out.inv.ck).2
                        have := HPM8.out.len
                        omega
                      have hz1 : 1 ≤ zs.length := by
                        have := Pt.form_pos (Pt.check_ok.1 HY.out.inv.ck).1
                        have := HPM8.out.len
                        omega
                      have HFX := Lib.hid (qfix_any C zs cz g m k ⟨l.toArray⟩ _ HPM8.out hz1 (by omega) hzL (by rw [size_mk]; omega) (by omega))
                      obtain ⟨⟨p0, p1, pl⟩, p2, p3⟩ := HPX8.out
                      generalize hL : (⟨l.toArray⟩ : ByteArray) = LL at *
                      have HLL := Lib.hid (show LL.data.toList = l by rw [← hL])
                      clear hL hcl hcc h12 hzL hz12 hz1 ca cb hb t0 t1 t2 t3 t4 tl s0 s1 s2 s3 s4 sl hl
                      set_option maxRecDepth 100000 in go_wp2_with fail
                      with_reducible refine HFX.out.mono ?_
                      rintro e u7 ⟨D, vs, dz, rfl, hpd, hb7⟩
                      have X9 := Lib.hid (X8.out.keep hb7)
                      have HP9 := Lib.hid (HPX8.out.keep hb7)
                      have HPD := Lib.hid hpd
                      clear hb7 hpd p0 p1 pl p2 p3
                      obtain ⟨⟨p0, p1, pl⟩, p2, p3⟩ := HP9.out
                      set_option maxRecDepth 100000 in go_wp2
                      have hfx := Pt.inv_fix HY.out.inv HX.out HYY.out E1.out E2.out HSU.out HSV.out HCAP.out
                      rw [HK.out] at hfx
                      set_option maxRecDepth 100000 in go_roundg (Pt.stars (Pt.fixP m k l).parts)
                      case measure => exact Nat.lt_of_lt_of_eq (Nat.lt_succ_self _) hfx.2.1
                      case rel => exact ⟨D, vs, dz, g, Pt.fixP m k l, rfl, YRel.next HY.out X9.out HP9.out (by rw [← HLL.out]; exact HPD.out) hfx HCC.out HCL.out HST12.out⟩
            · have i1 : ¬ (i : Int) < (m3.length : Int) := by omega
              have hdr : (bs m3).take i = (bs m4).take i := HP.out
              have HDD := Lib.hid (Pt.inv_whole HY.out.inv HX.out HYY.out (by
                rw [List.take_of_length_le (by rw [bs_length]; omega), List.take_of_length_le (by rw [bs_length]; omega)] at hdr
                rw [← PX.out, ← PY.out, hdr]))
              clear hdr
              obtain ⟨⟨p0, p1, pl⟩, p2, p3⟩ := HPX8.out
              obtain ⟨z0, z1, z2, z3, zl⟩ := X8.out.z
              set_option maxRecDepth 100000 in go_wp2
              try rw [Exit.noGoto_ret]
              set_option maxRecDepth 100000 in
              refine bodyPost_ret (v := .tuple #[patV C zs.length cz g, .bool true, .int .i64 0]) (by simp [results, Tryz.results22, go_sem, z0, z1]) rfl ⟨C, zs, cz, g, some m, rfl, X8.out.z.patR HPM8.out _ _, fun _ => HDD.out, fun h => absurd rfl h, ?_⟩
              exact Below.set2 X8.out.below _ (by omega) _ _
end Go.Proofs.YthgcnlhlhipllaaGreatDoor
