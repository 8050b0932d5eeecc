/- determined, two stars. -/
import Derived.Test.YthgcnlhlhipllaaGreatDoorAgrFn
namespace Go.Proofs.YthgcnlhlhipllaaGreatDoor
open Go.RowKit
set_option maxHeartbeats 16000000 in
theorem determined_stars (ex : Bool) (A : Option Addr) (xs : List ByteArray) (c : Nat) (b : Bool) (B : Option Addr) (ys : List ByteArray) (d : Nat) (f : Bool) (r : Pt.Rul) (ex' : Bool) (A' : Option Addr) (xs' : List ByteArray) (c' : Nat) (b' : Bool) (B' : Option Addr) (ys' : List ByteArray) (d' : Nat) (f' : Bool) (r' : Pt.Rul) (i : Nat) (L : Nat) (w : World) (hr : RulR w ex A xs c b B ys d f r) (hq : RulR w ex' A' xs' c' b' B' ys' d' f' r') (h2 : Pt.Two r r') (hi : i < ys.length) (hj : i < ys'.length) (hsame : (bs ys).take i = (bs ys').take i) (hne : ys[i] ≠ ys'[i]) (_hz : Pt.Szl 600 L r r') (_hL : L ≤ 20000) (hs1 : Pt.isStar ys'[i].data.toList = true) (hs2 : Pt.isStar ys[i].data.toList = true) :
    Calls Tryz.prog 91 #[rulV ex A xs.length c b B ys.length d f, rulV ex' A' xs'.length c' b' B' ys'.length d' f', .int .i64 (i : Int)] w (GivesDet w r r') := by
  obtain ⟨W0, hW0⟩ : ∃ W0, W0 = (((w.alloc (.cells #[.bool ex, .slice A xs.length c, .bool b, .slice B ys.length d, .bool f] 26)).alloc (.cells #[.bool ex', .slice A' xs'.length c', .bool b', .slice B' ys'.length d', .bool f'] 26)).alloc zeroRul).alloc zeroRul := ⟨_, rfl⟩
  have hal : Below w.heap.size w W0 := by rw [hW0]; exact ((((Below.refl _ _).alloc (Nat.le_refl _) _).alloc (by simp) _).alloc (by simp; omega) _).alloc (by simp; omega) _
  have HX0 := Lib.hid (Below.refl W0.heap.size W0)
  have HAL := Lib.hid hal
  have hd0 : DRel w W0 ex A xs c b B ys d f r ex' A' xs' c' b' B' ys' d' f' r' := by
    obtain ⟨q1, q2, q3, q4⟩ := boxesD w ex A xs.length c b B ys.length d f ex' A' xs'.length c' b' B' ys'.length d' f'
    rw [hW0]
    refine ⟨q1, q2, q3, q4, ?_, ?_, ?_⟩
    · rw [← hW0]; exact hr.keep hal
    · rw [← hW0]; exact hq.keep hal
    · rw [← hW0]; exact hal
  have hpr : ∀ x ∈ r.right.parts, Pt.part x = true := Pt.form_parts (Pt.check_ok.1 (Pt.rcheck_zero.1 h2.ca).2.1).1
  have hpq : ∀ x ∈ r'.right.parts, Pt.part x = true := Pt.form_parts (Pt.check_ok.1 (Pt.rcheck_zero.1 h2.cb).2.1).1
  have py : Pt.part ys[i].data.toList = true := hpr _ (by rw [← hr.right.parts, ← bs_get ys i hi]; exact List.getElem_mem _)
  have pq : Pt.part ys'[i].data.toList = true := hpq _ (by rw [← hq.right.parts, ← bs_get ys' i hj]; exact List.getElem_mem _)
  have e1 : r.right.parts = (bs ys).take i ++ ys[i].data.toList :: (bs ys).drop (i + 1) := by
    rw [← hr.right.parts, ← bs_get ys i hi]
    exact Pt.split_at (bs ys) (by rw [bs_length]; exact hi)
  have e2 : r'.right.parts = (bs ys).take i ++ ys'[i].data.toList :: (bs ys').drop (i + 1) := by
    rw [← hq.right.parts, ← bs_get ys' i hj, hsame]
    exact Pt.split_at (bs ys') (by rw [bs_length]; exact hj)
  have hne' : ys[i].data.toList ≠ ys'[i].data.toList := fun e => hne (ba_ext e)
  obtain ⟨g0, o0, hB, hg0, hc0⟩ := hr.right.rd.cells (by omega)
  obtain ⟨g1, o1, hB', hg1, hc1⟩ := hq.right.rd.cells (by omega)
  subst hB hB'
  have ci := hc0 i hi
  have cj := hc1 i hj
  have HCI := Lib.hid (fun (w' : World) (hb : Below w.heap.size w w') => (hb.cell (p := ⟨g0, o0 + i, none⟩) hg0).trans ci)
  have HCJ := Lib.hid (fun (w' : World) (hb : Below w.heap.size w w') => (hb.cell (p := ⟨g1, o1 + i, none⟩) hg1).trans cj)
  have HSA := Lib.hid (fun w => starred_any ys[i] w py)
  have HSB := Lib.hid (fun w => starred_any ys'[i] w pq)
  rw [hs1] at HSB
  rw [hs2] at HSA
  have HS1 := Lib.hid hs1
  have hiz : (i : Int) < (ys.length : Int) := by omega
  have hjz : (i : Int) < (ys'.length : Int) := by omega
  have hdead : Pt.AgreeIs r r' none := by
    obtain ⟨s1, h1⟩ := Option.isSome_iff_exists.1 (show (Pt.star ys[i].data.toList).isSome = true from hs2)
    obtain ⟨s2, h3⟩ := Option.isSome_iff_exists.1 (show (Pt.star ys'[i].data.toList).isSome = true from hs1)
    exact Pt.AgreeIs.dead fun p t f1 f2 => Pt.agree_stars h2.left e1 e2 h1 h3 hne' f1 f2
  have HDEAD := Lib.hid hdead
  clear hdead
  have HD0 := Lib.hid hd0
  obtain ⟨x1, x2, x3, x4, _, _, _⟩ := hd0
  obtain ⟨⟨t0, t1, t2, t3, t4, tl⟩, t5, t6, t7, t8, t9⟩ := x1
  obtain ⟨⟨s0, s1, s2, s3, s4, sl⟩, s5, s6, s7, s8, s9⟩ := x2
  obtain ⟨z0, z1, z2, z3, z4, z5, z6, z7, z8, z9, zl⟩ := x3
  obtain ⟨y0, y1, y2, y3, y4, y5, y6, y7, y8, y9, yl⟩ := x4
  have c0 := HCI.out W0 hal
  have c1 := HCJ.out W0 hal
  have HWS := Lib.hid (show W0.heap.size = w.heap.size + 1 + 1 + 1 + 1 from by rw [hW0]; simp)
  have HR0 := Lib.hid hr
  have HQ0 := Lib.hid hq
  have H2 := Lib.hid h2
  clear hpr hpq py pq e1 e2 hne hne' hc0 hc1 ci cj _hz hs1 hr hq h2 hsame
  subst hW0
  go_enter Tryz.func91, Tryz.ntmps91
  go_wp2_with fail
  generalize (((w.alloc (.cells #[.bool ex, .slice A xs.length c, .bool b, .slice (some ⟨g0, o0, none⟩) ys.length d, .bool f] 26)).alloc (.cells #[.bool ex', .slice A' xs'.length c', .bool b', .slice (some ⟨g1, o1, none⟩) ys'.length d', .bool f'] 26)).alloc zeroRul).alloc zeroRul = W5 at *
  with_reducible refine (HSB.out _).mono ?_
  rintro e u1 ⟨rfl, rfl⟩
  go_upto_region 2 with fail
  go_cut [] (fun wx => DRel w wx ex' A' xs' c' b' (some ⟨g1, o1, none⟩) ys' d' f' r' ex A xs c b (some ⟨g0, o0, none⟩) ys d f r)
  case first =>
    clear z0 z1 z2 z3 z4 z5 z6 z7 z8 z9 zl y0 y1 y2 y3 y4 y5 y6 y7 y8 y9 yl c0 c1
    set_option maxRecDepth 100000 in go_wp2_with fail
    go_meet
    have D := HD0.out
    refine ⟨?_, ?_, ?_, ?_, ?_, ?_, ?_⟩
    · exact (D.x1.over ..).aside (by omega) _ _ _ _ _
    · exact (D.x2.aside (by omega) _ _ _ _ _).over ..
    · exact (D.z.aside (by omega) _ _ _ _ _).aside (by omega) _ _ _ _ _
    · exact (D.y.aside (by omega) _ _ _ _ _).aside (by omega) _ _ _ _ _
    · exact (D.r2.over D.x1.bx _ _ _ _ _).over (D.x2.aside (by omega) _ _ _ _ _).bx _ _ _ _ _
    · exact (D.r1.over D.x1.bx _ _ _ _ _).over (D.x2.aside (by omega) _ _ _ _ _).bx _ _ _ _ _
    · exact Below.set5 (Below.set5 D.below _ (Nat.le_refl _) _ _ _ _ _) _ (by omega) _ _ _ _ _
  case rest =>
    clear t0 t1 t2 t3 t4 tl t5 t6 t7 t8 t9 s0 s1 s2 s3 s4 sl s5 s6 s7 s8 s9 z0 z1 z2 z3 z4 z5 z6 z7 z8 z9 zl y0 y1 y2 y3 y4 y5 y6 y7 y8 y9 yl c0 c1
    obtain ⟨⟨s0, s1, s2, s3, s4, sl⟩, s5, s6, s7, s8, s9⟩ := hcut.x2
    obtain ⟨z0, z1, z2, z3, z4, z5, z6, z7, z8, z9, zl⟩ := hcut.z
    obtain ⟨y0, y1, y2, y3, y4, y5, y6, y7, y8, y9, yl⟩ := hcut.y
    have c0 := HCI.out _ hcut.below
    have HC5 := Lib.hid hcut
    clear hcut
    go_wp2_with fail
    with_reducible refine (HSA.out _).mono ?_
    rintro e u2 ⟨rfl, rfl⟩
    clear s0 s1 s2 s3 s4 sl s5 s6 s7 s8 s9 c0
    set_option maxRecDepth 100000 in go_wp2
    refine bodyPost_ret (v := .tuple #[rulV false none 0 0 false none 0 0 false, rulV false none 0 0 false none 0 0 false, .bool false]) (by simp [results, Tryz.results91, go_sem, z0, z1, z2, z3, z4, y0, y1, y2, y3, y4]) rfl ⟨false, none, [], 0, false, none, [], 0, false, Pt.zeroR, false, none, [], 0, false, none, [], 0, false, Pt.zeroR, false, rfl, rulR_zero _, rulR_zero _, fun _ => HDEAD.out, fun h => (by cases h), ?_⟩
    exact Below.set5 (Below.set5 HC5.out.below _ (by omega) _ _ _ _ _) _ (by omega) _ _ _ _ _
end Go.Proofs.YthgcnlhlhipllaaGreatDoor
