/- determined, a component, exchanged. -/
import Derived.Test.YthgcnlhlhipllaaGreatDoorAgrFn
namespace Go.Proofs.YthgcnlhlhipllaaGreatDoor
open Go.RowKit
set_option maxHeartbeats 4000000 in
theorem determined_swap (ex : Bool) (A : Option Addr) (xs : List ByteArray) (c : Nat) (b : Bool) (B : Option Addr) (ys : List ByteArray) (d : Nat) (f : Bool) (r : Pt.Rul) (ex' : Bool) (A' : Option Addr) (xs' : List ByteArray) (c' : Nat) (b' : Bool) (B' : Option Addr) (ys' : List ByteArray) (d' : Nat) (f' : Bool) (r' : Pt.Rul) (i : Nat) (L : Nat) (w : World) (hr : RulR w ex A xs c b B ys d f r) (hq : RulR w ex' A' xs' c' b' B' ys' d' f' r') (h2 : Pt.Two r r') (hi : i < ys.length) (hj : i < ys'.length) (hsame : (bs ys).take i = (bs ys').take i) (hne : ys[i] ≠ ys'[i]) (hz : Pt.Szl 600 L r r') (hL : L ≤ 20000) (hs1 : Pt.isStar ys'[i].data.toList = true) (hs2 : Pt.isStar ys[i].data.toList = false) :
    Calls Tryz.prog 91 #[rulV ex A xs.length c b B ys.length d f, rulV ex' A' xs'.length c' b' B' ys'.length d' f', .int .i64 (i : Int)] w (GivesDet w r r') := by
  obtain ⟨W0, hW0⟩ : ∃ W0, W0 = (((w.alloc (.cells #[.bool ex, .slice A xs.length c, .bool b, .slice B ys.length d, .bool f] 26)).alloc (.cells #[.bool ex', .slice A' xs'.length c', .bool b', .slice B' ys'.length d', .bool f'] 26)).alloc zeroRul).alloc zeroRul := ⟨_, rfl⟩
  have hal : Below w.heap.size w W0 := by rw [hW0]; exact ((((Below.refl _ _).alloc (Nat.le_refl _) _).alloc (by simp) _).alloc (by simp; omega) _).alloc (by simp; omega) _
  have HX0 := Lib.hid (Below.refl W0.heap.size W0)
  have HAL := Lib.hid hal
  have hd0 : DRel w W0 ex A xs c b B ys d f r ex' A' xs' c' b' B' ys' d' f' r' := by
    obtain ⟨q1, q2, q3, q4⟩ := boxesD w ex A xs.length c b B ys.length d f ex' A' xs'.length c' b' B' ys'.length d' f'
    rw [hW0]
    refine ⟨q1, q2, q3, q4, ?_, ?_, ?_⟩
    · rw [← hW0]; exact hr.keep hal
    · rw [← hW0]; exact hq.keep hal
    · rw [← hW0]; exact hal
  have hpr : ∀ x ∈ r.right.parts, Pt.part x = true := Pt.form_parts (Pt.check_ok.1 (Pt.rcheck_zero.1 h2.ca).2.1).1
  have hpq : ∀ x ∈ r'.right.parts, Pt.part x = true := Pt.form_parts (Pt.check_ok.1 (Pt.rcheck_zero.1 h2.cb).2.1).1
  have py : Pt.part ys[i].data.toList = true := hpr _ (by rw [← hr.right.parts, ← bs_get ys i hi]; exact List.getElem_mem _)
  have pq : Pt.part ys'[i].data.toList = true := hpq _ (by rw [← hq.right.parts, ← bs_get ys' i hj]; exact List.getElem_mem _)
  have e1 : r.right.parts = (bs ys).take i ++ ys[i].data.toList :: (bs ys).drop (i + 1) := by
    rw [← hr.right.parts, ← bs_get ys i hi]
    exact Pt.split_at (bs ys) (by rw [bs_length]; exact hi)
  have e2 : r'.right.parts = (bs ys).take i ++ ys'[i].data.toList :: (bs ys').drop (i + 1) := by
    rw [← hq.right.parts, ← bs_get ys' i hj, hsame]
    exact Pt.split_at (bs ys') (by rw [bs_length]; exact hj)
  have hne' : ys[i].data.toList ≠ ys'[i].data.toList := fun e => hne (ba_ext e)
  obtain ⟨g0, o0, hB, hg0, hc0⟩ := hr.right.rd.cells (by omega)
  obtain ⟨g1, o1, hB', hg1, hc1⟩ := hq.right.rd.cells (by omega)
  subst hB hB'
  have ci := hc0 i hi
  have cj := hc1 i hj
  have HCI := Lib.hid (fun (w' : World) (hb : Below w.heap.size w w') => (hb.cell (p := ⟨g0, o0 + i, none⟩) hg0).trans ci)
  have HCJ := Lib.hid (fun (w' : World) (hb : Below w.heap.size w w') => (hb.cell (p := ⟨g1, o1 + i, none⟩) hg1).trans cj)
  have HSA := Lib.hid (fun w => starred_any ys[i] w py)
  have HSB := Lib.hid (fun w => starred_any ys'[i] w pq)
  rw [hs1] at HSB
  rw [hs2] at HSA
  have HS1 := Lib.hid hs1
  have hiz : (i : Int) < (ys.length : Int) := by omega
  have hjz : (i : Int) < (ys'.length : Int) := by omega
  have hst : Pt.star ys[i].data.toList = none := by
    cases h : Pt.star ys[i].data.toList with
    | none => rfl
    | some s =>
      have h3 : Pt.isStar ys[i].data.toList = true := by unfold Pt.isStar; rw [h]; rfl
      rw [hs2] at h3
      cases h3
  have hwp : (⟨bs (ys'.set i ys[i]), r'.right.rest⟩ : Pt.Pat) = ⟨(bs ys).take i ++ ys[i].data.toList :: (bs ys').drop (i + 1), r'.right.rest⟩ := by
    rw [bs_set, Pt.set_at _ _ (by rw [bs_length]; omega), hsame]
  obtain ⟨oo, ho1⟩ : ∃ oo, oo = Pt.nright r' ⟨bs (ys'.set i ys[i]), r'.right.rest⟩ := ⟨_, rfl⟩
  have hnone : oo = none → Pt.AgreeIs r r' none := fun h => by
    rw [h, hwp] at ho1
    exact (Pt.AgreeIs.dead fun p t f1 f2 => Pt.det_dead (h2.swap).left e2 e1 hst ho1.symm f1 f2).swap
  have hsome : ∀ a1, oo = some a1 → ∃ c1, Pt.nleft r a1.left = some c1 ∧ Pt.Nx r r' a1 c1 := fun a1 h => by
    rw [h, hwp] at ho1
    obtain ⟨c1, hc1⟩ := Pt.round_some (h2.swap) e2 e1 hne'.symm hst ho1.symm
    exact ⟨c1, hc1, (Pt.round_nx (h2.swap) e2 e1 hne'.symm hst ho1.symm hc1).swap h2.left.symm⟩
  have HNONE := Lib.hid hnone
  have HSOME := Lib.hid hsome
  have szp : Pt.Szl 600 L r' r := ⟨by rw [← h2.left]; exact hz.left, hz.rb, hz.ra⟩
  have hzL : ∀ {l : List (List UInt8)}, Pt.szc 600 L l → ∀ x ∈ l, x.length ≤ 20000 := fun h x hx => Nat.le_trans (h x hx).1 hL
  have hzw : Pt.szs 50000 (⟨bs (ys'.set i ys[i]), r'.right.rest⟩ : Pt.Pat) := by
    rw [hwp]
    intro x hx
    have h7 := szp.ra
    have h8 := szp.rb
    rw [e2] at h7
    rw [e1] at h8
    rcases List.mem_append.1 hx with hx | hx
    · have := hzL h7 x (List.mem_append_left _ hx); omega
    · rcases List.mem_cons.1 hx with rfl | hx
      · have := hzL h8 _ (List.mem_append_right _ (List.mem_cons_self)); omega
      · have := hzL h7 x (List.mem_append_right _ (List.mem_cons_of_mem _ hx)); omega
  have zl : Pt.szs 100000 r'.left := fun x hx => by have := hzL szp.left x hx; omega
  have zr : Pt.szs 50000 r'.right := fun x hx => by have := hzL szp.ra x hx; omega
  have zl2 : Pt.szs 50000 r.left := fun x hx => by have := hzL szp.left x (by rw [(h2.swap).left]; exact hx); omega
  have zr2 : Pt.szs 100000 r.right := fun x hx => by have := hzL szp.rb x hx; omega
  have za : ∀ a1, oo = some a1 → Pt.szs 50000 a1.left := fun a1 h => by
    obtain ⟨c1, hc1, hn⟩ := hsome a1 h
    have h9 := (hn.sizes 600 (L + 600) (by omega) ⟨fun x hx => ⟨by have := (hz.left x hx).1; omega, (hz.left x hx).2⟩, fun x hx => ⟨by have := (hz.ra x hx).1; omega, (hz.ra x hx).2⟩, fun x hx => ⟨by have := (hz.rb x hx).1; omega, (hz.rb x hx).2⟩⟩).left
    exact fun x hx => by have := (h9 x hx).1; omega
  have n12 : ys'.length ≤ 12 := by
    have := (Pt.check_ok.1 (Pt.rcheck_zero.1 (h2.swap).ca).2.1).2
    have k := hq.right.len
    omega
  have l12 : xs'.length ≤ 12 := by
    have := (Pt.check_ok.1 (Pt.rcheck_zero.1 (h2.swap).ca).1).2
    have k := hq.left.len
    omega
  have ZA := Lib.hid za
  have HNR := Lib.hid (fun (e1 : Bool) (A1 B1 : Option Addr) (c1 d1 : Nat) (b1 f1 : Bool) (g cap : Nat) (w' : World) (hr1 : RulR w' e1 A1 xs' c1 b1 B1 ys' d1 f1 r') (hp1 : PatR w' (some ⟨g, 0, none⟩) (ys'.set i ys[i]) cap f1 ⟨bs (ys'.set i ys[i]), r'.right.rest⟩) => nright_any e1 A1 xs' c1 b1 B1 ys' d1 f1 r' (some ⟨g, 0, none⟩) (ys'.set i ys[i]) cap f1 ⟨bs (ys'.set i ys[i]), r'.right.rest⟩ w' hr1 hp1 zl zr hzw (by omega) (by omega))
  rw [← ho1] at HNR
  have HNL := Lib.hid (fun (a1 : Pt.Rul) (ha1 : oo = some a1) (e2 : Bool) (A2 : Option Addr) (n2 : List ByteArray) (c2 : Nat) (b2 : Bool) (B2 : Option Addr) (m2 : List ByteArray) (d2 : Nat) (f2 : Bool) (C : Option Addr) (zs : List ByteArray) (cz : Nat) (gg : Bool) (w' : World) (hr1 : RulR w' e2 A2 n2 c2 b2 B2 m2 d2 f2 r) (hp1 : PatR w' C zs cz gg a1.left) => nleft_any e2 A2 n2 c2 b2 B2 m2 d2 f2 r C zs cz gg a1.left w' hr1 hp1 zl2 zr2 (za a1 ha1))
  have HLN := Lib.hid (show (ys'.set i ys[i]).length = ys'.length from List.length_set)
  have HN12 := Lib.hid n12
  clear hnone hsome za szp hzL hzw zl zr zl2 zr2 hwp hst ho1
  have HD0 := Lib.hid hd0
  obtain ⟨x1, x2, x3, x4, _, _, _⟩ := hd0
  obtain ⟨⟨t0, t1, t2, t3, t4, tl⟩, t5, t6, t7, t8, t9⟩ := x1
  obtain ⟨⟨s0, s1, s2, s3, s4, sl⟩, s5, s6, s7, s8, s9⟩ := x2
  obtain ⟨z0, z1, z2, z3, z4, z5, z6, z7, z8, z9, zl⟩ := x3
  obtain ⟨y0, y1, y2, y3, y4, y5, y6, y7, y8, y9, yl⟩ := x4
  have c0 := HCI.out W0 hal
  have c1 := HCJ.out W0 hal
  have HWS := Lib.hid (show W0.heap.size = w.heap.size + 1 + 1 + 1 + 1 from by rw [hW0]; simp)
  have HR0 := Lib.hid hr
  have HQ0 := Lib.hid hq
  have H2 := Lib.hid h2
  clear hpr hpq py pq e1 e2 hne hne' hc0 hc1 ci cj hz hs1 hr hq h2 hsame
  subst hW0
  go_enter Tryz.func91, Tryz.ntmps91
  go_wp2_with fail
  generalize (((w.alloc (.cells #[.bool ex, .slice A xs.length c, .bool b, .slice (some ⟨g0, o0, none⟩) ys.length d, .bool f] 26)).alloc (.cells #[.bool ex', .slice A' xs'.length c', .bool b', .slice (some ⟨g1, o1, none⟩) ys'.length d', .bool f'] 26)).alloc zeroRul).alloc zeroRul = W5 at *
  with_reducible refine (HSB.out _).mono ?_
  rintro e u1 ⟨rfl, rfl⟩
  go_upto_region 2 with fail
  go_cut [] (fun wx => DRel w wx ex' A' xs' c' b' (some ⟨g1, o1, none⟩) ys' d' f' r' ex A xs c b (some ⟨g0, o0, none⟩) ys d f r)
  case first =>
    clear z0 z1 z2 z3 z4 z5 z6 z7 z8 z9 zl y0 y1 y2 y3 y4 y5 y6 y7 y8 y9 yl c0 c1
    set_option maxRecDepth 100000 in go_wp2_with fail
    go_meet
    have D := HD0.out
    refine ⟨?_, ?_, ?_, ?_, ?_, ?_, ?_⟩
    · exact (D.x1.over ..).aside (by omega) _ _ _ _ _
    · exact (D.x2.aside (by omega) _ _ _ _ _).over ..
    · exact (D.z.aside (by omega) _ _ _ _ _).aside (by omega) _ _ _ _ _
    · exact (D.y.aside (by omega) _ _ _ _ _).aside (by omega) _ _ _ _ _
    · exact (D.r2.over D.x1.bx _ _ _ _ _).over (D.x2.aside (by omega) _ _ _ _ _).bx _ _ _ _ _
    · exact (D.r1.over D.x1.bx _ _ _ _ _).over (D.x2.aside (by omega) _ _ _ _ _).bx _ _ _ _ _
    · exact Below.set5 (Below.set5 D.below _ (Nat.le_refl _) _ _ _ _ _) _ (by omega) _ _ _ _ _
  case rest =>
    clear t0 t1 t2 t3 t4 tl t5 t6 t7 t8 t9 s0 s1 s2 s3 s4 sl s5 s6 s7 s8 s9 z0 z1 z2 z3 z4 z5 z6 z7 z8 z9 zl y0 y1 y2 y3 y4 y5 y6 y7 y8 y9 yl c0 c1
    obtain ⟨⟨s0, s1, s2, s3, s4, sl⟩, s5, s6, s7, s8, s9⟩ := hcut.x2
    obtain ⟨z0, z1, z2, z3, z4, z5, z6, z7, z8, z9, zl⟩ := hcut.z
    obtain ⟨y0, y1, y2, y3, y4, y5, y6, y7, y8, y9, yl⟩ := hcut.y
    have c0 := HCI.out _ hcut.below
    have HC5 := Lib.hid hcut
    clear hcut
    go_upto_region 3 with fail
    go_cut [27] (fun p27 wx => p27 = .bool false ∧ DRel w wx ex' A' xs' c' b' (some ⟨g1, o1, none⟩) ys' d' f' r' ex A xs c b (some ⟨g0, o0, none⟩) ys d f r)
    case first =>
      go_wp2_with fail
      with_reducible refine (HSA.out _).mono ?_
      rintro e u2 ⟨rfl, rfl⟩
      go_wp2
      go_meet
      exact ⟨rfl, HC5.out⟩
    case rest =>
      clear s0 s1 s2 s3 s4 sl s5 s6 s7 s8 s9 z0 z1 z2 z3 z4 z5 z6 z7 z8 z9 zl y0 y1 y2 y3 y4 y5 y6 y7 y8 y9 yl c0
      obtain ⟨rfl, R⟩ := hcut
      obtain ⟨⟨t0, t1, t2, t3, t4, tl⟩, t5, t6, t7, t8, t9⟩ := R.x1
      obtain ⟨⟨s0, s1, s2, s3, s4, sl⟩, s5, s6, s7, s8, s9⟩ := R.x2
      have HR := Lib.hid R
      have HCP := Lib.hid (rcopied_own _ ys' _ _ r'.right wc R.r1.right (by omega) (by have := HN12.out; omega))
      clear R
      go_wp2_with fail
      with_reducible refine HCP.out.mono ?_
      rintro e u1 ⟨g, cap, rfl, hpw, hfr, hlo, hlt, hb1⟩
      have hb2 : Below wc.heap.size wc (u1.alloc (.cells #[.slice (some ⟨g, 0, none⟩) ys'.length cap, .bool f'] 24)) := hb1.alloc hb1.size _
      have hd6 := HR.out.keep hb2
      obtain ⟨_, _, _, _, _, _, _⟩ := hd6
      have HD6 := Lib.hid (HR.out.keep hb2)
      have HB1 := Lib.hid hb1
      have HPW := Lib.hid hpw
      have HFR := Lib.hid hfr
      have hz2 := hb1.size
      obtain ⟨⟨r0, r1, r2, r3, r4, rl⟩, r5, r6, r7, r8, r9⟩ := HD6.out.x2
      have ce := HCI.out _ HD6.out.below
      have cd : (u1.alloc (.cells #[.slice (some ⟨g, 0, none⟩) ys'.length cap, .bool f'] 24)).cell? ⟨g, i, none⟩ = some (.string ys'[i]) := by
        rw [show (⟨g, i, none⟩ : Addr) = ⟨g, 0 + i, none⟩ from by rw [Nat.zero_add]]
        obtain ⟨g', o', hA, hg', hc'⟩ := (hpw.keep ((Below.refl _ _).alloc (Nat.le_refl _) (.cells #[.slice (some ⟨g, 0, none⟩) ys'.length cap, .bool f'] 24))).rd.cells (by omega)
        injection hA with hA
        injection hA with h1 h2 _
        subst h1
        subst h2
        exact hc' i (by omega)
      have cf : (u1.alloc (.cells #[.slice (some ⟨g, 0, none⟩) ys'.length cap, .bool f'] 24)).frozen? ⟨g, i, none⟩ = false := by
        exact (((Below.refl u1.heap.size u1).alloc (Nat.le_refl _) _).frozen (p := ⟨g, i, none⟩) hlt).trans (hfr _)
      obtain ⟨q0, q1, ql⟩ := PBox.new u1 (some ⟨g, 0, none⟩) ys'.length cap f'
      clear hpw hfr hb1 hb2 t0 t1 t2 t3 t4 tl t5 t6 t7 t8 t9 s0 s1 s2 s3 s4 sl s5 s6 s7 s8 s9
      go_upto_region 6 with fail
      generalize hW6 : u1.alloc (.cells #[.slice (some ⟨g, 0, none⟩) ys'.length cap, .bool f'] 24) = W6 at *
      have hb6 : Below wc.heap.size wc W6 := by rw [← hW6]; exact HB1.out.alloc HB1.out.size _
      have HB6 := Lib.hid hb6
      have HPB := Lib.hid (show PBox W6 u1.heap.size (some ⟨g, 0, none⟩) ys'.length cap f' from ⟨q0, q1, ql⟩)
      have HP6 := Lib.hid (show PatR W6 (some ⟨g, 0, none⟩) ys' cap f' r'.right from by rw [← hW6]; exact HPW.out.keep ((Below.refl _ _).alloc (Nat.le_refl _) _))
      have hgi : (i : Int) < (ys'.length : Int) := by omega
      clear hW6 hb6
      go_cut [] (fun wx => DRel w wx ex' A' xs' c' b' (some ⟨g1, o1, none⟩) ys' d' f' r' ex A xs c b (some ⟨g0, o0, none⟩) ys d f r ∧ Below wc.heap.size wc wx ∧ PBox wx u1.heap.size (some ⟨g, 0, none⟩) ys'.length cap f' ∧ PatR wx (some ⟨g, 0, none⟩) (ys'.set i ys[i]) cap f' ⟨bs (ys'.set i ys[i]), r'.right.rest⟩)
      case first =>
        go_region
        all_goals go_wp2
        all_goals go_meet
        all_goals
          have hbw : Below wc.heap.size wc ((W6.setCell ⟨g, i, none⟩ (.string ys[i])).drew) := below_drew (HB6.out.setCell (p := ⟨g, i, none⟩) hlo _)
          refine ⟨HR.out.keep hbw, hbw, ?_, ?_⟩
          · exact ⟨by rw [← q0]; exact World.cell?_setCell_other _ _ _ _ (by intro e; injection e with e1 _ _; omega), by rw [← q1]; exact World.cell?_setCell_other _ _ _ _ (by intro e; injection e with e1 _ _; omega), by simpa [World.setCell, World.drew] using ql⟩
          · exact ⟨(HP6.out.rd.setAt i (by omega) _).more (by simp [World.setCell, World.drew]), rfl, HP6.out.rest, by rw [List.length_set]; exact HP6.out.le, HP6.out.cm, (fun h => by cases h), fun x hx => by
              rcases List.mem_or_eq_of_mem_set hx with hx | hx
              · exact HP6.out.sz x hx
              · rw [hx]; exact HR0.out.right.sz _ (List.getElem_mem _)⟩
      case rest =>
        obtain ⟨D7, B7, P7, Q7⟩ := hcut
        obtain ⟨⟨r0, r1, r2, r3, r4, rl⟩, r5, r6, r7, r8, r9⟩ := D7.x1
        obtain ⟨p0, p1, pl⟩ := P7
        have hn1 := HNR.out _ _ _ _ _ _ _ g cap wc D7.r1 Q7
        rw [HLN.out] at hn1
        have HN1 := Lib.hid hn1
        have HD7 := Lib.hid D7
        clear hn1 D7 B7 Q7 q0 q1 ql HNR HSA HSB cd cf ce
        go_upto_region 7 with fail
        go_cut [10] (fun p10 wx => ∃ (e3 : Bool) (A3 : Option Addr) (n3 : List ByteArray) (c3 : Nat) (b3 : Bool) (B3 : Option Addr) (m3 : List ByteArray) (d3 : Nat) (f3 : Bool), p10 = .bool oo.isSome ∧ DRel w wx e3 A3 n3 c3 b3 B3 m3 d3 f3 (oo.getD Pt.zeroR) ex A xs c b (some ⟨g0, o0, none⟩) ys d f r)
        case first =>
          set_option maxRecDepth 100000 in go_wp2_with fail
          with_reducible refine HN1.out.mono ?_
          rintro e u2 ⟨e3, A3, n3, c3, b3, B3, m3, d3, f3, rfl, hr3, hb3⟩
          have HD8 := Lib.hid (HD7.out.keep hb3)
          have HR3 := Lib.hid hr3
          obtain ⟨⟨k0, k1, k2, k3, k4, kl⟩, k5, k6, k7, k8, k9⟩ := HD8.out.x1
          clear hb3 hr3 r0 r1 r2 r3 r4 rl r5 r6 r7 r8 r9 p0 p1 pl
          set_option maxRecDepth 100000 in go_wp2_with fail
          go_meet
          exact ⟨e3, A3, n3, c3, b3, B3, m3, d3, f3, rfl, ⟨HD8.out.x1.over .., HD8.out.x2.aside (by omega) _ _ _ _ _, HD8.out.z.aside (by omega) _ _ _ _ _, HD8.out.y.aside (by omega) _ _ _ _ _, HR3.out.over HD8.out.x1.bx _ _ _ _ _, HD8.out.r2.over HD8.out.x1.bx _ _ _ _ _, Below.set5 HD8.out.below _ (Nat.le_refl _) _ _ _ _ _⟩⟩
        case rest =>
          obtain ⟨e3, A3, n3, c3, b3, B3, m3, d3, f3, rfl, D9⟩ := hcut
          clear r0 r1 r2 r3 r4 rl r5 r6 r7 r8 r9 p0 p1 pl HN1
          cases oo with
          | none =>
            have HDEAD := Lib.hid (HNONE.out rfl)
            obtain ⟨z0, z1, z2, z3, z4, z5, z6, z7, z8, z9, zl⟩ := D9.z
            obtain ⟨y0, y1, y2, y3, y4, y5, y6, y7, y8, y9, yl⟩ := D9.y
            have HD9 := Lib.hid D9
            clear D9 HNL HSOME HNONE ZA
            simp only [Option.isSome_none]

            set_option maxRecDepth 100000 in go_wp2
            refine bodyPost_ret (v := .tuple #[rulV false none 0 0 false none 0 0 false, rulV false none 0 0 false none 0 0 false, .bool false]) (by simp [results, Tryz.results91, go_sem, z0, z1, z2, z3, z4, y0, y1, y2, y3, y4]) rfl ⟨false, none, [], 0, false, none, [], 0, false, Pt.zeroR, false, none, [], 0, false, none, [], 0, false, Pt.zeroR, false, rfl, rulR_zero _, rulR_zero _, fun _ => HDEAD.out, fun h => (by cases h), ?_⟩
            exact Below.set5 (Below.set5 HD9.out.below _ (by omega) _ _ _ _ _) _ (by omega) _ _ _ _ _
          | some a1 =>
            obtain ⟨c9, hc9, hnx⟩ := HSOME.out a1 rfl
            have hl1 := HNL.out a1 rfl _ _ _ _ _ _ _ _ _ A3 n3 c3 b3 wc D9.r2 D9.r1.left
            rw [hc9] at hl1
            have HL1 := Lib.hid hl1
            have HNX := Lib.hid hnx
            obtain ⟨⟨r0, r1, r2, r3, r4, rl⟩, r5, r6, r7, r8, r9⟩ := D9.x1
            obtain ⟨⟨k0, k1, k2, k3, k4, kl⟩, k5, k6, k7, k8, k9⟩ := D9.x2
            have HD9 := Lib.hid D9
            clear hl1 D9 HNL HSOME HNONE ZA hnx hc9
            simp only [Option.isSome_some]
            go_upto_region 10 with fail
            go_cut [10] (fun p10 wx => ∃ (e4 : Bool) (A4 : Option Addr) (n4 : List ByteArray) (c4 : Nat) (b4 : Bool) (B4 : Option Addr) (m4 : List ByteArray) (d4 : Nat) (f4 : Bool), p10 = .bool true ∧ DRel w wx e3 A3 n3 c3 b3 B3 m3 d3 f3 a1 e4 A4 n4 c4 b4 B4 m4 d4 f4 c9)
            case first =>
              set_option maxRecDepth 100000 in go_wp2_with fail
              with_reducible refine HL1.out.mono ?_
              rintro e u2 ⟨e4, A4, n4, c4, b4, B4, m4, d4, f4, rfl, hr4, hb4⟩
              have HD8 := Lib.hid (HD9.out.keep hb4)
              have HR4 := Lib.hid hr4
              obtain ⟨⟨q0, q1, q2, q3, q4, ql⟩, q5, q6, q7, q8, q9⟩ := HD8.out.x2
              clear hb4 hr4 r0 r1 r2 r3 r4 rl r5 r6 r7 r8 r9 k0 k1 k2 k3 k4 kl k5 k6 k7 k8 k9
              set_option maxRecDepth 100000 in go_wp2_with fail
              go_meet
              exact ⟨e4, A4, n4, c4, b4, B4, m4, d4, f4, rfl, ⟨HD8.out.x1.aside (by omega) _ _ _ _ _, HD8.out.x2.over .., HD8.out.z.aside (by omega) _ _ _ _ _, HD8.out.y.aside (by omega) _ _ _ _ _, HD8.out.r1.over HD8.out.x2.bx _ _ _ _ _, HR4.out.over HD8.out.x2.bx _ _ _ _ _, Below.set5 HD8.out.below _ (by omega) _ _ _ _ _⟩⟩
            case rest =>
              obtain ⟨e4, A4, n4, c4, b4, B4, m4, d4, f4, rfl, D11⟩ := hcut
              clear r0 r1 r2 r3 r4 rl r5 r6 r7 r8 r9 k0 k1 k2 k3 k4 kl k5 k6 k7 k8 k9 HL1
              obtain ⟨⟨r0, r1, r2, r3, r4, rl⟩, r5, r6, r7, r8, r9⟩ := D11.x1
              obtain ⟨⟨k0, k1, k2, k3, k4, kl⟩, k5, k6, k7, k8, k9⟩ := D11.x2
              obtain ⟨z0, z1, z2, z3, z4, z5, z6, z7, z8, z9, zl⟩ := D11.z
              obtain ⟨y0, y1, y2, y3, y4, y5, y6, y7, y8, y9, yl⟩ := D11.y
              have HD := Lib.hid D11
              clear D11
              set_option maxRecDepth 100000 in go_wp2
              set_option maxRecDepth 100000 in go_region
              set_option maxRecDepth 100000 in go_wp2
              refine bodyPost_ret (v := .tuple #[rulV e3 A3 n3.length c3 b3 B3 m3.length d3 f3, rulV e4 A4 n4.length c4 b4 B4 m4.length d4 f4, .bool true]) (by simp [results, Tryz.results91, go_sem, z0, z1, z2, z3, z4, y0, y1, y2, y3, y4]) rfl ⟨e3, A3, n3, c3, b3, B3, m3, d3, f3, a1, e4, A4, n4, c4, b4, B4, m4, d4, f4, c9, true, rfl, ?_, ?_, (fun h => (by cases h)), fun _ => HNX.out, ?_⟩
              · exact ((HD.out.r1.grow5 _ _ _ _ _ _ HD.out.z).grow5 _ _ _ _ _ _ (HD.out.y.aside (by omega) _ _ _ _ _)).keep (below_drew (Below.refl _ _))
              · exact ((HD.out.r2.grow5 _ _ _ _ _ _ HD.out.z).grow5 _ _ _ _ _ _ (HD.out.y.aside (by omega) _ _ _ _ _)).keep (below_drew (Below.refl _ _))
              · exact below_drew (Below.set5 (Below.set5 HD.out.below _ (by omega) _ _ _ _ _) _ (by omega) _ _ _ _ _)
end Go.Proofs.YthgcnlhlhipllaaGreatDoor
