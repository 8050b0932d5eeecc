/- The contracts of the reference's Copy (memory of the call's own) and Fix. -/
import Derived.Test.YthgcnlhlhipllaaGreatDoorAgrTop
import Derived.Test.YthgcnlhlhipllaaGreatDoorAgrMath3
namespace Go.Proofs.YthgcnlhlhipllaaGreatDoor
open Go.RowKit

theorem ZPat.stored {w : World} {g q : Nat} (h : ZPat w g) (hq : q ≠ g) (i : Nat) (u : Value) : ZPat (w.setCell ⟨q, i, none⟩ u) g :=
  ⟨(World.cell?_setCell_other _ _ _ _ (by intro e; injection e with e1 _ _; exact hq e1)).trans h.c0, (World.cell?_setCell_other _ _ _ _ (by intro e; injection e with e1 _ _; exact hq e1)).trans h.c1, by rw [World.frozen?_setCell]; exact h.f0, by rw [World.frozen?_setCell]; exact h.f1, by simpa [World.setCell] using h.lt⟩
theorem slice_inj {A A' : Option Addr} {n c n' c' : Nat} (h : Value.slice A n c = .slice A' n' c') : A = A' ∧ c = c' := by
  injection h with h1 _ h3
  exact ⟨h1, h3⟩
theorem own_block {w : World} {base : Nat} {v : Value} {xs : List ByteArray} (h : OwnS w base v xs) (hl : 1 ≤ xs.length) : ∃ g cap, v = .slice (some ⟨g, 0, none⟩) xs.length cap ∧ base ≤ g ∧ g < w.heap.size ∧ ∀ j, w.frozen? ⟨g, j, none⟩ = false := by
  have h0 := h
  rcases h.2 with ⟨hv, hn⟩ | ⟨g, cap, cur, hv, hbg, hg, _⟩
  · omega
  · subst hv
    exact ⟨g, cap, rfl, hbg, (Array.getElem?_eq_some_iff.1 hg).1, fun j => World.ownsRow.frozenAt h0 j⟩
set_option maxHeartbeats 4000000 in
theorem qcopy_own (A : Option Addr) (xs : List ByteArray) (c : Nat) (b : Bool) (p : Pt.Pat) (w : World) (hp : PatR w A xs c b p) (h1 : 1 ≤ xs.length) (hN : xs.length ≤ 1000000) :
    Calls Tryz.prog 95 #[patV A xs.length c b] w (fun e w' => ∃ g cap, e = .returned (patV (some ⟨g, 0, none⟩) xs.length cap b) ∧ PatR w' (some ⟨g, 0, none⟩) xs cap b p ∧ (∀ j, w'.frozen? ⟨g, j, none⟩ = false) ∧ w.heap.size ≤ g ∧ g < w'.heap.size ∧ Below w.heap.size w w') := by
  obtain ⟨W0, hW0⟩ : ∃ W0, W0 = (w.alloc (.cells #[.slice A xs.length c, .bool b] 24)).alloc (.cells #[.slice none 0 0, .bool false] 24) := ⟨_, rfl⟩
  have halloc : Below w.heap.size w W0 := by rw [hW0]; exact ((Below.refl _ _).alloc (Nat.le_refl _) _).alloc (by simp) _
  have HRD := Lib.hid ((hp.keep halloc).rd)
  obtain ⟨c0, c1, c2, c3⟩ := box2_cells (w' := W0) (w := w) (t := 24) (by rw [← hW0]; exact Below.refl _ _)
  have f0 : W0.frozen? ⟨w.heap.size + 1, 0, none⟩ = false := by
    subst hW0
    simp
  have f1 : W0.frozen? ⟨w.heap.size + 1, 1, none⟩ = false := by
    subst hW0
    simp
  have hz : w.heap.size + 1 < W0.heap.size := by rw [hW0]; simp
  have hz2 : w.heap.size + 1 + 1 ≤ W0.heap.size := by omega
  have hz' : w.heap.size < W0.heap.size := by omega
  have HP := Lib.hid hp
  have HAL := Lib.hid halloc
  obtain ⟨n, hn⟩ : ∃ n, n = xs.length := ⟨_, rfl⟩
  have HNN := Lib.hid hN
  have H1 := Lib.hid h1
  rw [← hn] at hW0 c0 ⊢
  have HN := Lib.hid hn
  clear hp halloc hN hn h1
  go_enter Tryz.func95, Tryz.ntmps95
  go_wp2_with fail
  generalize hwg : (w.alloc (.cells #[.slice A n c, .bool b] 24)).alloc (.cells #[.slice none 0 0, .bool false] 24) = W
  have hWW : W = W0 := by rw [← hwg, hW0]
  subst hWW
  clear hwg hW0
  go_region_held3 (fun w' => w'.cell? ⟨w.heap.size, 0, none⟩ = some (.slice A n c) ∧ w'.cell? ⟨w.heap.size, 1, none⟩ = some (.bool b))
    (first | exact ⟨(hb.cell (p := ⟨w.heap.size, 0, none⟩) (by show w.heap.size < w.heap.size + 1 + 1; omega)).trans c0, (hb.cell (p := ⟨w.heap.size, 1, none⟩) (by show w.heap.size < w.heap.size + 1 + 1; omega)).trans c1⟩ | go_keep)
    ((refine step_append_ss rfl _ _ rfl (w.heap.size + 1 + 1) (.slice none 0 0) [] rfl (OwnS.empty _ _) A xs n c HN.out rfl HRD.out HP.out.nil (by simpa using HNN.out) (by first | omega | (simp; omega)) ?_; intro v' w' hown hb
      have k2 := (hb.cell (p := ⟨w.heap.size + 1, 0, none⟩) (by show w.heap.size + 1 < w.heap.size + 1 + 1; omega)).trans c2
      have k3 := (hb.cell (p := ⟨w.heap.size + 1, 1, none⟩) (by show w.heap.size + 1 < w.heap.size + 1 + 1; omega)).trans c3
      have k4 := (hb.frozen (p := ⟨w.heap.size + 1, 0, none⟩) (by show w.heap.size + 1 < w.heap.size + 1 + 1; omega)).trans f0
      have k5 := (hb.frozen (p := ⟨w.heap.size + 1, 1, none⟩) (by show w.heap.size + 1 < w.heap.size + 1 + 1; omega)).trans f1
      obtain ⟨g, c', rfl, hgl, hgs, hfz⟩ := own_block hown (by rw [List.nil_append]; have := H1.out; omega)
      obtain ⟨A', c'', hvv, hf1, hf2, hf3, hf4⟩ := hown.form
      obtain ⟨rfl, rfl⟩ := slice_inj hvv
      have HGL := Lib.hid hgl
      have HGS := Lib.hid hgs
      have HFZ := Lib.hid hfz
      clear hvv hgl hgs hfz
      have F1 := Lib.hid hf1
      have F2 := Lib.hid hf2
      have F3 := Lib.hid hf3
      have F4 := Lib.hid hf4
      clear hf1 hf2 hf3 hf4 hown))
  go_wp2
  refine bodyPost_ret (v := patV (some ⟨g, 0, none⟩) n c' b) (by simp [results, Tryz.results95, go_sem, k2, k3, HN.out]) rfl ⟨g, c', rfl, ?_, ?_, ?_, ?_, ?_⟩
  · rw [List.nil_append] at F1 F3
    have h1 : PatR w' (some ⟨g, 0, none⟩) xs c' b p := ⟨F3.out, HP.out.parts, HP.out.rest, F1.out, F2.out, F4.out, HP.out.sz⟩
    exact h1.store2 _ _ _ _ _ k2 k3 (fun _ h => by cases h) (fun _ h => by cases h)
  · intro j
    rw [World.frozen?_setCell, World.frozen?_setCell]
    exact HFZ.out j
  · have := HGL.out
    omega
  · have := HGS.out
    simpa [World.setCell] using this
  · have hb5 : Below w.heap.size w w' := HAL.out.trans (((Below.refl w.heap.size W).trans (show Below w.heap.size W W.drew from ⟨rfl, rfl, rfl, Nat.le_refl _, fun _ _ => rfl⟩)).trans (hb.mono (by omega)))
    exact (hb5.setCell (p := ⟨w.heap.size + 1, 0, none⟩) (by simp) _).setCell (p := ⟨w.heap.size + 1, 1, none⟩) (by simp) _

set_option maxHeartbeats 4000000 in
theorem qfix_any (A : Option Addr) (xs : List ByteArray) (c : Nat) (b : Bool) (p : Pt.Pat) (k0 : Nat) (cc : ByteArray) (w : World) (hp : PatR w A xs c b p) (h1 : 1 ≤ xs.length) (hN : xs.length ≤ 1000) (hsz : ∀ x ∈ xs, x.size ≤ 1000000) (hcc : cc.size ≤ 1000000) (hk : k0 ≤ 1000) :
    Calls Tryz.prog 56 #[patV A xs.length c b, .int .i64 (k0 : Int), .string cc] w (fun e w' => ∃ B ys d, e = .returned (patV B ys.length d b) ∧ PatR w' B ys d b (Pt.fixP p k0 cc.data.toList) ∧ Below w.heap.size w w') := by
  obtain ⟨W0, hW0⟩ : ∃ W0, W0 = (w.alloc (patObj A xs.length c b)).alloc (patObj none 0 0 false) := ⟨_, rfl⟩
  have hal : Below w.heap.size w W0 := by rw [hW0]; exact ((Below.refl _ _).alloc (Nat.le_refl _) _).alloc (by simp) _
  have HAL := Lib.hid hal
  have hbx : PBox W0 w.heap.size A xs.length c b := by rw [hW0]; exact (PBox.new ..).keep ((Below.refl _ _).alloc (Nat.le_refl _) _)
  have hzx : ZPat W0 (w.heap.size + 1) := by
    have h := ZPat.new (w.alloc (patObj A xs.length c b))
    rw [show (w.alloc (patObj A xs.length c b)).heap.size = w.heap.size + 1 by simp] at h
    rw [hW0]; exact h
  have HZ := Lib.hid hzx
  have HCP := Lib.hid (qcopy_own A xs c b p W0 (hp.keep hal) h1 (by omega))
  have HSZ := Lib.hid hsz
  have HP := Lib.hid hp
  have HWS := Lib.hid (show W0.heap.size = w.heap.size + 1 + 1 from by rw [hW0]; simp)
  obtain ⟨t0, t1, tl⟩ := hbx
  obtain ⟨z0, z1, z2, z3, zl⟩ := hzx
  have hN2 : (xs.length : Int) ≤ 1000 := by omega
  clear hp hsz hal
  subst hW0
  go_enter Tryz.func56, Tryz.ntmps56
  go_wp2_with fail
  generalize (w.alloc (patObj A xs.length c b)).alloc (patObj none 0 0 false) = W5 at *
  with_reducible refine HCP.out.mono ?_
  rintro e u1 ⟨g, cap, rfl, hpw, hfr, hlo, hlt, hb1⟩
  have ha : Below u1.heap.size u1 (u1.alloc (.cells #[.slice (some ⟨g, 0, none⟩) xs.length cap, .bool b] 24)) := (Below.refl _ _).alloc (Nat.le_refl _) _
  have hP2 := hpw.keep ha
  have hZ2 := (HZ.out.keep hb1).keep ha
  have hF2 : ∀ j, (u1.alloc (.cells #[.slice (some ⟨g, 0, none⟩) xs.length cap, .bool b] 24)).frozen? ⟨g, j, none⟩ = false := fun j => (ha.frozen (p := ⟨g, j, none⟩) hlt).trans (hfr j)
  have hX2 := PBox.new u1 (some ⟨g, 0, none⟩) xs.length cap b
  have hB2 : Below w.heap.size w (u1.alloc (.cells #[.slice (some ⟨g, 0, none⟩) xs.length cap, .bool b] 24)) := (HAL.out.trans (hb1.mono HAL.out.size)).alloc (by have := HAL.out.size; have := hb1.size; omega) _
  have hws := HWS.out
  have hgw : w.heap.size + 1 < g := by omega
  clear hpw hfr hb1 ha t0 t1 tl z0 z1 z2 z3 zl
  go_upto_region 2 with fail
  generalize u1.alloc (.cells #[.slice (some ⟨g, 0, none⟩) xs.length cap, .bool b] 24) = W2 at *
  obtain ⟨g', o', hA, hg', hc'⟩ := hP2.rd.cells (by omega)
  injection hA with hA
  injection hA with e1 e2 _
  subst e1
  subst e2
  have HC := Lib.hid (show ∀ j (h : j < xs.length), W2.cell? ⟨g, j, none⟩ = some (.string xs[j]) from fun j h => by have := hc' j h; rwa [Nat.zero_add] at this)
  have HF := Lib.hid hF2
  have HP2 := Lib.hid hP2
  have HZ2 := Lib.hid hZ2
  have HX2 := Lib.hid hX2
  have HB2 := Lib.hid hB2
  obtain ⟨q0, q1, ql⟩ := hX2
  obtain ⟨z0, z1, z2, z3, zl⟩ := hZ2
  clear hc' hF2 hP2 hB2 hws
  go_wp2
  go_loopg [1, 17] xs.length (fun gg s1 s17 wx => ∃ (i k : Nat), i + gg = xs.length ∧ s17 = .int .i64 (i : Int) ∧ s1 = .int .i64 (k : Int) ∧ k ≤ 1000 ∧ wx = W2 ∧ Aside (Pt.fixL (bs xs) k0 cc.data.toList = (bs xs).take i ++ Pt.fixL ((bs xs).drop i) k cc.data.toList))
  case atStart => exact ⟨0, k0, by omega, rfl, rfl, hk, rfl, (show Aside _ from by simp [Aside])⟩
  case round =>
    obtain ⟨i, k, hi, rfl, rfl, hk2, rfl, HA⟩ := hrel
    by_cases hin : i < xs.length
    · have i1 : (i : Int) < (xs.length : Int) := by omega
      have ci := HC.out i hin
      have cf := HF.out i
      have HST := Lib.hid (fun w => rstar_any xs[i] w (by have := HSZ.out xs[i] (List.getElem_mem hin); unfold maxLen; omega))
      have hdr : (bs xs).drop i = xs[i].data.toList :: (bs xs).drop (i + 1) := by
        rw [← bs_get xs i hin]
        exact List.drop_eq_getElem_cons (by rw [bs_length]; exact hin)
      have htk : (bs xs).take (i + 1) = (bs xs).take i ++ [xs[i].data.toList] := by
        rw [← bs_get xs i hin]
        exact (List.take_append_getElem (l := bs xs) (i := i) (by rw [bs_length]; exact hin)).symm
      have HDR := Lib.hid hdr
      have HTK := Lib.hid htk
      clear hdr htk
      cases hs : Pt.star xs[i].data.toList with
      | none =>
        rw [hs] at HST
        unfold StarRes at HST
        simp only [Option.getD_none, Option.isSome_none] at HST
        have HS := Lib.hid hs
        clear hs
        go_wp2_with fail
        with_reducible refine (HST.out _).mono ?_
        rintro e u2 ⟨rfl, rfl⟩
        go_wp2
        go_roundg (xs.length - (i + 1))
        case measure => omega
        case rel =>
          refine ⟨i + 1, k, by omega, by go_num, rfl, hk2, rfl, (show Aside _ from ?_)⟩
          have h := HA.out
          rw [HDR.out, Pt.fixL_comp _ _ _ HS.out] at h
          show _ = _
          rw [HTK.out, List.append_assoc]
          exact h
      | some s =>
        rw [hs] at HST
        unfold StarRes at HST
        simp only [Option.getD_some, Option.isSome_some] at HST
        have HS := Lib.hid hs
        have hsl : s.length ≤ 1000000 := by
          have h2 := HSZ.out xs[i] (List.getElem_mem hin)
          have h3 := (Pt.star_some.1 hs).1
          have h4 : xs[i].size = s.length + 1 := by rw [Lib.size_eq, h3]; simp
          omega
        have HSL := Lib.hid hsl
        clear hs hsl
        cases k with
        | zero =>
          have hsz2 : (⟨s.toArray⟩ : ByteArray).size ≤ 1000000 := by rw [size_mk]; exact HSL.out
          generalize hS : (⟨s.toArray⟩ : ByteArray) = S at *
          have HSS := Lib.hid hS
          clear hS
          go_wp2_with fail
          with_reducible refine (HST.out _).mono ?_
          rintro e u2 ⟨rfl, rfl⟩
          set_option maxRecDepth 100000 in go_wp2
          refine bodyPost_ret (v := patV (some ⟨g, 0, none⟩) xs.length cap b) (by simp [results, Tryz.results56, go_sem, z0, z1]) rfl ⟨some ⟨g, 0, none⟩, xs.set i (cc ++ S), cap, by rw [List.length_set], ?_, ?_⟩
          · refine (HZ2.out.stored (q := g) (by omega) i _).patR ?_ _ _
            have hyd : (cc ++ S).data.toList = cc.data.toList ++ s := by rw [ByteArray.data_append, Array.toList_append, ← HSS.out]
            have hys : (cc ++ S).size ≤ maxLen := by
              rw [Lib.size_eq, hyd, List.length_append, ← Lib.size_eq]
              have := HSL.out
              unfold maxLen
              omega
            refine ⟨(HP2.out.rd.setAt i hin _).more (by simp [World.setCell]), ?_, HP2.out.rest, by rw [List.length_set]; exact HP2.out.le, HP2.out.cm, HP2.out.nil, fun x hx => ?_⟩
            · show bs (xs.set i (cc ++ S)) = Pt.fixL p.parts k0 cc.data.toList
              have h := HA.out
              rw [HDR.out, Pt.fixL_zero _ _ HS.out] at h
              rw [← HP2.out.parts, h, bs_set, hyd, Pt.set_at _ _ (by rw [bs_length]; exact hin)]
            · rcases List.mem_or_eq_of_mem_set hx with hx | hx
              · exact HP2.out.sz x hx
              · rw [hx]; exact hys
          · exact Below.set2 (HB2.out.setCell (p := ⟨g, i, none⟩) (by show w.heap.size ≤ g; omega) _) _ (by omega) _ _
        | succ k =>
          have k1 : ((k + 1 : Nat) : Int) ≠ 0 := by omega
          have k2 : (((k + 1 : Nat) : Int) == 0) = false := by rw [beq_eq_false_iff_ne]; omega
          go_wp2_with fail
          with_reducible refine (HST.out _).mono ?_
          rintro e u2 ⟨rfl, rfl⟩
          go_wp2
          go_roundg (xs.length - (i + 1))
          case measure => omega
          case rel =>
            refine ⟨i + 1, k, by omega, by go_num, by go_num, by omega, rfl, (show Aside _ from ?_)⟩
            have h := HA.out
            rw [HDR.out, Pt.fixL_succ _ _ _ HS.out] at h
            show _ = _
            rw [HTK.out, List.append_assoc]
            exact h
    · have i1 : ¬ (i : Int) < (xs.length : Int) := by omega
      set_option maxRecDepth 100000 in go_wp2
      refine bodyPost_ret (v := patV (some ⟨g, 0, none⟩) xs.length cap b) (by simp [results, Tryz.results56, go_sem, z0, z1]) rfl ⟨some ⟨g, 0, none⟩, xs, cap, rfl, ?_, Below.set2 HB2.out _ (by omega) _ _⟩
      refine HZ2.out.patR ?_ _ _
      have h := HA.out
      rw [List.take_of_length_le (by rw [bs_length]; omega), List.drop_eq_nil_of_le (by rw [bs_length]; omega), show Pt.fixL [] k cc.data.toList = [] from rfl, List.append_nil] at h
      refine ⟨HP2.out.rd, ?_, HP2.out.rest, HP2.out.le, HP2.out.cm, HP2.out.nil, HP2.out.sz⟩
      show bs xs = Pt.fixL p.parts k0 cc.data.toList
      rw [← HP2.out.parts, h]
end Go.Proofs.YthgcnlhlhipllaaGreatDoor
