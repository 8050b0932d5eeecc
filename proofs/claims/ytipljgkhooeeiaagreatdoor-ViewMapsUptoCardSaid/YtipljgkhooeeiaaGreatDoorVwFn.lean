/- Contracts of package view: matches (the program's, the law file's), the closures of Decides and Forward, last, Check of both. -/
import Derived.Test.YtipljgkhooeeiaaGreatDoorOwnVw
import Derived.Test.YtipljgkhooeeiaaGreatDoorVwMath
import Derived.Test.YtipljgkhooeeiaaGreatDoorRegMathAll
import Derived.Test.YtipljgkhooeeiaaGreatDoorPatGoC
import Derived.Deep.LoopGhost
namespace Go.Proofs.YtipljgkhooeeiaaGreatDoor
open Go.RowKit

theorem givesPN_okV {w : World} {o : Option (List (List UInt8))} {e : Ending} {w' : World} (h : GivesPN w o e w') : ∃ v, e = .returned (.tuple #[v, .bool o.isSome]) ∧ Below w.heap.size w w' := by
  unfold GivesPN at h
  cases o with
  | none => obtain ⟨rfl, hb⟩ := h; exact ⟨_, rfl, hb⟩
  | some l => obtain ⟨A, xs, c, rfl, _, _, _, _, _, hb⟩ := h; exact ⟨_, rfl, hb⟩
set_option maxHeartbeats 2000000 in
theorem vmatches_any (A : Option Addr) (xs : List ByteArray) (c : Nat) (b : Bool) (p : Pt.Pat) (s : ByteArray) (w : World) (hp : PatR w A xs c b p) (hs : s.size < 4294967281) (hm : MaxL w) :
    Calls Tryz.prog 83 #[patV A xs.length c b, .string s] w (GivesBB w (Pt.matchP p s.data.toList).isSome) := by
  obtain ⟨W0, hW0⟩ : ∃ W0, W0 = w.alloc (.cells #[.slice A xs.length c, .bool b] 24) := ⟨_, rfl⟩
  have hal : Below w.heap.size w W0 := by rw [hW0]; exact (Below.refl _ _).alloc (Nat.le_refl _) _
  have HAL := Lib.hid hal
  have hbx : PBox W0 w.heap.size A xs.length c b := by rw [hW0]; exact PBox.new ..
  have HM := Lib.hid (match_any2 A xs c b p s W0 (hp.keep hal) hs (hm.keep hal hm.size))
  obtain ⟨t0, t1, tl⟩ := hbx
  generalize Pt.matchP p s.data.toList = o at *
  generalize xs.length = n at *
  clear hp hal
  subst hW0
  go_enter Tryz.func83, Tryz.ntmps83
  go_wp2_with fail
  with_reducible refine HM.out.mono ?_
  intro e w1 hh
  have hx := givesPN_okV hh
  obtain ⟨v, rfl, hb⟩ := hx
  have HB := Lib.hid hb
  clear hb hh
  generalize o.isSome = j at *
  go_wp2
  go_ret
  exact ⟨rfl, HAL.out.trans (HB.out.mono HAL.out.size)⟩
set_option maxHeartbeats 2000000 in
theorem dec1_any (ex : Bool) (A : Option Addr) (xs : List ByteArray) (c : Nat) (b : Bool) (B : Option Addr) (ys : List ByteArray) (d : Nat) (f : Bool) (r : Pt.Rul) (s : ByteArray) (g : Nat) (w : World) (hc : w.cell? ⟨g, 0, none⟩ = some (.string s)) (hg : g < w.heap.size) (hr : RulR w ex A xs c b B ys d f r) (hs : s.size < 4294967281) (hm : MaxL w) :
    Calls Tryz.prog 86 #[rulV ex A xs.length c b B ys.length d f, .pointer (some ⟨g, 0, none⟩)] w (GivesBB w (Pt.Vw.lm r s.data.toList)) := by
  obtain ⟨W0, hW0⟩ : ∃ W0, W0 = w.alloc (rulObj ex A xs.length c b B ys.length d f) := ⟨_, rfl⟩
  have hal : Below w.heap.size w W0 := by rw [hW0]; exact (Below.refl _ _).alloc (Nat.le_refl _) _
  have HAL := Lib.hid hal
  have hby : RBox W0 w.heap.size ex A xs.length c b B ys.length d f := by rw [hW0]; exact RBox.new ..
  have hr0 := hr.keep hal
  have HC := Lib.hid (vmatches_any A xs c b r.left s W0 hr0.left hs (hm.keep hal hm.size))
  obtain ⟨t0, t1, t2, t3, t4, tl⟩ := hby
  have s0 := (hal.cell (p := ⟨g, 0, none⟩) hg).trans hc
  change Calls _ _ _ _ (GivesBB w (Pt.matchP r.left s.data.toList).isSome)
  generalize (Pt.matchP r.left s.data.toList).isSome = v at *
  generalize xs.length = n at *
  generalize ys.length = m at *
  clear hr hr0 hal hc hm
  subst hW0
  go_enter Tryz.func86, Tryz.ntmps86
  go_wp2_with fail
  with_reducible refine HC.out.mono ?_
  rintro e w1 ⟨rfl, hb⟩
  have HB := Lib.hid hb
  clear hb
  go_wp2
  go_ret
  exact ⟨rfl, HAL.out.trans (HB.out.mono HAL.out.size)⟩
set_option maxHeartbeats 2000000 in
theorem fwd1_any (ex : Bool) (A : Option Addr) (xs : List ByteArray) (c : Nat) (b : Bool) (B : Option Addr) (ys : List ByteArray) (d : Nat) (f : Bool) (r : Pt.Rul) (s : ByteArray) (g : Nat) (w : World) (hc : w.cell? ⟨g, 0, none⟩ = some (.string s)) (hg : g < w.heap.size) (hr : RulR w ex A xs c b B ys d f r) (hs : s.size < 4294967281) (hm : MaxL w) :
    Calls Tryz.prog 82 #[rulV ex A xs.length c b B ys.length d f, .pointer (some ⟨g, 0, none⟩)] w (GivesBB w (Pt.Vw.rm r s.data.toList)) := by
  obtain ⟨W0, hW0⟩ : ∃ W0, W0 = w.alloc (rulObj ex A xs.length c b B ys.length d f) := ⟨_, rfl⟩
  have hal : Below w.heap.size w W0 := by rw [hW0]; exact (Below.refl _ _).alloc (Nat.le_refl _) _
  have HAL := Lib.hid hal
  have hby : RBox W0 w.heap.size ex A xs.length c b B ys.length d f := by rw [hW0]; exact RBox.new ..
  have hr0 := hr.keep hal
  have HC := Lib.hid (vmatches_any B ys d f r.right s W0 hr0.right hs (hm.keep hal hm.size))
  obtain ⟨t0, t1, t2, t3, t4, tl⟩ := hby
  have s0 := (hal.cell (p := ⟨g, 0, none⟩) hg).trans hc
  change Calls _ _ _ _ (GivesBB w (Pt.matchP r.right s.data.toList).isSome)
  generalize (Pt.matchP r.right s.data.toList).isSome = v at *
  generalize xs.length = n at *
  generalize ys.length = m at *
  clear hr hr0 hal hc hm
  subst hW0
  go_enter Tryz.func82, Tryz.ntmps82
  go_wp2_with fail
  with_reducible refine HC.out.mono ?_
  rintro e w1 ⟨rfl, hb⟩
  have HB := Lib.hid hb
  clear hb
  go_wp2
  go_ret
  exact ⟨rfl, HAL.out.trans (HB.out.mono HAL.out.size)⟩
set_option maxHeartbeats 2000000 in
theorem last_dec (lb0 : Value) (f : Pt.Rul → Bool) (H : Option Addr) (rl : List RulV) (e : Nat) (w : World) (hr : RdV w H rl e)
    (hf : ∀ (k : Nat) (hk : k < rl.length) (w' : World), Below w.heap.size w w' → Calls Tryz.prog 86 #[rulV rl[k].ex rl[k].A rl[k].xs.length rl[k].c rl[k].b rl[k].B rl[k].ys.length rl[k].d rl[k].f, lb0] w' (GivesBB w' (f rl[k].rul))) :
    Calls Tryz.prog 84 #[.slice H rl.length e, .func (.func 86) #[] #[lb0]] w fun en w' => en = .returned (.int .i64 (Pt.Vw.lastZ f (rl.map RulV.rul))) ∧ Below w.heap.size w w' := by
  have HR := Lib.hid hr
  have HF := Lib.hid hf
  have hcm := hr.cm
  have hle := hr.le
  have hmi : (rl.length : Int) ≤ 9223372036854775807 := by unfold maxLen at hcm; omega
  have HAT := Lib.hid (fun (k : Nat) (hk : k < rl.length) (h : f rl[k].rul = true) (hn : ∀ j (hj : j < rl.length), k < j → f rl[j].rul = false) => Pt.Vw.lastZ_at (f := f) (v := rl.map RulV.rul) (i := k) (by rw [List.length_map]; exact hk) (by rw [List.getElem_map]; exact h) (fun j hj hkj => by rw [List.getElem_map]; exact hn j (by rwa [List.length_map] at hj) hkj))
  have HNO := Lib.hid (fun (hn : ∀ j (hj : j < rl.length), f rl[j].rul = false) => Pt.Vw.lastZ_none (f := f) (v := rl.map RulV.rul) (fun j hj => by rw [List.getElem_map]; exact hn j (by rwa [List.length_map] at hj)))
  generalize Pt.Vw.lastZ f (rl.map RulV.rul) = z at *
  clear hr hf hcm hle
  go_enter Tryz.func84, Tryz.ntmps84
  go_wp2
  go_loopg [5] rl.length (fun gg s5 wx => ∃ (k : Nat), k = gg ∧ k ≤ rl.length ∧ s5 = .int .i64 ((k : Int) - 1) ∧ Below w.heap.size w wx ∧ Aside (∀ j (hj : j < rl.length), k ≤ j → f rl[j].rul = false))
  case atStart => exact ⟨rl.length, rfl, Nat.le_refl _, by go_num, Below.refl _ _, fun j h h' => absurd h (by omega)⟩
  case round =>
    obtain ⟨k0, rfl, hkl, rfl, hbw, HA⟩ := hrel
    have HBW := Lib.hid hbw
    cases k0 with
    | zero =>
      have hz := HNO.out (fun j hj => HA.out j hj (by omega))
      subst hz
      rw [show ((0 : Nat) : Int) - 1 = -1 from rfl]
      clear hbw
      go_wp2
      go_ret
      exact ⟨rfl, HBW.out⟩
    | succ k =>
      rw [show ((k + 1 : Nat) : Int) - 1 = (k : Int) by omega]
      have i1 : (0 : Int) ≤ (k : Int) := Int.natCast_nonneg _
      have hk : k < rl.length := by omega
      obtain ⟨q, o, hA, hq, hcell⟩ := (HR.out.keep hbw).at (by omega)
      subst hA
      obtain ⟨e0, e1, e2, e3, e4⟩ := hcell k hk
      have HC := Lib.hid (HF.out k hk wr hbw)
      clear hcell hbw
      cases hp : f rl[k].rul with
      | true =>
        rw [hp] at HC
        have hz := HAT.out k hk hp (fun j hj hkj => HA.out j hj (by omega))
        subst hz
        clear hp
        go_wp2_with fail
        with_reducible refine HC.out.mono ?_
        rintro e w1 ⟨rfl, hb1⟩
        have HB1 := Lib.hid hb1
        clear hb1
        go_wp2
        go_ret
        exact ⟨rfl, HBW.out.trans (HB1.out.mono HBW.out.size)⟩
      | false =>
        rw [hp] at HC
        have HP := Lib.hid hp
        clear hp
        go_wp2_with fail
        with_reducible refine HC.out.mono ?_
        rintro e w1 ⟨rfl, hb1⟩
        have HB1 := Lib.hid hb1
        clear hb1
        go_wp2
        go_roundg k
        case measure => go_light; omega
        case rel =>
          go_light
          refine ⟨k, rfl, by omega, by go_num, HBW.out.trans (HB1.out.mono HBW.out.size), (show Aside _ from fun j hj hkj => ?_)⟩
          by_cases ej : j = k
          · subst ej; exact HP.out
          · exact HA.out j hj (by omega)
set_option maxHeartbeats 2000000 in
theorem last_fwd (lb0 : Value) (f : Pt.Rul → Bool) (H : Option Addr) (rl : List RulV) (e : Nat) (w : World) (hr : RdV w H rl e)
    (hf : ∀ (k : Nat) (hk : k < rl.length) (w' : World), Below w.heap.size w w' → Calls Tryz.prog 82 #[rulV rl[k].ex rl[k].A rl[k].xs.length rl[k].c rl[k].b rl[k].B rl[k].ys.length rl[k].d rl[k].f, lb0] w' (GivesBB w' (f rl[k].rul))) :
    Calls Tryz.prog 84 #[.slice H rl.length e, .func (.func 82) #[] #[lb0]] w fun en w' => en = .returned (.int .i64 (Pt.Vw.lastZ f (rl.map RulV.rul))) ∧ Below w.heap.size w w' := by
  have HR := Lib.hid hr
  have HF := Lib.hid hf
  have hcm := hr.cm
  have hle := hr.le
  have hmi : (rl.length : Int) ≤ 9223372036854775807 := by unfold maxLen at hcm; omega
  have HAT := Lib.hid (fun (k : Nat) (hk : k < rl.length) (h : f rl[k].rul = true) (hn : ∀ j (hj : j < rl.length), k < j → f rl[j].rul = false) => Pt.Vw.lastZ_at (f := f) (v := rl.map RulV.rul) (i := k) (by rw [List.length_map]; exact hk) (by rw [List.getElem_map]; exact h) (fun j hj hkj => by rw [List.getElem_map]; exact hn j (by rwa [List.length_map] at hj) hkj))
  have HNO := Lib.hid (fun (hn : ∀ j (hj : j < rl.length), f rl[j].rul = false) => Pt.Vw.lastZ_none (f := f) (v := rl.map RulV.rul) (fun j hj => by rw [List.getElem_map]; exact hn j (by rwa [List.length_map] at hj)))
  generalize Pt.Vw.lastZ f (rl.map RulV.rul) = z at *
  clear hr hf hcm hle
  go_enter Tryz.func84, Tryz.ntmps84
  go_wp2
  go_loopg [5] rl.length (fun gg s5 wx => ∃ (k : Nat), k = gg ∧ k ≤ rl.length ∧ s5 = .int .i64 ((k : Int) - 1) ∧ Below w.heap.size w wx ∧ Aside (∀ j (hj : j < rl.length), k ≤ j → f rl[j].rul = false))
  case atStart => exact ⟨rl.length, rfl, Nat.le_refl _, by go_num, Below.refl _ _, fun j h h' => absurd h (by omega)⟩
  case round =>
    obtain ⟨k0, rfl, hkl, rfl, hbw, HA⟩ := hrel
    have HBW := Lib.hid hbw
    cases k0 with
    | zero =>
      have hz := HNO.out (fun j hj => HA.out j hj (by omega))
      subst hz
      rw [show ((0 : Nat) : Int) - 1 = -1 from rfl]
      clear hbw
      go_wp2
      go_ret
      exact ⟨rfl, HBW.out⟩
    | succ k =>
      rw [show ((k + 1 : Nat) : Int) - 1 = (k : Int) by omega]
      have i1 : (0 : Int) ≤ (k : Int) := Int.natCast_nonneg _
      have hk : k < rl.length := by omega
      obtain ⟨q, o, hA, hq, hcell⟩ := (HR.out.keep hbw).at (by omega)
      subst hA
      obtain ⟨e0, e1, e2, e3, e4⟩ := hcell k hk
      have HC := Lib.hid (HF.out k hk wr hbw)
      clear hcell hbw
      cases hp : f rl[k].rul with
      | true =>
        rw [hp] at HC
        have hz := HAT.out k hk hp (fun j hj hkj => HA.out j hj (by omega))
        subst hz
        clear hp
        go_wp2_with fail
        with_reducible refine HC.out.mono ?_
        rintro e w1 ⟨rfl, hb1⟩
        have HB1 := Lib.hid hb1
        clear hb1
        go_wp2
        go_ret
        exact ⟨rfl, HBW.out.trans (HB1.out.mono HBW.out.size)⟩
      | false =>
        rw [hp] at HC
        have HP := Lib.hid hp
        clear hp
        go_wp2_with fail
        with_reducible refine HC.out.mono ?_
        rintro e w1 ⟨rfl, hb1⟩
        have HB1 := Lib.hid hb1
        clear hb1
        go_wp2
        go_roundg k
        case measure => go_light; omega
        case rel =>
          go_light
          refine ⟨k, rfl, by omega, by go_num, HBW.out.trans (HB1.out.mono HBW.out.size), (show Aside _ from fun j hj hkj => ?_)⟩
          by_cases ej : j = k
          · subst ej; exact HP.out
          · exact HA.out j hj (by omega)
set_option maxHeartbeats 2000000 in
theorem vcheck_any (A : Option Addr) (rl : List RulV) (c : Nat) (w : World) (hr : RdV w A rl c) :
    Calls Tryz.prog 76 #[.slice A rl.length c] w fun en w' => en = .returned (.tuple #[.int .i64 ((Pt.Vw.vcheck (rl.map RulV.rul)).1 : Int), .int .i64 ((Pt.Vw.vcheck (rl.map RulV.rul)).2 : Int)]) ∧ Below w.heap.size w w' := by
  have HR := Lib.hid hr
  have hcm := hr.cm
  have hle := hr.le
  have hmi : (rl.length : Int) ≤ 9223372036854775807 := by unfold maxLen at hcm; omega
  have HC0 := Lib.hid (fun (k : Nat) (hk : k < rl.length) (w' : World) (hb : Below w.heap.size w w') => check4_any rl[k].ex rl[k].A rl[k].xs rl[k].c rl[k].b rl[k].B rl[k].ys rl[k].d rl[k].f rl[k].rul w' ((hr.keep hb).parts _ (List.getElem_mem hk)))
  have HBAD := Lib.hid (fun (k : Nat) (hk : k < rl.length) (h : Pt.rcheck rl[k].rul ≠ 0) (hn : ∀ j (hj : j < rl.length), j < k → Pt.rcheck rl[j].rul = 0) => Pt.Vw.vcheck_bad (v := rl.map RulV.rul) (k := k) (by rw [List.length_map]; exact hk) (by rw [List.getElem_map]; exact h) (fun j hj hkj => by rw [List.getElem_map]; exact hn j (by rwa [List.length_map] at hj) hkj))
  have HALL := Lib.hid (fun (hn : ∀ j (hj : j < rl.length), Pt.rcheck rl[j].rul = 0) => Pt.Vw.vcheck_all (v := rl.map RulV.rul) (fun j hj => by rw [List.getElem_map]; exact hn j (by rwa [List.length_map] at hj)))
  rw [List.length_map] at HALL
  generalize Pt.Vw.vcheck (rl.map RulV.rul) = z at *
  clear hr hcm hle
  go_enter Tryz.func76, Tryz.ntmps76
  go_wp2
  go_loopg [8] rl.length (fun gg s8 wx => ∃ (k : Nat), k + gg = rl.length ∧ s8 = .int .i64 (k : Int) ∧ Below w.heap.size w wx ∧ Aside (∀ j (hj : j < rl.length), j < k → Pt.rcheck rl[j].rul = 0))
  case atStart => exact ⟨0, by omega, rfl, Below.refl _ _, fun j _ h => absurd h (Nat.not_lt_zero _)⟩
  case round =>
    obtain ⟨k, hk, rfl, hbw, HA⟩ := hrel
    have HBW := Lib.hid hbw
    by_cases hkn : k < rl.length
    · have i1 : (k : Int) < (rl.length : Int) := by omega
      obtain ⟨q, o, hA, hq, hcell⟩ := (HR.out.keep hbw).at (by omega)
      subst hA
      obtain ⟨e0, e1, e2, e3, e4⟩ := hcell k hkn
      have ha : Below wr.heap.size wr (wr.alloc (.cells #[.bool rl[k].ex, .slice rl[k].A rl[k].xs.length rl[k].c, .bool rl[k].b, .slice rl[k].B rl[k].ys.length rl[k].d, .bool rl[k].f] 94)) := (Below.refl _ _).alloc (Nat.le_refl _) _
      have HW2 := Lib.hid (hbw.trans (ha.mono hbw.size))
      have HC := Lib.hid (HC0.out k hkn _ (hbw.trans (ha.mono hbw.size)))
      clear hcell hbw ha
      by_cases hz : Pt.rcheck rl[k].rul = 0
      · rw [hz] at HC
        have HZ := Lib.hid hz
        clear hz
        go_wp2_with fail
        with_reducible refine HC.out.mono ?_
        rintro e w1 ⟨rfl, hb1⟩
        have HB1 := Lib.hid (HW2.out.trans (hb1.mono HW2.out.size))
        clear hb1
        go_wp2
        go_roundg (rl.length - (k + 1))
        case measure => go_light; omega
        case rel =>
          go_light
          refine ⟨k + 1, by omega, by go_num, HB1.out, (show Aside _ from fun j hj hjk => ?_)⟩
          by_cases ej : j = k
          · subst ej; exact HZ.out
          · exact HA.out j hj (by omega)
      · have hv := HBAD.out k hkn hz (fun j hj hjk => HA.out j hj hjk)
        subst hv
        have p1 : ((Pt.rcheck rl[k].rul : Int) == 0) = false := by rw [beq_eq_false_iff_ne]; omega
        have p2 : ((Pt.rcheck rl[k].rul : Int) != 0) = true := by rw [bne, p1]; rfl
        generalize Pt.rcheck rl[k].rul = ck at *
        clear hz
        go_wp2_with fail
        with_reducible refine HC.out.mono ?_
        rintro e w1 ⟨rfl, hb1⟩
        have HB1 := Lib.hid (HW2.out.trans (hb1.mono HW2.out.size))
        clear hb1
        go_wp2
        go_ret2
        exact ⟨rfl, HB1.out⟩
    · have i1 : ¬ (k : Int) < (rl.length : Int) := by omega
      have hv := HALL.out (fun j hj => HA.out j hj (by omega))
      clear hbw
      by_cases h16 : rl.length ≤ 16
      · rw [if_pos h16] at hv
        subst hv
        have i2 : ¬ (16 : Int) < (rl.length : Int) := by omega
        go_wp2
        go_ret2
        exact ⟨rfl, HBW.out⟩
      · rw [if_neg h16] at hv
        subst hv
        have i2 : (16 : Int) < (rl.length : Int) := by omega
        go_wp2
        go_ret2
        exact ⟨rfl, HBW.out⟩
set_option maxHeartbeats 2000000 in
theorem qvcheck_any (A : Option Addr) (rl : List RulV) (c : Nat) (w : World) (hr : RdV w A rl c) :
    Calls Tryz.prog 48 #[.slice A rl.length c] w fun en w' => en = .returned (.tuple #[.int .i64 ((Pt.Vw.vcheck (rl.map RulV.rul)).1 : Int), .int .i64 ((Pt.Vw.vcheck (rl.map RulV.rul)).2 : Int)]) ∧ Below w.heap.size w w' := by
  have HR := Lib.hid hr
  have hcm := hr.cm
  have hle := hr.le
  have hmi : (rl.length : Int) ≤ 9223372036854775807 := by unfold maxLen at hcm; omega
  have HC0 := Lib.hid (fun (k : Nat) (hk : k < rl.length) (w' : World) (hb : Below w.heap.size w w') => qcheck_any rl[k].ex rl[k].A rl[k].xs rl[k].c rl[k].b rl[k].B rl[k].ys rl[k].d rl[k].f rl[k].rul w' ((hr.keep hb).parts _ (List.getElem_mem hk)))
  have HBAD := Lib.hid (fun (k : Nat) (hk : k < rl.length) (h : Pt.rcheck rl[k].rul ≠ 0) (hn : ∀ j (hj : j < rl.length), j < k → Pt.rcheck rl[j].rul = 0) => Pt.Vw.vcheck_bad (v := rl.map RulV.rul) (k := k) (by rw [List.length_map]; exact hk) (by rw [List.getElem_map]; exact h) (fun j hj hkj => by rw [List.getElem_map]; exact hn j (by rwa [List.length_map] at hj) hkj))
  have HALL := Lib.hid (fun (hn : ∀ j (hj : j < rl.length), Pt.rcheck rl[j].rul = 0) => Pt.Vw.vcheck_all (v := rl.map RulV.rul) (fun j hj => by rw [List.getElem_map]; exact hn j (by rwa [List.length_map] at hj)))
  rw [List.length_map] at HALL
  generalize Pt.Vw.vcheck (rl.map RulV.rul) = z at *
  clear hr hcm hle
  go_enter Tryz.func48, Tryz.ntmps48
  go_wp2
  go_loopg [8] rl.length (fun gg s8 wx => ∃ (k : Nat), k + gg = rl.length ∧ s8 = .int .i64 (k : Int) ∧ Below w.heap.size w wx ∧ Aside (∀ j (hj : j < rl.length), j < k → Pt.rcheck rl[j].rul = 0))
  case atStart => exact ⟨0, by omega, rfl, Below.refl _ _, fun j _ h => absurd h (Nat.not_lt_zero _)⟩
  case round =>
    obtain ⟨k, hk, rfl, hbw, HA⟩ := hrel
    have HBW := Lib.hid hbw
    by_cases hkn : k < rl.length
    · have i1 : (k : Int) < (rl.length : Int) := by omega
      obtain ⟨q, o, hA, hq, hcell⟩ := (HR.out.keep hbw).at (by omega)
      subst hA
      obtain ⟨e0, e1, e2, e3, e4⟩ := hcell k hkn
      have ha : Below wr.heap.size wr (wr.alloc (.cells #[.bool rl[k].ex, .slice rl[k].A rl[k].xs.length rl[k].c, .bool rl[k].b, .slice rl[k].B rl[k].ys.length rl[k].d, .bool rl[k].f] 94)) := (Below.refl _ _).alloc (Nat.le_refl _) _
      have HW2 := Lib.hid (hbw.trans (ha.mono hbw.size))
      have HC := Lib.hid (HC0.out k hkn _ (hbw.trans (ha.mono hbw.size)))
      clear hcell hbw ha
      by_cases hz : Pt.rcheck rl[k].rul = 0
      · rw [hz] at HC
        have HZ := Lib.hid hz
        clear hz
        go_wp2_with fail
        with_reducible refine HC.out.mono ?_
        rintro e w1 ⟨rfl, hb1⟩
        have HB1 := Lib.hid (HW2.out.trans (hb1.mono HW2.out.size))
        clear hb1
        go_wp2
        go_roundg (rl.length - (k + 1))
        case measure => go_light; omega
        case rel =>
          go_light
          refine ⟨k + 1, by omega, by go_num, HB1.out, (show Aside _ from fun j hj hjk => ?_)⟩
          by_cases ej : j = k
          · subst ej; exact HZ.out
          · exact HA.out j hj (by omega)
      · have hv := HBAD.out k hkn hz (fun j hj hjk => HA.out j hj hjk)
        subst hv
        have p1 : ((Pt.rcheck rl[k].rul : Int) == 0) = false := by rw [beq_eq_false_iff_ne]; omega
        have p2 : ((Pt.rcheck rl[k].rul : Int) != 0) = true := by rw [bne, p1]; rfl
        generalize Pt.rcheck rl[k].rul = ck at *
        clear hz
        go_wp2_with fail
        with_reducible refine HC.out.mono ?_
        rintro e w1 ⟨rfl, hb1⟩
        have HB1 := Lib.hid (HW2.out.trans (hb1.mono HW2.out.size))
        clear hb1
        go_wp2
        go_ret2
        exact ⟨rfl, HB1.out⟩
    · have i1 : ¬ (k : Int) < (rl.length : Int) := by omega
      have hv := HALL.out (fun j hj => HA.out j hj (by omega))
      clear hbw
      by_cases h16 : rl.length ≤ 16
      · rw [if_pos h16] at hv
        subst hv
        have i2 : ¬ (16 : Int) < (rl.length : Int) := by omega
        go_wp2
        go_ret2
        exact ⟨rfl, HBW.out⟩
      · rw [if_neg h16] at hv
        subst hv
        have i2 : (16 : Int) < (rl.length : Int) := by omega
        go_wp2
        go_ret2
        exact ⟨rfl, HBW.out⟩
end Go.Proofs.YtipljgkhooeeiaaGreatDoor
