/- RegionPoint returns true at every list of patterns and every string (the card: the variables that it lists hold what the program text lays). Conditions: what it reads is of bulk at most 1048576 values and letters. -/
import Derived.Test.YtpdkecchpidhdaaGreatDoorCards
import Derived.Test.YtpdkecchpidhdaaGreatDoorTie
import Derived.WalkKit
import Derived.ProofKit
import Derived.OpenShut
import Derived.ShutString
import Derived.Test.YtpdkecchpidhdaaGreatDoorPatOpen
import Derived.Test.YtpdkecchpidhdaaGreatDoorRegOpen
import Derived.Test.YtpdkecchpidhdaaGreatDoorRegAwake
import Derived.Test.YtpdkecchpidhdaaGreatDoorRegPoint
import Derived.Test.YtpdkecchpidhdaaGreatDoorRegOrd
import Derived.Test.YtpdkecchpidhdaaGreatDoorBulk
import Derived.Deep.DeepHandedRow
import Derived.Lib.LaidTab
import Derived.Deep.DeepWitnessRowRef
import Derived.Deep.CondSized
namespace Go.Proofs.YtpdkecchpidhdaaGreatDoor.regionPoint
open Go.ChangeShapes Go.WideShapes Go.ChangeAt Go.RowKit
open Go.ChangeMaps (open_string shut_string)
set_option linter.unusedVariables false

theorem lib_join_count : ∀ l : List (List UInt8), l.length ≤ (Lib.join l [47]).length + 1
  | [] => by simp
  | [y] => by simp
  | y :: z :: r => by
    have := lib_join_count (z :: r)
    rw [Pm.lib_join_cons]
    simp only [List.length_append, List.length_cons] at this ⊢
    omega
theorem any_take {f : BindV → Bool} {l : List BindV} {k : Nat} (h : k < l.length) : (l.take (k + 1)).any f = ((l.take k).any f || f l[k]) := by
  rw [List.take_succ_eq_append_getElem h, List.any_append]
  simp
set_option maxHeartbeats 8000000 in
theorem walk (w : World) (s0 : ByteArray) (w0 : s0.size ≤ maxLen) (ub0 : s0.size ≤ 1048576) (A1 : Option Addr) (bl1 : List BindV) (c1 : Nat) (hb1 : RdB w A1 bl1 c1) (hz1 : ∀ x ∈ bl1, ∀ y ∈ x.xs, y.size ≤ 140737488355000) (hl1 : ∀ x ∈ bl1, x.xs.length ≤ 140737488355328) (hm : MaxL w) :
    Calls Tryz.prog 12 #[.string s0, .slice A1 bl1.length c1] w fun e w' => e = .returned (.bool true) ∧ Below w.heap.size w w' := by
  have HAw := Lib.hid (fun (w' : World) => awake5_any w')
  have hP := rpath_any s0 w (by omega) hm
  cases hp : pathO s0.data.toList with
  | none =>
    rw [hp] at hP
    have HP := Lib.hid hP
    clear hP hp hb1 hz1 hl1
    generalize bl1.length = n1 at *
    go_enter Tryz.func12, Tryz.ntmps12
    go_wp2_with fail
    with_reducible refine HP.out.mono ?_
    rintro en u1 ⟨rfl, hb⟩
    have HB := Lib.hid (hb.trans (((Below.refl u1.heap.size u1).alloc (Nat.le_refl _) (regObj none 0 0 false A1 n1 c1)).mono hb.size))
    clear hb
    go_wp2_with fail
    with_reducible refine (HAw.out _).mono ?_
    rintro en u2 ⟨rfl, hb2⟩
    have HB2 := Lib.hid (HB.out.trans (hb2.mono HB.out.size))
    clear hb2
    go_wp2
    go_ret
    exact ⟨rfl, HB2.out⟩
  | some l =>
    rw [hp] at hP
    have HP := Lib.hid hP
    have hpo : Pt.pathO s0.data.toList = some l := hp
    obtain ⟨p1, p2, p3⟩ := Pt.pathO_some.1 hpo
    have hll : ∀ x ∈ l, x.length ≤ 1048576 := fun x hx => by
      have h := join_elem hx
      rw [← p1, ← Lib.size_eq] at h
      omega
    have hln : l.length ≤ 1048577 := by
      have h1 := lib_join_count l
      have h2 : (Pm.join l).length = (Lib.join l [47]).length + 2 := rfl
      rw [← p1, ← Lib.size_eq] at h2
      omega
    have HPO := Lib.hid hpo
    have HLL := Lib.hid hll
    have HLN := Lib.hid hln
    have HP2 := Lib.hid p2
    have HM := Lib.hid hm
    have HUB := Lib.hid ub0
    have HBD := Lib.hid hb1
    have HL1 := Lib.hid hl1
    have hmi : (bl1.length : Int) ≤ 9223372036854775807 := by
      have h1 := hb1.le
      have h2 := hb1.cm
      unfold maxLen at h2
      omega
    clear hP hp hpo p1 p2 p3 hll hln hm ub0 hb1 hl1 hz1
    go_enter Tryz.func12, Tryz.ntmps12
    go_wp2_with fail
    with_reducible refine HP.out.mono ?_
    rintro en u1 ⟨v, rfl, A, xs, c, rfl, hbx, hc, hcm, hr, hb⟩
    have HBU := Lib.hid hb
    have hxl : xs.length = l.length := by rw [← hbx, bs_length]
    have hRG : RegR u1 A xs c false A1 bl1 c1 ⟨⟨bs xs, false⟩, bl1.map BindV.pat⟩ := ⟨⟨hr, rfl, rfl, hc, hcm, (fun h => by
      obtain ⟨g9, o9, hA9, _⟩ := hr.cells (by rw [hxl]; have := HP2.out; omega)
      rw [hA9] at h
      cases h), (fun x hx => by
      have h1 := HLL.out x.data.toList (by rw [← hbx]; exact List.mem_map_of_mem hx)
      rw [← Lib.size_eq] at h1
      unfold maxLen
      omega)⟩, HBD.out.keep hb, rfl⟩
    obtain ⟨W0, hW0⟩ : ∃ W0, W0 = u1.alloc (regObj A xs.length c false A1 bl1.length c1) := ⟨_, rfl⟩
    have hal : Below u1.heap.size u1 W0 := by rw [hW0]; exact (Below.refl _ _).alloc (Nat.le_refl _) _
    have HAL := Lib.hid (hb.trans (hal.mono hb.size))
    have hgb : GBox W0 u1.heap.size A xs.length c false A1 bl1.length c1 := by rw [hW0]; exact GBox.new ..
    have HGB := Lib.hid (fun (w' : World) (hb : Below W0.heap.size W0 w') => hgb.keep hb)
    have HRG := Lib.hid (fun (w' : World) (hb : Below W0.heap.size W0 w') => (hRG.keep hal).keep hb)
    have HSm := Lib.hid (fun (w' : World) (hb : Below W0.heap.size W0 w') => small5_any A xs c false A1 bl1 c1 _ w' (HRG.out w' hb) (by have := HLN.out; omega) HL1.out)
    have HC := Lib.hid (fun (w' : World) (hb : Below W0.heap.size W0 w') => gcheck_any A xs c false A1 bl1 c1 _ w' (HRG.out w' hb))
    have HMT := Lib.hid (fun (k : Nat) (hk : k < bl1.length) (w' : World) (hb : Below W0.heap.size W0 w') => rmatch_any bl1[k].A bl1[k].xs bl1[k].c bl1[k].b bl1[k].pat s0 w' ((HRG.out w' hb).holes.parts _ (List.getElem_mem hk)) (by have := HUB.out; omega) ((HM.out.keep HAL.out HM.out.size).keep hb (HM.out.keep HAL.out HM.out.size).size))
    have HX0 := Lib.hid (Below.refl W0.heap.size W0)
    obtain ⟨t0, t1, t2, tl⟩ := hgb
    have HBX := Lib.hid hbx
    clear hr hc hcm hb hRG hal hxl hbx
    by_cases h300 : s0.size ≤ 300
    rotate_left
    · have i3 : (300 : Int) < (s0.size : Int) := by omega
      clear HMT HRG HC HL1
      generalize xs.length = nx at *
      generalize bl1.length = nb at *
      subst hW0
      clear h300
      go_wp2_with fail
      with_reducible refine (HAw.out _).mono ?_
      rintro en u2 ⟨rfl, hb2⟩
      have HB2 := Lib.hid (HAL.out.trans (hb2.mono HAL.out.size))
      clear hb2
      go_wp2
      go_ret
      exact ⟨rfl, HB2.out⟩
    have i3 : ¬ (300 : Int) < (s0.size : Int) := by omega
    clear h300
    cases hsm : smallG xs bl1 with
    | false =>
      rw [hsm] at HSm
      clear HMT HRG HC HL1
      generalize xs.length = nx at *
      generalize bl1.length = nb at *
      subst hW0
      clear hsm
      go_wp2_with fail
      with_reducible refine (HSm.out _ HX0.out).mono ?_
      rintro en u2 ⟨rfl, hb2⟩
      have HB2 := Lib.hid (HAL.out.trans (hb2.mono HAL.out.size))
      clear hb2
      go_wp2_with fail
      with_reducible refine (HAw.out _).mono ?_
      rintro en u3 ⟨rfl, hb3⟩
      have HB3 := Lib.hid (HB2.out.trans (hb3.mono HB2.out.size))
      clear hb3
      go_wp2
      go_ret
      exact ⟨rfl, HB3.out⟩
    | true =>
      rw [hsm] at HSm
      have hsz := small_szG (b := false) hsm
      clear hsm
      by_cases hk : Pt.Rg.gcheck ⟨⟨bs xs, false⟩, bl1.map BindV.pat⟩ = 0
      rotate_left
      · generalize Pt.Rg.gcheck ⟨⟨bs xs, false⟩, bl1.map BindV.pat⟩ = k at *
        have i1 : ((k : Int) == 0) = false := by rw [beq_eq_false_iff_ne]; omega
        have i2 : ((k : Int) != 0) = true := by rw [bne, i1]; rfl
        clear HMT HRG HL1
        generalize xs.length = nx at *
        generalize bl1.length = nb at *
        subst hW0
        clear hk hsz
        go_wp2_with fail
        with_reducible refine (HSm.out _ HX0.out).mono ?_
        rintro en u2 ⟨rfl, hb2⟩
        have HX2 := Lib.hid hb2
        obtain ⟨s0_, s1_, s2_, sl_⟩ := HGB.out _ hb2
        clear hb2 t0 t1 t2 tl
        go_wp2_with fail
        with_reducible refine (HC.out _ HX2.out).mono ?_
        rintro en u3 ⟨rfl, hb3⟩
        have HX3 := Lib.hid (HX2.out.trans (hb3.mono HX2.out.size))
        clear hb3
        go_wp2_with fail
        with_reducible refine (HAw.out _).mono ?_
        rintro en u4 ⟨rfl, hb4⟩
        have HX4 := Lib.hid (HX3.out.trans (hb4.mono HX3.out.size))
        clear hb4
        go_wp2
        go_ret
        exact ⟨rfl, HAL.out.trans (HX4.out.mono HAL.out.size)⟩
      have hlr := point_least (l := bs xs) (H := bl1.map BindV.pat) (by rw [HPO.out, HBX.out]) hk
      have HE := Lib.hid (fun (w' : World) (hb : Below W0.heap.size W0 w') => show Calls Tryz.prog 21 #[regV A xs.length c false A1 bl1.length c1] w' (GivesTBN w' (!(leastR ⟨⟨bs xs, false⟩, bl1.map BindV.pat⟩).isSome) 0) from by
        have h := empty_any A xs c false A1 bl1 c1 _ w' (HRG.out w' hb) (hsz.short (by decide))
        rw [hk, decide_eq_true rfl, Bool.true_and, empty_val hk] at h
        exact h)
      have HL := Lib.hid (fun (w' : World) (hb : Below W0.heap.size W0 w') => show Calls Tryz.prog 22 #[regV A xs.length c false A1 bl1.length c1] w' (GivesLst w' (leastR ⟨⟨bs xs, false⟩, bl1.map BindV.pat⟩) 0) from by
        have h := least_any A xs c false A1 bl1 c1 _ w' (HRG.out w' hb) (hsz.short (by decide)) (hsz.base (by decide))
        rw [hk] at h
        exact h)
      rw [hlr] at HE HL
      rw [hk] at HC
      have HPS : Hid (leastS (some (bs xs)) = s0) := Lib.hid (point_str (by rw [HPO.out, HBX.out]))
      have HAN : Hid (((bl1.map BindV.pat).any fun h => (Pt.matchP h s0.data.toList).isSome) = bl1.any fun y => (Pt.matchP y.pat s0.data.toList).isSome) := Lib.hid (by rw [List.any_map]; rfl)
      clear hlr hk hsz
      obtain ⟨nx, hnx⟩ : ∃ n, n = xs.length := ⟨_, rfl⟩
      obtain ⟨nb, hnb⟩ : ∃ n, n = bl1.length := ⟨_, rfl⟩
      have HNB := Lib.hid hnb
      rw [← hnx, ← hnb] at hW0 HGB HSm HC HE HL
      rw [← hnx] at t0
      rw [← hnb] at t2 hmi ⊢
      rw [← hnx] at *
      clear hnx hnb
      subst hW0
      go_wp2_with fail
      with_reducible refine (HSm.out _ HX0.out).mono ?_
      rintro en u2 ⟨rfl, hb2⟩
      have HX2 := Lib.hid hb2
      obtain ⟨s0_, s1_, s2_, sl_⟩ := HGB.out _ hb2
      clear hb2 t0 t1 t2 tl
      go_wp2_with fail
      with_reducible refine (HC.out _ HX2.out).mono ?_
      rintro en u3 ⟨rfl, hb3⟩
      have HX3 := Lib.hid (HX2.out.trans (hb3.mono HX2.out.size))
      clear hb3 s0_ s1_ s2_ sl_
      go_wp2
      generalize hwg : u1.alloc (regObj A nx c false A1 nb c1) = W5 at *
      go_loopg [47, 8] nb (fun gg s47 s8 wx => ∃ (k : Nat) (v : Bool), k + gg = nb ∧ s47 = .int .i64 (k : Int) ∧ s8 = .bool v ∧ Below W5.heap.size W5 wx ∧ Aside (v = (bl1.take k).any fun y => (Pt.matchP y.pat s0.data.toList).isSome))
      case atStart => exact ⟨0, false, by omega, rfl, rfl, HX3.out, rfl⟩
      case round =>
        obtain ⟨k, v, hk, rfl, rfl, hbw, HA⟩ := hrel
        have HBW := Lib.hid hbw
        by_cases hkn : k < nb
        · have i1 : (k : Int) < (nb : Int) := by omega
          have hkb : k < bl1.length := by rw [← HNB.out]; exact hkn
          obtain ⟨q, o, hA, hq, hcell⟩ := (HRG.out _ hbw).holes.at (by omega)
          subst hA
          obtain ⟨e0, e1⟩ := hcell k hkb
          have ha : Below wr.heap.size wr (wr.alloc (.cells #[.slice bl1[k].A bl1[k].xs.length bl1[k].c, .bool bl1[k].b] 24)) := (Below.refl _ _).alloc (Nat.le_refl _) _
          have HW2 := Lib.hid (hbw.trans (ha.mono hbw.size))
          have HC2 := Lib.hid (HMT.out k hkb _ (hbw.trans (ha.mono hbw.size)))
          have HTK : Hid ((bl1.take (k + 1)).any (fun y => (Pt.matchP y.pat s0.data.toList).isSome) = (v || (Pt.matchP bl1[k].pat s0.data.toList).isSome)) := Lib.hid (by rw [any_take hkb, HA.out])
          clear hcell hbw ha
          generalize Pt.matchP bl1[k].pat s0.data.toList = mo at *
          go_wp2_with fail
          with_reducible refine HC2.out.mono ?_
          intro e u4 hh
          obtain ⟨vv, rfl, hb4⟩ := givesP_ok hh
          have HB4 := Lib.hid (HW2.out.trans (hb4.mono HW2.out.size))
          clear hb4 hh
          cases v <;> cases mo
          all_goals
            go_wp2
            go_roundg (nb - (k + 1))
            case measure => go_light; omega
            case rel =>
              go_light
              exact ⟨k + 1, _, by omega, by go_num, rfl, HB4.out, by rw [HTK.out]; rfl⟩
        · have i1 : ¬ (k : Int) < (nb : Int) := by omega
          have hv : v = ((bl1.map BindV.pat).any fun h => (Pt.matchP h s0.data.toList).isSome) := by
            rw [HA.out, HAN.out, List.take_of_length_le (by rw [← HNB.out]; omega)]
          rw [← hv] at HE HL
          obtain ⟨s0_, s1_, s2_, sl_⟩ := HGB.out _ hbw
          clear hbw hv HAN
          cases v with
          | true =>
            rw [if_pos rfl] at HE HL
            unfold GivesLst leastS at HL
            simp only [Option.isSome_none, Bool.not_false] at HE HL
            go_wp2_with fail
            with_reducible refine (HE.out _ HBW.out).mono ?_
            rintro en u5 ⟨rfl, hb5⟩
            have HX5 := Lib.hid (HBW.out.trans (hb5.mono HBW.out.size))
            obtain ⟨t0, t1, t2, tl⟩ := HGB.out _ HX5.out
            clear hb5 s0_ s1_ s2_ sl_
            go_wp2_with fail
            with_reducible refine (HL.out _ HX5.out).mono ?_
            rintro en u6 ⟨rfl, hb6⟩
            have HX6 := Lib.hid (HX5.out.trans (hb6.mono HX5.out.size))
            clear hb6 t0 t1 t2 tl
            go_wp2_with fail
            with_reducible refine (HAw.out _).mono ?_
            rintro en u7 ⟨rfl, hb7⟩
            have HX7 := Lib.hid (HX6.out.trans (hb7.mono HX6.out.size))
            clear hb7
            go_wp2
            go_ret
            exact ⟨rfl, HAL.out.trans (HX7.out.mono HAL.out.size)⟩
          | false =>
            rw [if_neg (by decide)] at HE HL
            unfold GivesLst at HL
            rw [HPS.out] at HL
            simp only [Option.isSome_some, Bool.not_true] at HE HL
            go_wp2_with fail
            with_reducible refine (HE.out _ HBW.out).mono ?_
            rintro en u5 ⟨rfl, hb5⟩
            have HX5 := Lib.hid (HBW.out.trans (hb5.mono HBW.out.size))
            obtain ⟨t0, t1, t2, tl⟩ := HGB.out _ HX5.out
            clear hb5 s0_ s1_ s2_ sl_
            go_wp2_with fail
            with_reducible refine (HL.out _ HX5.out).mono ?_
            rintro en u6 ⟨rfl, hb6⟩
            have HX6 := Lib.hid (HX5.out.trans (hb6.mono HX5.out.size))
            clear hb6 t0 t1 t2 tl
            go_wp2_with fail
            with_reducible refine (HAw.out _).mono ?_
            rintro en u7 ⟨rfl, hb7⟩
            have HX7 := Lib.hid (HX6.out.trans (hb7.mono HX6.out.size))
            clear hb7
            go_wp2
            go_ret
            exact ⟨rfl, HAL.out.trans (HX7.out.mono HAL.out.size)⟩

end Go.Proofs.YtpdkecchpidhdaaGreatDoor.regionPoint
