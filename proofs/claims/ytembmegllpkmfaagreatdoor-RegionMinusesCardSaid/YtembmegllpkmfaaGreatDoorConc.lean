/- slices.Grow of nothing; slices.Concat of two slices of patterns. -/
import Derived.Test.YtembmegllpkmfaaGreatDoorRegSimp
import Derived.Lib.AppendZerosOnto
namespace Go.Proofs.YtembmegllpkmfaaGreatDoor
open Go.RowKit
set_option linter.unusedVariables false
theorem run_grow_nil (w : World) (ty : TypeId) (n : Nat) (h0 : 0 < n) (hn : n * 32 ≤ 140737488355328) :
    ∃ c w', (Builtin.append_ #[25, 3] ty #[.slice none 0 0, .int .i64 n]).run Tryz.prog w = .ok (.slice (some ⟨w.heap.size, 0, none⟩) n c) w' ∧ OwnP w' w.heap.size (.slice (some ⟨w.heap.size, 0, none⟩) 0 c) [] ∧ Below w.heap.size w w' ∧ n ≤ c ∧ c ≤ maxLen := by
  obtain ⟨i, hi, hz, hz1, hz2⟩ := infoPParts
  have h := Lib.run_append_grow_zeros (P := Tryz.prog) w 25 3 ty 24 i _ .i64 .i64 Tryz.underlying25 Tryz.underlying3 hi hz none 0 0 [] (run_firstCells_none w.drew i.size 0 0 0) n h0 (by rw [hz1]; decide) (by omega) (by omega) (by rw [hz2]; omega) (by rw [hz2]; exact growslice_fits (by omega) (by omega))
  rw [Nat.zero_add] at h
  have hc1 := grownCap_ge w n 0 24
  have hc2 := grownCap_le_maxLen w n 0 24 (by unfold maxLen; omega)
  refine ⟨_, _, h, ⟨?_, fun x hx => (by cases hx), fun x hx => (by cases hx)⟩, (below_drew (Below.refl _ _)).alloc (Nat.le_refl _) _, hc1, hc2⟩
  refine World.ownsRow_made w.drew _ _ (Nat.le_refl _) hc2 ?_
  have hzs : (Value.agg #[.slice none 0 0, .bool false]).cells.size = 2 := by decide
  simp only [Array.size_append, size_zeroCells, hzs]
  simp only [List.size_toArray, List.length_nil]
  omega
theorem wpList_grow {w : World} {ops : Array Oper} {rest : List Oper} {o : Oper} {a : Act} {Q : Exit → Act → World → Prop} (hgd : o.guard = none) (s x : Operand)
    (ho : o.op = .call { callee := .builtin .append, args := #[s, x], argTypes := #[25, 3] })
    (n : Nat) (h0 : 0 < n) (hn : n * 32 ≤ 140737488355328) (hs : a.eval s = .slice none 0 0) (hx : a.eval x = .int .i64 n)
    (h : ∀ c w', OwnP w' w.heap.size (.slice (some ⟨w.heap.size, 0, none⟩) 0 c) [] → Below w.heap.size w w' → n ≤ c → c ≤ maxLen → wpList Tryz.prog ops Q rest (a.put o.dst (.slice (some ⟨w.heap.size, 0, none⟩) n c)) w') : wpList Tryz.prog ops Q (o :: rest) a w := by
  refine wpList_plain hgd fun K hK => ?_
  obtain ⟨c, w', hrun, h1, h2, h3, h4⟩ := run_grow_nil w o.type n h0 hn
  unfold Oper.wp execOp
  simp only [ho, resolve, invoke, builtin, Sem.run_bind, Sem.run_pure, Result.andThen_ok, List.map_toArray, List.map_cons, List.map_nil, hs, hx, hrun]
  exact hK _ _ (h c w' h1 h2 h3 h4)
theorem grow_any (n : Nat) (hn : n * 32 ≤ 140737488355328) (w : World) : Calls Tryz.prog 92 #[.slice none 0 0, .int .i64 n] w fun e w' => ∃ A c, e = .returned (.slice A 0 c) ∧ OwnP w' w.heap.size (.slice A 0 c) [] ∧ Below w.heap.size w w' := by
  by_cases h0 : n = 0
  · subst h0
    go_enter Tryz.func92, Tryz.ntmps92
    go_wp2
    go_ret
    exact ⟨none, 0, rfl, OwnP.empty _ _, Below.refl _ _⟩
  · have h1 : 0 < n := by omega
    have i1 : (0 : Int) < (n : Int) := by omega
    have i2 : ¬ (n : Int) < 0 := by omega
    have i3 : wrap64 ((n : Int)) = (n : Int) := by unfold wrap64; omega
    go_enter Tryz.func92, Tryz.ntmps92
    go_wp2_with (refine wpList_grow rfl _ _ rfl n h1 hn rfl ?_ ?_; (first | rfl | (simp [Act.eval, Act.put, i3])); intro c9 w9 hown9 hb9 hn9 hc9
                 have HOWN := Lib.hid hown9
                 have HB9 := Lib.hid hb9
                 have hn9i : (n : Int) ≤ (c9 : Int) := by omega
                 have hc9i : (c9 : Int) ≤ 9223372036854775807 := by unfold maxLen at hc9; omega
                 clear hown9 hb9)
    go_wp2
    go_ret
    exact ⟨_, _, rfl, HOWN.out, HB9.out⟩
def lkP (bl cl : List BindV) : Nat → List BindV
  | 0 => []
  | 1 => bl
  | _ => bl ++ cl
set_option maxHeartbeats 4000000 in
theorem concat_any (q : Nat) (H K : Option Addr) (bl cl : List BindV) (e f : Nat) (w : World) (c0 : w.cell? ⟨q, 0, none⟩ = some (.slice H bl.length e)) (c1 : w.cell? ⟨q, 1, none⟩ = some (.slice K cl.length f)) (hq : q < w.heap.size) (hr : RdB w H bl e) (hk : RdB w K cl f) (hN : bl.length + cl.length ≤ 1000000) :
    Calls Tryz.prog 41 #[.slice (some ⟨q, 0, none⟩) 2 2] w fun en w' => ∃ A c, en = .returned (.slice A (bl ++ cl).length c) ∧ OwnP w' w.heap.size (.slice A (bl ++ cl).length c) (bl ++ cl) ∧ Below w.heap.size w w' := by
  have HR0w := Lib.hid hr
  have HR1w := Lib.hid hk
  have HC0 := Lib.hid c0
  have HC1 := Lib.hid c1
  have HNN := Lib.hid hN
  have i1 : (bl.length : Int) + (cl.length : Int) ≤ 1000000 := by omega
  have i2 : (0 : Int) ≤ (bl.length : Int) := by omega
  have i3 : (0 : Int) ≤ (cl.length : Int) := by omega
  obtain ⟨n, hn⟩ : ∃ n, n = bl.length := ⟨_, rfl⟩
  obtain ⟨m, hm⟩ : ∃ m, m = cl.length := ⟨_, rfl⟩
  rw [← hn, ← hm] at i1
  rw [← hn] at c0 i2
  rw [← hm] at c1 i3
  have HNl := Lib.hid hn
  have HMl := Lib.hid hm
  have HGR := Lib.hid (fun (w' : World) => grow_any (n + m) (by omega) w')
  clear hr hk hN hn hm
  go_enter Tryz.func41, Tryz.ntmps41
  go_wp2
  go_loopg [11, 3] 2 (fun gg s11 s3 wx => ∃ (k : Nat) (z : Int), k + gg = 2 ∧ s11 = .int .i64 (k : Int) ∧ s3 = .int .i64 z ∧ wx = w ∧ (k = 0 → z = 0) ∧ (k = 1 → z = (n : Int)) ∧ (k = 2 → z = (n : Int) + (m : Int)))
  case atStart => exact ⟨0, 0, by omega, rfl, rfl, rfl, fun _ => rfl, fun h => by omega, fun h => by omega⟩
  case round =>
    obtain ⟨k, z, hk, rfl, rfl, hww, z0, z1, z2⟩ := hrel
    have hww := hww.symm
    subst hww
    rcases (by omega : k = 0 ∨ k = 1 ∨ k = 2) with rfl | rfl | rfl
    · obtain rfl := z0 rfl
      clear z0 z1 z2
      have j1 : ¬ (n : Int) < 0 := by omega
      go_wp2
      go_roundg 1
      case measure => go_light; omega
      case rel =>
        go_light
        exact ⟨1, (n : Int), by omega, by go_num, by go_num, rfl, fun h => by omega, fun _ => rfl, fun h => by omega⟩
    · obtain rfl := z1 rfl
      clear z0 z1 z2
      have j1 : ¬ (n : Int) + (m : Int) < 0 := by omega
      go_wp2
      go_roundg 0
      case measure => go_light; omega
      case rel =>
        go_light
        exact ⟨2, (n : Int) + (m : Int), by omega, by go_num, by go_num, rfl, fun h => by omega, fun h => by omega, fun _ => rfl⟩
    · obtain rfl := z2 rfl
      clear z0 z1 z2 hk
      have HG := Lib.hid (HGR.out w)
      rw [show ((n + m : Nat) : Int) = (n : Int) + (m : Int) by omega] at HG
      go_wp2_with fail
      with_reducible refine HG.out.mono ?_
      rintro en w1 ⟨A1, e1, rfl, hown1, hb1⟩
      have HO1 := Lib.hid hown1
      have HB1 := Lib.hid hb1
      clear hown1 hb1
      go_wp2
      go_loopg [27, 6] 2 (fun gg s27 s6 wx => ∃ (k n6 : Nat) (A6 : Option Addr) (e6 : Nat), k + gg = 2 ∧ s27 = .int .i64 (k : Int) ∧ s6 = .slice A6 n6 e6 ∧ Below w.heap.size w wx ∧ Aside (n6 = (lkP bl cl k).length ∧ OwnP wx w.heap.size (.slice A6 n6 e6) (lkP bl cl k)))
      case atStart => exact ⟨0, 0, A1, e1, by omega, rfl, rfl, HB1.out, rfl, HO1.out⟩
      case round =>
        obtain ⟨k, n6, A6, e6, hk, rfl, rfl, hbw, HA⟩ := hrel
        have HBW := Lib.hid hbw
        have d0 := (hbw.cell (p := ⟨q, 0, none⟩) hq).trans c0
        have d1 := (hbw.cell (p := ⟨q, 1, none⟩) hq).trans c1
        rcases (by omega : k = 0 ∨ k = 1 ∨ k = 2) with rfl | rfl | rfl
        iterate 2
          · have HRB := Lib.hid (HR0w.out.keep hbw)
            have HRC := Lib.hid (HR1w.out.keep hbw)
            have HLO : Hid (∀ g, (Value.slice A6 n6 e6).ownBlock = some g → w.heap.size ≤ g) := Lib.hid fun g hg => (HA.out.2.lt g hg).1
            have HAP : Hid (∀ x : BindV, PatR w x.A x.xs x.c x.b x.pat → ∀ y ∈ adr x.A x.xs, ∀ a, y = some a → (Value.slice A6 n6 e6).ownBlock ≠ some a.block ∧ a.block < wr.heap.size) := Lib.hid fun x hx y hy a ha => by
              have h1 := hx.adr_lt y hy a ha
              have h2 := HBW.out.size
              exact ⟨fun e9 => by have h3 := HLO.out _ e9; omega, by omega⟩
            clear hbw
            first
              | (go_wp2_with (refine wpList_append_pt rfl _ _ rfl w.heap.size (.slice A6 n6 e6) (lkP bl cl 0) rfl HA.out.2 H bl n e HNl.out rfl HRB.out (fun x hx => HAP.out x (HR0w.out.parts x hx)) (by have := HNN.out; simp [lkP]; omega) HBW.out.size ?_; intro v9 w9 hown9 hb9 _)
                 obtain ⟨A9, e9, hv9, _⟩ := hown9.form
                 subst hv9
                 go_roundg 1
                 case measure => go_light; omega
                 case rel =>
                   go_light
                   exact ⟨1, _, A9, e9, by omega, by go_num, rfl, HBW.out.trans hb9, by simp [lkP], hown9⟩)
              | (go_wp2_with (refine wpList_append_pt rfl _ _ rfl w.heap.size (.slice A6 n6 e6) (lkP bl cl 1) rfl HA.out.2 K cl m f HMl.out rfl HRC.out (fun x hx => HAP.out x (HR1w.out.parts x hx)) (by have := HNN.out; simp [lkP]; omega) HBW.out.size ?_; intro v9 w9 hown9 hb9 _)
                 obtain ⟨A9, e9, hv9, _⟩ := hown9.form
                 subst hv9
                 go_roundg 0
                 case measure => go_light; omega
                 case rel =>
                   go_light
                   exact ⟨2, _, A9, e9, by omega, by go_num, rfl, HBW.out.trans hb9, by simp [lkP], hown9⟩)
        · clear hbw
          go_wp2
          go_ret
          have h1 := HA.out.1
          have h2 := HA.out.2
          subst h1
          exact ⟨A6, e6, rfl, h2, HBW.out⟩
end Go.Proofs.YtembmegllpkmfaaGreatDoor
