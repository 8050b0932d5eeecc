/- Contracts of the law file's small and awake of views. -/
import Derived.Test.YtipljgkhooeeiaaGreatDoorVwFn2
import Derived.Test.YtipljgkhooeeiaaGreatDoorPathOwnAll
import Derived.Deep.RegionHeld3
namespace Go.Proofs.YtipljgkhooeeiaaGreatDoor
open Go.RowKit

def sumL : List RulV → Nat
  | [] => 0
  | x :: l => x.xs.length + x.ys.length + sumL l
theorem sumL_take : ∀ (l : List RulV) (k : Nat) (h : k < l.length), sumL (l.take (k + 1)) = sumL (l.take k) + (l[k].xs.length + l[k].ys.length)
  | [], _, h => by simp at h
  | x :: l, 0, _ => by simp [sumL]
  | x :: l, k + 1, h => by
    have ih := sumL_take l k (by simpa using h)
    simp only [List.take_succ_cons, sumL, List.getElem_cons_succ]
    omega
theorem sumL_le {N : Nat} : ∀ {l : List RulV}, (∀ x ∈ l, x.xs.length ≤ N ∧ x.ys.length ≤ N) → sumL l ≤ l.length * (2 * N)
  | [], _ => by simp [sumL]
  | x :: l, h => by
    have ih := sumL_le (l := l) (fun y hy => h y (List.mem_cons_of_mem _ hy))
    have h0 := h x (by simp)
    simp only [sumL, List.length_cons, Nat.add_mul, Nat.one_mul]
    omega
def okV (x : RulV) : Bool := (x.xs ++ x.ys).all fun y => decide (y.size ≤ 60)
def smallV (l : List RulV) : Bool := l.all okV && (decide (l.length ≤ 20) && decide (sumL l ≤ 200))
theorem smallV_facts {l : List RulV} (h : smallV l = true) : l.length ≤ 20 ∧ SzV 60 l ∧ ∀ x ∈ l, x.xs.length ≤ 200 ∧ x.ys.length ≤ 200 := by
  unfold smallV at h
  simp only [Bool.and_eq_true, decide_eq_true_eq] at h
  obtain ⟨h1, h2, h3⟩ := h
  refine ⟨h2, fun x hx => ?_, fun x hx => ?_⟩
  · have h4 := List.all_eq_true.1 h1 x hx
    unfold okV at h4
    have h5 := List.all_eq_true.1 h4
    exact ⟨fun y hy => of_decide_eq_true (h5 y (List.mem_append_left _ hy)), fun y hy => of_decide_eq_true (h5 y (List.mem_append_right _ hy))⟩
  · have : ∀ (l : List RulV), x ∈ l → x.xs.length + x.ys.length ≤ sumL l := by
      intro l
      induction l with
      | nil => intro h; cases h
      | cons y t ih =>
        intro h
        simp only [sumL]
        rcases List.mem_cons.1 h with rfl | h
        · omega
        · have := ih h; omega
    have := this l hx
    omega
theorem okV_false {x : RulV} {j : Nat} {L : List ByteArray} (hL : L = x.xs ++ x.ys) (hj : j < L.length) (h : ¬ L[j].size ≤ 60) : okV x = false := by
  subst hL
  unfold okV
  rw [List.all_eq_false]
  exact ⟨_, List.getElem_mem hj, by simpa using h⟩
theorem okV_true {x : RulV} {L : List ByteArray} (hL : L = x.xs ++ x.ys) (h : ∀ j (hj : j < L.length), L[j].size ≤ 60) : okV x = true := by
  subst hL
  unfold okV
  rw [List.all_eq_true]
  intro y hy
  obtain ⟨j, hj, rfl⟩ := List.mem_iff_getElem.1 hy
  exact decide_eq_true (h j hj)
theorem smallV_bad {l : List RulV} {k : Nat} (hk : k < l.length) (h : okV l[k] = false) : smallV l = false := by
  unfold smallV
  have : l.all okV = false := by
    rw [List.all_eq_false]
    exact ⟨_, List.getElem_mem hk, by rw [h]; simp⟩
  rw [this, Bool.false_and]
theorem smallV_all {l : List RulV} (h : ∀ k (hk : k < l.length), okV l[k] = true) : smallV l = (decide (l.length ≤ 20) && decide (sumL l ≤ 200)) := by
  unfold smallV
  have : l.all okV = true := by
    rw [List.all_eq_true]
    intro y hy
    obtain ⟨j, hj, rfl⟩ := List.mem_iff_getElem.1 hy
    exact h j hj
  rw [this, Bool.true_and]
theorem wp_append_ssL {w : World} {o : Oper} {a : Act} {K : Act → World → Prop} {Q : Exit → Act → World → Prop} (s x : Operand)
    (ho : o.op = .call { callee := .builtin .append, args := #[s, x], argTypes := #[22, 22] })
    (base : Nat) (v : Value) (ys : List ByteArray) (hs : a.eval s = v) (hown : OwnS w base v ys)
    (A : Option Addr) (xs : List ByteArray) (n c : Nat) (hn : n = xs.length) (hx : a.eval x = .slice A n c) (hr : RdS w w.heap.size A xs) (hnil : A = none → c = 0)
    (hN : ys.length + xs.length ≤ 8000000) (hbase : base ≤ w.heap.size)
    (h : ∀ v' w', OwnS w' base v' (ys ++ xs) → Below base w w' → K (a.put o.dst v') w') : o.wp Tryz.prog a w K Q := by
  subst hn
  obtain ⟨i, hi, hz, hz1, hz2⟩ := strParts
  cases A with
  | none =>
    obtain rfl := hnil rfl
    have hx0 : xs = [] := by
      rcases hr with h | ⟨g, o', hA, _⟩
      · exact h
      · cases hA
    subst hx0
    have hrun := run_append_owned_none (P := Tryz.prog) (w := w) base 22 o.type 9 i 1 Tryz.underlying22 hi v ys.length (svs ys) hown
    unfold Oper.wp
    simp [execOp, ho, resolve, invoke, builtin, hs, hx, hrun, Result.andThen]
    exact h _ _ (by rw [List.append_nil]; exact hown) (Below.refl _ _)
  | some ad =>
    refine wp_append_own w s x _ ho base 9 i _ 1 16 Tryz.underlying22 hi hz hz1 hz2 rfl (by omega) v ys.length (svs ys) hs hown ad xs.length c (svs xs) hx (by simp [svs_length]) hr.svs svs_one
      (by simp only [maxLen]; omega) (by omega) hbase ?_
    intro v' w' hown' hg _
    refine h v' w' ?_ ⟨hg.os, hg.tape, hg.output, hg.size, fun k hk => hg.block k (by omega) (fun e2 => ?_)⟩
    · unfold OwnS
      rw [List.length_append, svs_append]
      exact hown'
    · have := (World.ownsRow.lt hown k e2.symm).1
      omega
theorem step_append_ssL {w : World} {ops : Array Oper} {o : Oper} {a : Act} {K : Act → World → Prop} {Q : Exit → Act → World → Prop} {E : Prop} (hgd : o.guard = none) (s x : Operand)
    (ho : o.op = .call { callee := .builtin .append, args := #[s, x], argTypes := #[22, 22] })
    (base : Nat) (v : Value) (ys : List ByteArray) (hs : a.eval s = v) (hown : OwnS w base v ys)
    (A : Option Addr) (xs : List ByteArray) (n c : Nat) (hn : n = xs.length) (hx : a.eval x = .slice A n c) (hr : RdS w w.heap.size A xs) (hnil : A = none → c = 0)
    (hN : ys.length + xs.length ≤ 8000000) (hbase : base ≤ w.heap.size)
    (h : ∀ v' w', OwnS w' base v' (ys ++ xs) → Below base w w' → K (a.put o.dst v') w') : if Region.wanted o (yielded ops a.tmps) = true then Oper.wp Tryz.prog o a w K Q else E := by
  have hw : Region.wanted o (yielded ops a.tmps) = true := by simp [Region.wanted, hgd]
  rw [if_pos hw]
  exact wp_append_ssL s x ho base v ys hs hown A xs n c hn hx hr hnil hN hbase h
set_option maxHeartbeats 8000000 in
theorem small6_any (A : Option Addr) (rl : List RulV) (c : Nat) (w : World) (hr : RdV w A rl c) (hN : rl.length ≤ 2000000) (hl : ∀ x ∈ rl, x.xs.length ≤ 1100000 ∧ x.ys.length ≤ 1100000) :
    Calls Tryz.prog 36 #[.slice A rl.length c] w (GivesBB w (smallV rl)) := by
  have HR := Lib.hid hr
  have hmi : (rl.length : Int) ≤ 2000000 := by omega
  have HLL := Lib.hid (fun (k : Nat) (hk : k < rl.length) => hl rl[k] (List.getElem_mem hk))
  have HSB := Lib.hid (fun (k : Nat) => show sumL (rl.take k) ≤ 8000000000000 from by
    have h := sumL_le (N := 1100000) (l := rl.take k) (fun x hx => hl x (List.mem_of_mem_take hx))
    have h2 : (rl.take k).length ≤ 2000000 := by rw [List.length_take]; omega
    have h3 : (rl.take k).length * (2 * 1100000) ≤ 2000000 * (2 * 1100000) := Nat.mul_le_mul_right _ h2
    omega)
  have HST := Lib.hid (fun (k : Nat) (hk : k < rl.length) => sumL_take rl k hk)
  have HBAD := Lib.hid (fun (k : Nat) (hk : k < rl.length) (h : okV rl[k] = false) => smallV_bad hk h)
  have HALL := Lib.hid (fun (h : ∀ k (hk : k < rl.length), okV rl[k] = true) => smallV_all h)
  have HNN := Lib.hid hN
  generalize smallV rl = v at *
  clear hr hl hN
  go_enter Tryz.func36, Tryz.ntmps36
  go_wp2
  go_loopg [3, 10] rl.length (fun gg s3 s10 wx => ∃ (k : Nat), k + gg = rl.length ∧ s10 = .int .i64 (k : Int) ∧ s3 = .int .i64 ((sumL (rl.take k) : Nat) : Int) ∧ Below w.heap.size w wx ∧ Aside (∀ j (hj : j < rl.length), j < k → okV rl[j] = true))
  case atStart => exact ⟨0, by omega, rfl, rfl, Below.refl _ _, fun j _ h => absurd h (Nat.not_lt_zero _)⟩
  case round =>
    obtain ⟨k, hk, rfl, rfl, hbw, HA⟩ := hrel
    have HBW := Lib.hid hbw
    have hws := hbw.size
    have hsb := HSB.out k
    have hsi : ((sumL (rl.take k) : Nat) : Int) ≤ 8000000000000 := by omega
    have hs0 : (0 : Int) ≤ ((sumL (rl.take k) : Nat) : Int) := Int.natCast_nonneg _
    by_cases hkn : k < rl.length
    · have i1 : (k : Int) < (rl.length : Int) := by omega
      obtain ⟨q, o, hA, hq, hcell⟩ := (HR.out.keep hbw).at (by omega)
      subst hA
      obtain ⟨e0, e1, e2, e3, e4⟩ := hcell k hkn
      have hl2 := HLL.out k hkn
      have hT := HST.out k hkn
      have HOKF := Lib.hid (fun (L : List ByteArray) (hL : L = rl[k].xs ++ rl[k].ys) (j : Nat) (hj : j < L.length) (h : ¬ L[j].size ≤ 60) => HBAD.out k hkn (okV_false hL hj h))
      have HOKT := Lib.hid (fun (L : List ByteArray) (hL : L = rl[k].xs ++ rl[k].ys) (h : ∀ j (hj : j < L.length), L[j].size ≤ 60) => okV_true (x := rl[k]) hL h)
      have hR := (HR.out.keep hbw).parts _ (List.getElem_mem hkn)
      have HT := Lib.hid hT
      have HOKk := Lib.hid (fun (h : okV rl[k] = true) j (hj : j < rl.length) (hjk : j < k + 1) => show okV rl[j] = true from by
        by_cases ej : j = k
        · subst ej; exact h
        · exact HA.out j hj (by omega))
      obtain ⟨W, hW⟩ : ∃ W, W = wr.alloc (.cells #[.bool rl[k].ex, .slice rl[k].A rl[k].xs.length rl[k].c, .bool rl[k].b, .slice rl[k].B rl[k].ys.length rl[k].d, .bool rl[k].f] 94) := ⟨_, rfl⟩
      have ha : Below wr.heap.size wr W := by rw [hW]; exact (Below.refl _ _).alloc (Nat.le_refl _) _
      have hbx : RBox W wr.heap.size rl[k].ex rl[k].A rl[k].xs.length rl[k].c rl[k].b rl[k].B rl[k].ys.length rl[k].d rl[k].f := by rw [hW]; exact RBox.new ..
      have HSK := Lib.hid (fun (w' : World) (hb : Below W.heap.size W w') => show w'.cell? ⟨wr.heap.size, 1, none⟩ = some (.slice rl[k].A rl[k].xs.length rl[k].c) ∧ w'.cell? ⟨wr.heap.size, 3, none⟩ = some (.slice rl[k].B rl[k].ys.length rl[k].d) from ⟨(hbx.keep hb).c1, (hbx.keep hb).c3⟩)
      have HRX := Lib.hid (hR.left.keep ha).rd
      have HRY := Lib.hid (fun (w' : World) (hb : Below W.heap.size W w') => ((hR.right.keep ha).keep hb).rd)
      have HNX := Lib.hid hR.left.nil
      have HNY := Lib.hid hR.right.nil
      have HWA := Lib.hid (hbw.trans (ha.mono hbw.size))
      have HLX := Lib.hid hl2
      obtain ⟨t0, t1, t2, t3, t4, tl⟩ := hbx
      have hT2 : ((sumL (rl.take (k + 1)) : Nat) : Int) = ((sumL (rl.take k) : Nat) : Int) + ((rl[k].xs.length : Int) + (rl[k].ys.length : Int)) := by rw [hT]; omega
      have HT2 := Lib.hid hT2
      clear hcell hbw ha hR hT hT2 HT hsb
      generalize rl[k].xs = xs at *
      generalize rl[k].ys = ys at *
      generalize rl[k].A = Ax at *
      generalize rl[k].B = Bx at *
      generalize rl[k].c = cx at *
      generalize rl[k].d = dx at *
      generalize sumL (rl.take k) = sk at *
      obtain ⟨n, hn⟩ : ∃ n, n = xs.length := ⟨_, rfl⟩
      obtain ⟨m, hm⟩ : ∃ m, m = ys.length := ⟨_, rfl⟩
      rw [← hn, ← hm] at hl2 HT2 HLX
      rw [← hn] at hW e1 t1
      rw [← hm] at hW e3 t3
      rw [← hn, ← hm] at HSK
      have hni : (n : Int) ≤ 1100000 := by omega
      have hmi2 : (m : Int) ≤ 1100000 := by omega
      have HN := Lib.hid hn
      have HM := Lib.hid hm
      have hw9 : W.heap.size = wr.heap.size + 1 := by rw [hW]; simp
      have HW9 := Lib.hid hw9
      clear hn hm hw9 hl2
      go_upto_region 6 with fail
      generalize hwg : wr.alloc (.cells #[.bool rl[k].ex, .slice Ax n cx, .bool rl[k].b, .slice Bx m dx, .bool rl[k].f] 94) = W7
      have hWW : W7 = W := by rw [← hwg, hW]
      subst hWW
      clear hwg hW
      go_region_held3 (fun w' => w'.cell? ⟨wr.heap.size, 1, none⟩ = some (.slice Ax n cx) ∧ w'.cell? ⟨wr.heap.size, 3, none⟩ = some (.slice Bx m dx))
        (first | exact HSK.out _ b6 | exact HSK.out _ b5 | exact HSK.out _ (below_drew (Below.refl _ _)) | exact HSK.out _ (Below.refl _ _) | go_keep)
        (first
          | (refine step_append_ssL rfl _ _ rfl W7.heap.size v5 ([] ++ xs) rfl hown5 Bx ys m dx HM.out rfl (HRY.out _ b5) HNY.out (by have h9 := HLX.out; have h8 := HN.out; have h7 := HM.out; simp only [List.nil_append]; omega) b5.size ?_; intro v6 w6 hown6 hb6
             have b6 : Below W7.heap.size W7 w6 := b5.trans hb6
             obtain ⟨A6, c6, rfl, hf1, hf2, hf3, hf4⟩ := hown6.form
             have F1 := Lib.hid hf1
             have F2 := Lib.hid hf2
             have F3 := Lib.hid hf3
             have F4 := Lib.hid hf4
             clear hf1 hf2 hf3 hf4 hown6)
          | (refine step_append_ssL rfl _ _ rfl W7.heap.size (.slice none 0 0) [] rfl (OwnS.empty _ _) Ax xs n cx HN.out rfl HRX.out HNX.out (by have h9 := HLX.out; have h8 := HN.out; simp; omega) (by first | exact Nat.le_refl _ | (simp; done)) ?_; intro v5 w5 hown5 hb5
             have b5 : Below W7.heap.size W7 w5 := (below_drew (Below.refl _ _)).trans hb5))
      have hLx : ([] ++ xs ++ ys : List ByteArray) = xs ++ ys := by simp
      rw [hLx] at F1 F3 ⊢
      clear hLx
      have hLl : ((xs.length : Int) + (ys.length : Int)) = ((xs ++ ys).length : Int) := by rw [List.length_append]; omega
      rw [hLl]
      obtain ⟨L, hL⟩ : ∃ L, L = xs ++ ys := ⟨_, rfl⟩
      rw [← hL] at F1 F3 ⊢
      have HLE := Lib.hid hL
      have hLi : (L.length : Int) ≤ 2200000 := by
        have h9 := HLX.out
        have h8 := HN.out
        have h7 := HM.out
        rw [hL, List.length_append]
        omega
      have HB6 := Lib.hid (HWA.out.trans (b6.mono HWA.out.size))
      clear hL hLl b6 hb6 hb5 hown5 b5 hni hmi2
      go_wp2
      go_loopg [34] L.length (fun gg s34 wx => ∃ (j : Nat), j + gg = L.length ∧ s34 = .int .i64 (j : Int) ∧ wx = w6 ∧ Aside (∀ i (hi : i < L.length), i < j → L[i].size ≤ 60))
      case atStart => exact ⟨0, by omega, rfl, rfl, fun i _ h => absurd h (Nat.not_lt_zero _)⟩
      case round =>
        obtain ⟨j, hj, rfl, rfl, HA2⟩ := hrel
        by_cases hjn : j < L.length
        · have i2 : (j : Int) < (L.length : Int) := by omega
          obtain ⟨g6, o6, hA6, hg6, hc6⟩ := F3.out.cells (by omega)
          subst hA6
          have cj := hc6 j hjn
          clear hc6
          by_cases h60 : L[j].size ≤ 60
          · have HZ := Lib.hid h60
            have i3 : ¬ (60 : Int) < (L[j].size : Int) := by omega
            generalize hx : L[j] = x at cj i3
            clear hx h60
            go_wp2
            go_roundg (L.length - (j + 1))
            case measure => go_light; omega
            case rel =>
              go_light
              refine ⟨j + 1, by omega, by go_num, rfl, (show Aside _ from fun i hi hij => ?_)⟩
              by_cases ei : i = j
              · subst ei; exact HZ.out
              · exact HA2.out i hi (by omega)
          · have hv := HOKF.out L HLE.out j hjn h60
            subst hv
            have i3 : (60 : Int) < (L[j].size : Int) := by omega
            generalize L[j] = x at cj i3
            go_wp2
            go_ret
            exact ⟨rfl, HB6.out⟩
        · have i2 : ¬ (j : Int) < (L.length : Int) := by omega
          have hok := HOKT.out L HLE.out (fun i hi => HA2.out i hi (by omega))
          have HOK := Lib.hid hok
          clear hok
          go_wp2
          go_roundg (rl.length - (k + 1))
          case measure => go_light; omega
          case rel =>
            go_light
            exact ⟨k + 1, by omega, by go_num, by rw [HT2.out], HB6.out, (show Aside _ from HOKk.out HOK.out)⟩
    · have i1 : ¬ (k : Int) < (rl.length : Int) := by omega
      have hv := HALL.out (fun j hj => HA.out j hj (by omega))
      have hkl : k = rl.length := by omega
      rw [hkl, List.take_length] at hsi hs0
      rw [hkl, List.take_length]
      have HV := Lib.hid hv
      clear hbw hsb hv
      generalize sumL rl = sk at *
      by_cases h20 : rl.length ≤ 20
      · have i2 : (rl.length : Int) ≤ 20 := by omega
        by_cases h200 : sk ≤ 200
        · have i3 : (sk : Int) ≤ 200 := by omega
          have hv : v = true := by rw [HV.out, decide_eq_true h20, decide_eq_true h200]; rfl
          subst hv
          go_wp2
          go_ret
          exact ⟨rfl, HBW.out⟩
        · have i3 : ¬ (sk : Int) ≤ 200 := by omega
          have hv : v = false := by rw [HV.out, decide_eq_true h20, decide_eq_false h200]; rfl
          subst hv
          go_wp2
          go_ret
          exact ⟨rfl, HBW.out⟩
      · have i2 : ¬ (rl.length : Int) ≤ 20 := by omega
        have hv : v = false := by rw [HV.out, decide_eq_false h20]; rfl
        subst hv
        go_wp2
        go_ret
        exact ⟨rfl, HBW.out⟩
def awakeV : Pt.Rul := ⟨false, ⟨[[100]], true⟩, ⟨[[99]], true⟩⟩
theorem awake6_fwd : Pt.Vw.vfwd [awakeV] [47, 47, 100, 47, 97] = some [47, 47, 99, 47, 97] := by decide +kernel
theorem awake6_dec : Pt.Vw.decides [awakeV] [47, 47, 101, 47, 97] = -1 := by decide +kernel
theorem pat_one (w : World) (x : ByteArray) (hx : x.size ≤ maxLen) (b : Bool) : PatR (w.alloc (.cells #[.string x] 9)) (some ⟨w.heap.size, 0, none⟩) [x] 1 b ⟨bs [x], b⟩ :=
  ⟨new_one w x _, rfl, rfl, by simp, by decide, fun h => (by cases h), fun y hy => by rw [List.mem_singleton.1 hy]; exact hx⟩
set_option maxHeartbeats 4000000 in
theorem awake6_any (w : World) (hm : MaxL w) : Calls Tryz.prog 37 #[] w (GivesBB w true) := by
  obtain ⟨W1, hW1⟩ : ∃ W1, W1 = w.alloc (.cells #[.string ⟨#[100]⟩] 9) := ⟨_, rfl⟩
  obtain ⟨W2, hW2⟩ : ∃ W2, W2 = W1.alloc (.cells #[.string ⟨#[99]⟩] 9) := ⟨_, rfl⟩
  have hs1 : W1.heap.size = w.heap.size + 1 := by rw [hW1]; simp
  have hs2 : W2.heap.size = w.heap.size + 1 + 1 := by rw [hW2]; simp [hs1]
  have b1 : Below w.heap.size w W1 := by rw [hW1]; exact (Below.refl _ _).alloc (Nat.le_refl _) _
  have b2 : Below W1.heap.size W1 W2 := by rw [hW2]; exact (Below.refl _ _).alloc (Nat.le_refl _) _
  have p1 : PatR W1 (some ⟨w.heap.size, 0, none⟩) [⟨#[100]⟩] 1 true ⟨bs [⟨#[100]⟩], true⟩ := by rw [hW1]; exact pat_one w _ (by decide) true
  have p2 : PatR W2 (some ⟨w.heap.size + 1, 0, none⟩) [⟨#[99]⟩] 1 true ⟨bs [⟨#[99]⟩], true⟩ := by rw [← hs1, hW2]; exact pat_one W1 _ (by decide) true
  obtain ⟨W3, hW3⟩ : ∃ W3, W3 = W2.alloc (.cells #[.slice (some ⟨w.heap.size, 0, none⟩) 1 1, .bool true] 24) := ⟨_, rfl⟩
  obtain ⟨W4, hW4⟩ : ∃ W4, W4 = W3.alloc (.cells #[.slice (some ⟨w.heap.size + 1, 0, none⟩) 1 1, .bool true] 24) := ⟨_, rfl⟩
  have hs3 : W3.heap.size = w.heap.size + 1 + 1 + 1 := by rw [hW3]; simp [hs2]
  have hs4 : W4.heap.size = w.heap.size + 1 + 1 + 1 + 1 := by rw [hW4]; simp [hs3]
  have b3 : Below W2.heap.size W2 W3 := by rw [hW3]; exact (Below.refl _ _).alloc (Nat.le_refl _) _
  have b4 : Below W3.heap.size W3 W4 := by rw [hW4]; exact (Below.refl _ _).alloc (Nat.le_refl _) _
  obtain ⟨y, hy⟩ : ∃ y : RulV, y = ⟨false, some ⟨w.heap.size, 0, none⟩, [⟨#[100]⟩], 1, true, some ⟨w.heap.size + 1, 0, none⟩, [⟨#[99]⟩], 1, true⟩ := ⟨_, rfl⟩
  have hyr : RulV.R W4 y := by rw [hy]; exact ⟨rfl, ((p1.keep b2).keep b3).keep b4, (p2.keep b3).keep b4⟩
  have hyv : [y].map RulV.rul = [awakeV] := by rw [hy]; rfl
  obtain ⟨W5, hW5⟩ : ∃ W5, W5 = W4.alloc (.cells #[.bool y.ex, .slice y.A y.xs.length y.c, .bool y.b, .slice y.B y.ys.length y.d, .bool y.f] 94) := ⟨_, rfl⟩
  have hrd : RdV W5 (some ⟨w.heap.size + 1 + 1 + 1 + 1, 0, none⟩) [y] 1 := by rw [← hs4, hW5]; exact newV W4 y hyr
  have b5 : Below W4.heap.size W4 W5 := by rw [hW5]; exact (Below.refl _ _).alloc (Nat.le_refl _) _
  have b15 : Below w.heap.size w W5 := (((b1.trans (b2.mono b1.size)).trans (b3.mono (by omega))).trans (b4.mono (by omega))).trans (b5.mono (by omega))
  have hz : SzV 100000 [y] := by
    intro x hx
    rw [List.mem_singleton.1 hx, hy]
    refine ⟨fun z hz => ?_, fun z hz => ?_⟩
    · rw [List.mem_singleton.1 hz]; decide
    · rw [List.mem_singleton.1 hz]; decide
  have hF := vfwd_any (some ⟨w.heap.size + 1 + 1 + 1 + 1, 0, none⟩) [y] 1 ⟨#[47, 47, 100, 47, 97]⟩ W5 hrd hz (by decide) (hm.keep b15 hm.size)
  rw [hyv, show (⟨#[47, 47, 100, 47, 97]⟩ : ByteArray).data.toList = [47, 47, 100, 47, 97] from rfl, awake6_fwd] at hF
  have hF2 : Calls Tryz.prog 42 #[.slice (some ⟨w.heap.size + 1 + 1 + 1 + 1, 0, none⟩) 1 1, .string ⟨#[47, 47, 100, 47, 97]⟩] W5 (GivesFw W5 (some [47, 47, 99, 47, 97])) := hF
  have HF := Lib.hid hF2
  have HD := Lib.hid (fun (w' : World) (hb : Below W5.heap.size W5 w') => show Calls Tryz.prog 44 #[.slice (some ⟨w.heap.size + 1 + 1 + 1 + 1, 0, none⟩) 1 1, .string ⟨#[47, 47, 101, 47, 97]⟩] w' (fun en w2 => en = .returned (.int .i64 (-1)) ∧ Below w'.heap.size w' w2) from by
    have h := vdec_any (some ⟨w.heap.size + 1 + 1 + 1 + 1, 0, none⟩) [y] 1 ⟨#[47, 47, 101, 47, 97]⟩ w' (hrd.keep hb) (by decide) ((hm.keep b15 hm.size).keep hb (hm.keep b15 hm.size).size)
    rw [hyv, show (⟨#[47, 47, 101, 47, 97]⟩ : ByteArray).data.toList = [47, 47, 101, 47, 97] from rfl, awake6_dec] at h
    exact h)
  have HW := Lib.hid b15
  rw [hy] at hW5
  simp only [List.length_cons, List.length_nil] at hW5
  subst hW1
  subst hW2
  subst hW3
  subst hW4
  subst hW5
  clear hs1 hs2 hs3 hs4 b1 b2 b3 b4 b5 b15 p1 p2 hyr hyv hrd hz hF hF2 hy
  go_enter Tryz.func37, Tryz.ntmps37
  go_wp2_with fail
  with_reducible refine HF.out.mono ?_
  rintro e w1 ⟨rfl, hb1⟩
  have HB1 := Lib.hid hb1
  clear hb1
  go_wp2_with fail
  with_reducible refine (HD.out _ HB1.out).mono ?_
  rintro e w2 ⟨rfl, hb2⟩
  have HB2 := Lib.hid (HB1.out.trans (hb2.mono HB1.out.size))
  clear hb2
  go_wp2
  go_ret
  exact ⟨rfl, HW.out.trans (HB2.out.mono HW.out.size)⟩
end Go.Proofs.YtipljgkhooeeiaaGreatDoor
