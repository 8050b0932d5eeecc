/- The contracts of the program's areComponents, wildcards, areCaptures, filled. -/
import Derived.Test.YthgcnlhlhipllaaGreatDoorPatGo6
namespace Go.Proofs.YthgcnlhlhipllaaGreatDoor
open Go.RowKit

theorem areComponents_any (A : Option Addr) (xs : List ByteArray) (c : Nat) (w : World) (hr : RdS w w.heap.size A xs) (hc : xs.length ≤ c) (hcm : c ≤ maxLen) (hx : ∀ x ∈ xs, x.size ≤ maxLen) :
    Calls Tryz.prog 158 #[.slice A xs.length c] w fun e w' => e = .returned (.bool ((bs xs).all Pm.comp)) ∧ w = w' := by
  unfold maxLen at hcm
  have HX := Lib.hid hx
  have HR := Lib.hid hr
  have HA := Lib.hid (show ((bs xs).drop 0).all Pm.comp = (bs xs).all Pm.comp by simp)
  generalize (bs xs).all Pm.comp = b at HA ⊢
  obtain ⟨n, hn⟩ : ∃ n, n = xs.length := ⟨_, rfl⟩
  rw [← hn] at hc ⊢
  have HN := Lib.hid hn
  have hnm : (n : Int) ≤ 9223372036854775807 := by omega
  clear hn hr hx
  go_enter Tryz.func158, Tryz.ntmps158
  go_wp2
  go_loop [7] (fun i => ∃ k : Nat, k ≤ n ∧ i = .int .i64 k ∧ ((bs xs).drop k).all Pm.comp = b) (fun i => n - (intOf i).toNat)
  case atStart => exact ⟨0, by omega, rfl, HA.out⟩
  case round =>
    obtain ⟨k, hkn, rfl, hall⟩ := hrel
    have HB := Lib.hid hall
    clear hall
    by_cases hlt : k < n
    · have hlx : k < xs.length := by rw [← HN.out]; exact hlt
      obtain ⟨g, o, rfl, hg, hcell0⟩ := HR.out.cells (by omega)
      have hcell := hcell0 k hlx
      have hsz : xs[k].size ≤ maxLen := HX.out _ (List.getElem_mem hlx)
      have HD := Lib.hid (bs_drop hlx)
      clear hcell0
      generalize xs[k] = x at hcell hsz HD
      have HF := Lib.hid (fun w : World => comp_any x w hsz)
      clear hsz
      cases hv : Pm.comp x.data.toList with
      | true =>
        rw [hv] at HD HF
        go_wp2_with fail
        with_reducible refine (HF.out _).mono ?_
        rintro e w' ⟨rfl, rfl⟩
        go_wp2
        go_round
        case rel => exact ⟨k + 1, by omega, by go_num, by have := HD.out; rw [HB.out] at this; simpa using this.symm⟩
        case measure => simp [intOf]; omega
      | false =>
        rw [hv] at HD HF
        have hb : b = false := by have := HD.out; rw [HB.out] at this; simpa using this
        subst hb
        go_wp2_with fail
        with_reducible refine (HF.out _).mono ?_
        rintro e w' ⟨rfl, rfl⟩
        go_wp2
        go_ret
        exact ⟨rfl, rfl⟩
    · have hb : b = true := by
        rw [← HB.out, List.drop_of_length_le (by rw [bs_length, ← HN.out]; omega)]
        rfl
      subst hb
      go_wp2
      go_ret
      exact ⟨rfl, rfl⟩

theorem wildcards_any (s : Nat) (r : Bool) (w : World) (hs : s ≤ 1000000) : Calls Tryz.prog 157 #[.int .i64 (s : Int), .bool r] w fun e w' => e = .returned (.int .i64 ((s + if r then 1 else 0 : Nat) : Int)) ∧ w = w' := by
  cases r with
  | false =>
    go_enter Tryz.func157, Tryz.ntmps157
    go_wp2
    go_ret
    exact ⟨rfl, rfl⟩
  | true =>
    go_enter Tryz.func157, Tryz.ntmps157
    go_wp2
    go_ret
    exact ⟨rfl, rfl⟩

def capsOkN (s : Nat) (r : Bool) (caps : List (List UInt8)) : Bool := decide (caps.length = s + if r then 1 else 0) && (caps.take s).all Pm.comp && (!r || (Pm.segs (caps.getD s [])).all Pm.comp)
theorem strs_sizes {l : List UInt8} {ys : List ByteArray} (h : bs ys = Pm.segs l) (hl : l.length ≤ 9000000000) : ∀ y ∈ ys, y.size ≤ maxLen := by
  intro y hy
  have h5 := segs_elem_le l y.data.toList (by rw [← h]; exact List.mem_map_of_mem hy)
  rw [← Lib.size_eq] at h5
  unfold maxLen
  omega
set_option maxHeartbeats 1000000 in
theorem areCaptures_any (A : Option Addr) (ys : List ByteArray) (d s : Nat) (r : Bool) (w : World) (hr : RdS w w.heap.size A ys) (hd : ys.length ≤ d) (hdm : d ≤ maxLen) (hnil : A = none → d = 0) (hy : ∀ y ∈ ys, y.size ≤ 100000) (hs : s ≤ 1000) (hm : MaxL w) :
    Calls Tryz.prog 134 #[.slice A ys.length d, .int .i64 (s : Int), .bool r] w (GivesBB w (capsOkN s r (bs ys))) := by
  have hv : capsOkN s r (bs ys) = (decide (ys.length = s + if r then 1 else 0) && ((bs ys).take s).all Pm.comp && (!r || (Pm.segs ((bs ys).getD s [])).all Pm.comp)) := by unfold capsOkN; rw [bs_length]
  have HW := Lib.hid (fun w : World => wildcards_any s r w (by omega))
  have HAC := Lib.hid (fun (hl : s ≤ ys.length) (w' : World) (hb : Below w.heap.size w w') => areComponents_any A (ys.take s) d w' (((hr.take s).keep hb).more hb.size) (by rw [List.length_take]; omega) hdm (fun y hy' => Nat.le_trans (hy y (List.mem_of_mem_take hy')) (by decide)))
  have hdi : (d : Int) ≤ 9223372036854775807 := by unfold maxLen at hdm; omega
  have HY := Lib.hid hy
  have HR := Lib.hid hr
  generalize capsOkN s r (bs ys) = v at hv ⊢
  by_cases hl : ys.length = s + if r then 1 else 0
  · have hsl : s ≤ ys.length := by omega
    have htl : (ys.take s).length = s := by rw [List.length_take]; omega
    have HA2 := Lib.hid (HAC.out hsl)
    rw [htl, bs_takeN] at HA2
    rw [decide_eq_true hl, Bool.true_and] at hv
    have hd2 : (s : Int) ≤ (d : Int) := by omega
    have hs2 : (s : Int) ≤ (ys.length : Int) := by omega
    generalize hca : ((bs ys).take s).all Pm.comp = ca at HA2 hv
    cases ca with
    | false =>
      have hvf : v = false := by rw [hv]; rfl
      subst hvf
      rw [← hl] at HW
      generalize ys.length = m at *
      clear hv hl HAC hr hy hca
      go_enter Tryz.func134, Tryz.ntmps134
      go_wp2_with fail
      with_reducible refine (HW.out _).mono ?_
      rintro e w' ⟨rfl, rfl⟩
      go_wp2_with fail
      with_reducible refine (HA2.out _ (Below.refl _ _)).mono ?_
      rintro e w' ⟨rfl, rfl⟩
      go_wp2
      go_ret
      exact ⟨rfl, Below.refl _ _⟩
    | true =>
      cases r with
      | false =>
        have hvt : v = true := by rw [hv]; rfl
        subst hvt
        rw [← hl] at HW
        generalize ys.length = m at *
        clear hv hl HAC hr hy hca
        go_enter Tryz.func134, Tryz.ntmps134
        go_wp2_with fail
        with_reducible refine (HW.out _).mono ?_
        rintro e w' ⟨rfl, rfl⟩
        go_wp2_with fail
        with_reducible refine (HA2.out _ (Below.refl _ _)).mono ?_
        rintro e w' ⟨rfl, rfl⟩
        go_wp2
        go_ret
        exact ⟨rfl, Below.refl _ _⟩
      | true =>
        simp only [if_true] at hl
        have hly : s < ys.length := by omega
        have hgd : (bs ys).getD s [] = ys[s].data.toList := by
          rw [List.getD_eq_getElem?_getD, List.getElem?_eq_getElem (by rw [bs_length]; exact hly)]
          exact bs_get ys s hly
        rw [hgd] at hv
        simp only [Bool.not_true, Bool.false_or, Bool.true_and] at hv
        obtain ⟨g, o, rfl, hg, hcell⟩ := hr.cells (by omega)
        have hce := hcell s hly
        have hsz : ys[s].size ≤ 100000 := hy _ (List.getElem_mem hly)
        generalize ys[s] = y at *
        have HS := Lib.hid (fun (w : World) (hm : MaxL w) => split_any y ⟨#[47]⟩ w rfl (by omega) hm)
        have hyl : y.data.toList.length ≤ 9000000000 := by rw [← Lib.size_eq]; omega
        have HSL := Lib.hid hyl
        have hls : ((ys.length : Nat) : Int) = ((s + 1 : Nat) : Int) := by omega
        rw [if_pos rfl, ← hl] at HW
        have i1 : (s : Int) < (ys.length : Int) := by omega
        clear hl HAC hr hy hca hgd hcell hyl hly
        generalize ys.length = m at *
        have HV := Lib.hid hv
        clear hv
        go_enter Tryz.func134, Tryz.ntmps134
        go_wp2_with fail
        with_reducible refine (HW.out _).mono ?_
        rintro e w' ⟨rfl, rfl⟩
        go_wp2_with fail
        with_reducible refine (HA2.out _ (Below.refl _ _)).mono ?_
        rintro e w' ⟨rfl, rfl⟩
        go_wp2_with fail
        with_reducible refine (HS.out _ hm).mono ?_
        rintro e w1 ⟨_, rfl, B, zs, c', rfl, hbz, hc', hcm', hr', hb1⟩
        have HAZ := Lib.hid (areComponents_any B zs c' w1 hr' hc' hcm' (strs_sizes hbz HSL.out))
        rw [hbz, ← HV.out] at HAZ
        have HB1 := Lib.hid hb1
        clear hbz hc' hcm' hr' hb1
        generalize zs.length = z at *
        go_wp2_with fail
        with_reducible refine HAZ.out.mono ?_
        rintro e w' ⟨rfl, rfl⟩
        go_wp2
        go_ret
        exact ⟨rfl, HB1.out⟩
  · have hvf : v = false := by rw [hv, decide_eq_false hl]; rfl
    subst hvf
    have hli : ((ys.length : Int) == ((s + if r then 1 else 0 : Nat) : Int)) = false := by rw [beq_eq_false_iff_ne]; omega
    have hli2 : ((ys.length : Int) != ((s + if r then 1 else 0 : Nat) : Int)) = true := by rw [bne, hli]; rfl
    generalize (s + if r then 1 else 0) = t at *
    generalize ys.length = m at *
    clear hv HAC hr hy hl
    go_enter Tryz.func134, Tryz.ntmps134
    go_wp2_with fail
    with_reducible refine (HW.out _).mono ?_
    rintro e w' ⟨rfl, rfl⟩
    go_wp2
    go_ret
    exact ⟨rfl, Below.refl _ _⟩
end Go.Proofs.YthgcnlhlhipllaaGreatDoor
