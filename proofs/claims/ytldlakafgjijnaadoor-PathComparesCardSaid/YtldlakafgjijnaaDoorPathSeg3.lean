/- The contracts of the reference's Compare and Under. -/
import Derived.Test.YtldlakafgjijnaaDoorPathSeg2
namespace Go.Proofs.YtldlakafgjijnaaDoor
open Go.RowKit

theorem scmp_any (a b : ByteArray) (w : World) : Calls Tryd.prog 35 #[.string a, .string b] w fun e w' => e = .returned (.int .i64 (Lib.compareBytes a.data.toList b.data.toList)) ∧ w = w' := by
  refine (Tryd.strings_Compare a b w).mono ?_
  rintro e w' ⟨rfl, rfl⟩
  exact ⟨rfl, rfl⟩
theorem quiet_left {P : Program} {f : FuncId} {args : Array Value} {w : World} {n : Nat} {v : Value}
    (h : Calls P f args (w.drewN n) fun e w' => e = .returned v ∧ w.drewN n = w') : Calls P f args (w.drewN n) fun e w'' => e = .returned v ∧ ∃ m, w'' = w.drewN m :=
  h.mono fun _ _ ⟨he, hm⟩ => ⟨he, n, hm.symm⟩

theorem cmpParts_drop : ∀ (k : Nat) (l m : List (List UInt8)), l.take k = m.take k → k ≤ l.length → k ≤ m.length → Pm.cmpParts l m = Pm.cmpParts (l.drop k) (m.drop k)
  | 0, _, _, _, _, _ => by simp
  | k + 1, [], _, _, h, _ => by simp at h
  | k + 1, _ :: _, [], _, _, h => by simp at h
  | k + 1, x :: l, y :: m, h, h1, h2 => by
    simp only [List.take_succ_cons, List.cons.injEq] at h
    obtain ⟨rfl, h⟩ := h
    rw [Pm.cmpParts, Pm.compareBytes_self, if_neg (by simp), List.drop_succ_cons, List.drop_succ_cons]
    exact cmpParts_drop k l m h (by simpa using h1) (by simpa using h2)
theorem cmpParts_at {l m : List (List UInt8)} {k : Nat} (h1 : k < l.length) (h2 : k < m.length) (h : l.take k = m.take k) (hne : Lib.compareBytes l[k] m[k] ≠ 0) : Pm.cmpParts l m = Lib.compareBytes l[k] m[k] := by
  rw [cmpParts_drop k l m h (by omega) (by omega), List.drop_eq_getElem_cons h1, List.drop_eq_getElem_cons h2, Pm.cmpParts, if_pos hne]
theorem cmpParts_end {l m : List (List UInt8)} {k : Nat} (hk : k = min l.length m.length) (h : l.take k = m.take k) : Pm.cmpParts l m = if l.length < m.length then -1 else if m.length < l.length then 1 else 0 := by
  rw [cmpParts_drop k l m h (by omega) (by omega)]
  by_cases h1 : l.length < m.length
  · rw [if_pos h1, List.drop_of_length_le (by omega), List.drop_eq_getElem_cons (show k < m.length by omega)]
    rfl
  · rw [if_neg h1]
    by_cases h2 : m.length < l.length
    · rw [if_pos h2, List.drop_of_length_le (show m.length ≤ k by omega), List.drop_eq_getElem_cons (show k < l.length by omega)]
      rfl
    · rw [if_neg h2, List.drop_of_length_le (show m.length ≤ k by omega), List.drop_of_length_le (by omega)]
      rfl

theorem rcmp_any (A B : Option Addr) (xs ys : List ByteArray) (c d BA BB : Nat) (w : World) (ha : RdS w BA A xs) (hb : RdS w BB B ys) (h1 : xs.length ≤ maxLen) (h2 : ys.length ≤ maxLen) :
    Calls Tryd.prog 23 #[.slice A xs.length c, .slice B ys.length d] w (GivesI w (Pm.cmpParts (bs xs) (bs ys))) := by
  unfold maxLen at h1 h2
  have hCA : 0 < xs.length → ∃ g o, A = some ⟨g, o, none⟩ ∧ ∀ j (h : j < xs.length), w.cell? ⟨g, o + j, none⟩ = some (.string xs[j]) := by
    intro h
    obtain ⟨g, o, h1, _, h2⟩ := ha.cells h
    exact ⟨g, o, h1, h2⟩
  have hCB : 0 < ys.length → ∃ g o, B = some ⟨g, o, none⟩ ∧ ∀ j (h : j < ys.length), w.cell? ⟨g, o + j, none⟩ = some (.string ys[j]) := by
    intro h
    obtain ⟨g, o, h1, _, h2⟩ := hb.cells h
    exact ⟨g, o, h1, h2⟩
  have HA := Lib.hid hCA
  have HB := Lib.hid hCB
  obtain ⟨n, hn⟩ : ∃ n, n = xs.length := ⟨_, rfl⟩
  obtain ⟨m, hn2⟩ : ∃ m, m = ys.length := ⟨_, rfl⟩
  rw [← hn2] at h2 ⊢
  rw [← hn] at h1 ⊢
  have HN := Lib.hid hn
  have HM := Lib.hid hn2
  obtain ⟨v, hv⟩ : ∃ v, v = Pm.cmpParts (bs xs) (bs ys) := ⟨_, rfl⟩
  rw [← hv]
  have HV := Lib.hid hv
  clear hCA hCB ha hb hn hn2 hv
  go_enter Tryd.func23, Tryd.ntmps23
  go_wp2
  go_loopw [5] (fun i wr => ∃ k : Nat, k ≤ n ∧ k ≤ m ∧ i = .int .i64 k ∧ (bs xs).take k = (bs ys).take k ∧ Drew w wr) (fun i _ => n - (intOf i).toNat)
  case atStart => exact ⟨0, by omega, by omega, rfl, by simp, Drew.refl _⟩
  case round =>
    obtain ⟨k, hkn, hkm, rfl, htk, hdr⟩ := hrel
    have HT := Lib.hid htk
    clear htk
    by_cases hlt : k < n ∧ k < m
    · obtain ⟨hk1, hk2⟩ := hlt
      have l1 : k < xs.length := by rw [← HN.out]; exact hk1
      have l2 : k < ys.length := by rw [← HM.out]; exact hk2
      obtain ⟨g, o, rfl, hca⟩ := HA.out (by omega)
      obtain ⟨g', o', rfl, hcb⟩ := HB.out (by omega)
      have c1 : wr.cell? ⟨g, o + k, none⟩ = some (.string xs[k]) := ((hdr.below (g + 1)).cell (p := ⟨g, o + k, none⟩) (by simp)).trans (hca k l1)
      have c2 : wr.cell? ⟨g', o' + k, none⟩ = some (.string ys[k]) := ((hdr.below (g' + 1)).cell (p := ⟨g', o' + k, none⟩) (by simp)).trans (hcb k l2)
      have b1 : k < (bs xs).length := by rw [bs_length]; exact l1
      have b2 : k < (bs ys).length := by rw [bs_length]; exact l2
      have HAT := Lib.hid (fun hne => cmpParts_at b1 b2 HT.out hne)
      rw [bs_get xs k l1, bs_get ys k l2] at HAT
      have HT2 := Lib.hid (show Lib.compareBytes xs[k].data.toList ys[k].data.toList = 0 → (bs xs).take (k + 1) = (bs ys).take (k + 1) from by
        intro h
        rw [List.take_succ_eq_append_getElem b1, List.take_succ_eq_append_getElem b2, HT.out, bs_get xs k l1, bs_get ys k l2, Pm.compareBytes_zero h])
      have HQ := Lib.hid (fun w : World => scmp_any xs[k] ys[k] w)
      clear hca hcb
      by_cases he : Lib.compareBytes xs[k].data.toList ys[k].data.toList = 0
      · rw [he] at HQ
        have HT3 := Lib.hid (HT2.out he)
        clear HAT HT2 he
        generalize xs[k] = x at *
        generalize ys[k] = y at *
        go_wp2
        go_quiet ((go_at_call 35; exact quiet_left (HQ.out _)))
        go_wp2
        go_roundw
        case rel => exact ⟨k + 1, by omega, by omega, by go_num, HT3.out, hdr.trans ⟨_, rfl⟩⟩
        case measure => simp [intOf]; omega
      · have hv := HAT.out he
        rw [← HV.out] at hv
        have t1 : (Lib.compareBytes xs[k].data.toList ys[k].data.toList == 0) = false := by rw [beq_eq_false_iff_ne]; exact he
        have t2 : (Lib.compareBytes xs[k].data.toList ys[k].data.toList != 0) = true := by simpa using he
        rw [← hv] at t1 t2 HQ
        clear HAT HT2 he hv
        generalize xs[k] = x at *
        generalize ys[k] = y at *
        go_wp2
        go_quiet ((go_at_call 35; exact quiet_left (HQ.out _)))
        go_wp2
        go_ret
        exact ⟨rfl, hdr.trans ⟨_, rfl⟩⟩
    · have hv := HV.out.trans (cmpParts_end (k := k) (by rw [bs_length, bs_length, ← HN.out, ← HM.out]; omega) HT.out)
      rw [bs_length, bs_length, ← HN.out, ← HM.out] at hv
      clear HT HV
      by_cases hx : n < m
      · rw [if_pos hx] at hv
        subst hv
        have q1 : ¬ k < n := by omega
        clear hlt
        go_wp2
        go_ret
        exact ⟨rfl, hdr⟩
      · rw [if_neg hx] at hv
        by_cases hy : m < n
        · rw [if_pos hy] at hv
          subst hv
          have q1 : k < n := by omega
          have q2 : ¬ k < m := by omega
          clear hlt
          go_wp2
          go_ret
          exact ⟨rfl, hdr⟩
        · rw [if_neg hy] at hv
          subst hv
          have q1 : ¬ k < n := by omega
          clear hlt
          go_wp2
          go_ret
          exact ⟨rfl, hdr⟩

def underP (l m : List (List UInt8)) : Bool := decide (m.length > l.length) && decide (Pm.cmpParts l (m.take l.length) = 0)
theorem bs_take (xs : List ByteArray) (k : Nat) : bs (xs.take k) = (bs xs).take k := by simp [bs]
theorem runder_any (A B : Option Addr) (xs ys : List ByteArray) (c d BA BB : Nat) (w : World) (ha : RdS w BA A xs) (hb : RdS w BB B ys) (h1 : xs.length ≤ maxLen) (hd : ys.length ≤ d) (h2 : d ≤ maxLen) :
    Calls Tryd.prog 26 #[.slice A xs.length c, .slice B ys.length d] w (GivesB w (underP (bs xs) (bs ys))) := by
  have hmx : maxLen = 9223372036854775807 := rfl
  unfold underP
  rw [bs_length, bs_length]
  by_cases hlt : xs.length < ys.length
  · have ht : (ys.take xs.length).length = xs.length := by rw [List.length_take]; omega
    have HC := Lib.hid (rcmp_any A B xs (ys.take xs.length) c d BA BB w ha (hb.take _) h1 (by omega))
    rw [ht, bs_take] at HC
    rw [decide_eq_true (show ys.length > xs.length from hlt), Bool.true_and]
    generalize Pm.cmpParts (bs xs) ((bs ys).take xs.length) = v at HC
    obtain ⟨n, hn⟩ : ∃ n, n = xs.length := ⟨_, rfl⟩
    obtain ⟨m, hn2⟩ : ∃ m, m = ys.length := ⟨_, rfl⟩
    rw [← hn] at HC hlt ⊢
    rw [← hn2] at hlt hd ⊢
    have hnd : n ≤ d := by omega
    have hm9 : (m : Int) ≤ 9223372036854775807 := by omega
    have hd9 : (d : Int) ≤ 9223372036854775807 := by omega
    clear ht hn hn2 h1 h2 ha hb hmx
    go_enter Tryd.func26, Tryd.ntmps26
    go_wp2_with fail
    with_reducible refine HC.out.mono ?_
    rintro e w1 ⟨rfl, hdr⟩
    go_wp2
    go_ret
    exact ⟨ret_bool (by rw [Bool.eq_iff_iff]; simp), hdr⟩
  · rw [decide_eq_false (show ¬ ys.length > xs.length from hlt), Bool.false_and]
    have hm9 : (ys.length : Int) ≤ 9223372036854775807 := by omega
    have hn9 : (xs.length : Int) ≤ 9223372036854775807 := by omega
    clear ha hb hmx h1 h2
    generalize xs.length = n at *
    generalize ys.length = m at *
    go_enter Tryd.func26, Tryd.ntmps26
    go_wp2
    go_ret
    exact ⟨rfl, Drew.refl _⟩
end Go.Proofs.YtldlakafgjijnaaDoor
