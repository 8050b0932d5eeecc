/- PathJoins returns true at every slice of strings, and leaves it as it was. Conditions: none of its own. -/
import Derived.Test.YtldlakafgjijnaaPathApp
import Derived.WalkKit
import Derived.ProofKit
import Derived.OpenShut
import Derived.ShutString
import Derived.ChangeOld
import Derived.SliceStrings
namespace Go.Proofs.Ytldlakafgjijnaa.pathJoins
open Go.ChangeShapes Go.WideShapes Go.ChangeAt Go.RowKit
set_option linter.unusedVariables false

theorem own : ownKnob Try.prog.godebug = none := by kernel_rfl
theorem laidOut : laidOutB Try.prog = true := by kernel_rfl

theorem lib_join_len : ∀ (l : List (List UInt8)), (∀ x ∈ l, x.length ≤ 400) → (Lib.join l [47]).length ≤ l.length * 401
  | [], _ => by simp [Lib.join_nil]
  | [x], h => by
    have := h x (by simp)
    rw [Lib.join_one]
    simp
    omega
  | x :: y :: r, h => by
    have h1 := h x (by simp)
    have h2 := lib_join_len (y :: r) fun z hz => h z (by simp [hz])
    rw [Pm.lib_join_cons]
    simp at h2 ⊢
    omega
theorem take_ok {n k : Nat} {xs : List ByteArray} (hk : k < xs.length) {b : Bool} (hb : (decide (2 ≤ n) && ((bs xs).take k).all Pm.comp) = b) :
    (decide (2 ≤ n) && ((bs xs).take (k + 1)).all Pm.comp) = (b && Pm.comp xs[k].data.toList) := by
  rw [List.take_succ_eq_append_getElem (by rw [bs_length]; exact hk), List.all_append, bs_get xs k hk, ← hb]
  simp [Bool.and_assoc]
set_option maxHeartbeats 4000000 in
theorem walk (A : Option Addr) (xs : List ByteArray) (c : Nat) (w : World) (hr : RdS w w.heap.size A xs) (hc : xs.length ≤ c) (hcm : c ≤ maxLen) (hnil : A = none → c = 0) (hx : ∀ x ∈ xs, x.size ≤ maxLen) (hm : MaxL w) :
    Calls Try.prog 3 #[.slice A xs.length c] w fun e w' => e = .returned (.bool true) ∧ Below w.heap.size w w' := by
  have HAw := Lib.hid (fun (w : World) (hm : MaxL w) => awake_any w hm)
  have HX := Lib.hid hx
  obtain ⟨n, hn⟩ : ∃ n, n = xs.length := ⟨_, rfl⟩
  have HN := Lib.hid hn
  unfold maxLen at hcm
  by_cases h20 : 20 < n
  · rw [← hn] at hc ⊢
    clear hn hx hr
    go_enter Try.func3, Try.ntmps3
    go_wp2_with fail
    with_reducible refine (HAw.out _ hm).mono ?_
    rintro e w9 ⟨rfl, hd9⟩
    go_wp2
    go_ret
    exact ⟨rfl, hd9.below _⟩
  · have HR := Lib.hid hr
    have HNIL := Lib.hid hnil
    have HCM := Lib.hid hcm
    rw [← hn] at hc ⊢
    clear hn hx hnil
    have hcell : 0 < n → ∃ g o, A = some ⟨g, o, none⟩ ∧ ∀ j (h : j < xs.length), w.cell? ⟨g, o + j, none⟩ = some (.string xs[j]) := by
      intro h
      obtain ⟨g, o, h1, _, h2⟩ := HR.out.cells (by rw [← HN.out]; exact h)
      exact ⟨g, o, h1, h2⟩
    have HC := Lib.hid hcell
    clear hcell hr
    go_enter Try.func3, Try.ntmps3
    go_wp2
    go_loop [3, 18] (fun ok i => ∃ (k : Nat) (b : Bool), k ≤ n ∧ i = .int .i64 k ∧ ok = .bool b ∧ (decide (2 ≤ n) && ((bs xs).take k).all Pm.comp) = b ∧ ∀ j (h : j < xs.length), j < k → xs[j].size ≤ 400) (fun _ i => n - (intOf i).toNat)
    case atStart =>
      refine ⟨0, decide (2 ≤ n), by omega, rfl, ?_, by simp, fun _ _ h => absurd h (by omega)⟩
      congr 1
      rw [decide_eq_decide]
      omega
    case round =>
      obtain ⟨k, b, hkn, rfl, rfl, hb, hall⟩ := hrel
      have HB := Lib.hid hb
      have HL := Lib.hid hall
      clear hb hall
      by_cases hlt : k < n
      · have hlx : k < xs.length := by rw [← HN.out]; exact hlt
        obtain ⟨g, o, rfl, hcell⟩ := HC.out (by omega)
        have hce := hcell k hlx
        have hsz := HX.out _ (List.getElem_mem hlx)
        have HT := Lib.hid (take_ok hlx HB.out)
        have HS := Lib.hid (fun (h : xs[k].size ≤ 400) => (fun j (hj : j < xs.length) (hjk : j < k + 1) => (by
          rcases Nat.lt_or_ge j k with h1 | h1
          · exact HL.out j hj h1
          · obtain rfl : j = k := by omega
            exact h : xs[j].size ≤ 400)))
        clear hcell
        generalize hxk : xs[k] = x at hce hsz HT HS
        clear hxk
        have HLo := Lib.hid (fun w : World => long_any x w)
        have HCo := Lib.hid (fun w : World => rcomp_any x w hsz)
        clear hsz
        by_cases hlo : 400 < x.size
        · have e1 : decide (400 < x.size) = true := by simpa using hlo
          rw [e1] at HLo
          clear e1 hlo
          go_wp2_with fail
          with_reducible refine (HLo.out _).mono ?_
          rintro e w' ⟨rfl, rfl⟩
          go_wp2_with fail
          with_reducible refine (HAw.out _ hm).mono ?_
          rintro e w9 ⟨rfl, hd9⟩
          go_wp2
          go_ret
          exact ⟨rfl, hd9.below _⟩
        · have e1 : decide (400 < x.size) = false := by simpa using hlo
          rw [e1] at HLo
          have hS := HS.out (by omega)
          have HS2 := Lib.hid hS
          clear e1 hlo hS HS
          cases b with
          | false =>
            go_wp2_with fail
            with_reducible refine (HLo.out _).mono ?_
            rintro e w' ⟨rfl, rfl⟩
            go_wp2
            go_round
            case rel => exact ⟨k + 1, false, by omega, by go_num, rfl, by have := HT.out; simpa using this, HS2.out⟩
            case measure => simp [intOf]; omega
          | true =>
            rw [Bool.true_and] at HT
            generalize Pm.comp x.data.toList = v at HT HCo
            go_wp2_with fail
            with_reducible refine (HLo.out _).mono ?_
            rintro e w' ⟨rfl, rfl⟩
            go_wp2_with fail
            with_reducible refine (HCo.out _).mono ?_
            rintro e w' ⟨rfl, rfl⟩
            go_wp2
            go_round
            case rel => exact ⟨k + 1, v, by omega, by go_num, rfl, HT.out, HS2.out⟩
            case measure => simp [intOf]; omega
      · obtain rfl : k = n := by omega
        have hkx : k = xs.length := HN.out
        have hok : joinOk (bs xs) = b := by
          rw [← HB.out, List.take_of_length_le (by rw [bs_length]; omega)]
          unfold joinOk
          rw [bs_length, ← hkx]
        have hsz : ∀ x ∈ bs xs, x.length ≤ 400 := by
          intro x hx
          obtain ⟨j, hj, rfl⟩ := List.getElem_of_mem hx
          rw [bs_length] at hj
          rw [bs_get xs j hj, ← Lib.size_eq]
          exact HL.out j hj (by omega)
        have hlen := lib_join_len _ hsz
        rw [bs_length, ← hkx] at hlen
        have HLen := Lib.hid (show (Lib.join (bs xs) [47]).length ≤ 140737488355000 by omega)
        have HOK := Lib.hid hok
        have HKX := Lib.hid hkx
        clear hok hsz hlen hkx HB HL HC
        have hca : xs.length ≤ c := by rw [← HKX.out]; exact hc
        have hnx : xs.length ≤ 1000000 := by rw [← HKX.out]; omega
        have HCa := Lib.hid hca
        have HNx := Lib.hid hnx
        clear hca hnx
        have hk2 : (Value.slice A k c) = .slice A xs.length c := by rw [← HKX.out]
        have HK2 := Lib.hid hk2
        clear hk2
        have HP := Lib.hid (fun (w : World) (hr : RdS w w.heap.size A xs) => pjoin_any A xs c w hr HCa.out HLen.out (by have := HNx.out; omega) HX.out)
        rw [HOK.out, ← HKX.out] at HP
        have HRj := Lib.hid (fun (w : World) (hr : RdS w w.heap.size A xs) => rjoin_any A xs c w hr HCa.out HLen.out (by have := HNx.out; omega))
        rw [← HKX.out] at HRj
        have HSa := Lib.hid (fun (w : World) (A' : Option Addr) (c' : Nat) (h1 : RdS w w.heap.size A' xs) (h2 : RdS w w.heap.size A xs) (hc' : xs.length ≤ c') => same_any A' A xs xs c' c _ _ w h1 h2 (by have := HNx.out; unfold maxLen; omega) hc' HCa.out (by have := HNx.out; unfold maxLen; omega))
        rw [decide_eq_true rfl, ← HKX.out] at HSa
        generalize Pm.join (bs xs) = l at HP HRj
        have HM := Lib.hid hm
        clear hm
        cases b with
        | false =>
          go_wp2_with (refine wpList_append_strs rfl _ _ rfl rfl A xs c (by rw [← HKX.out]; rfl) HR.out HNIL.out HNx.out ?_; intro A' c' w1 hr1 hc1 hcm1 hb1; rw [← HKX.out])
          have HR1 := Lib.hid hr1
          have HC1 := Lib.hid hc1
          have hs1 := hb1.size
          have HB1 := Lib.hid hb1
          clear hr1 hc1 hb1
          with_reducible refine (HP.out _ ((HR.out.keep HB1.out).more hs1)).mono ?_
          rintro e w2 ⟨rfl, hb2⟩
          have hs2 := hb2.size
          have HB2 := Lib.hid hb2
          clear hb2
          go_wp2_with fail
          with_reducible refine (HSa.out _ A' c' ((HR1.out.keep HB2.out).more hs2) ((((HR.out.keep HB1.out).more hs1).keep HB2.out).more hs2) (by rw [HKX.out]; exact HC1.out)).mono ?_
          rintro e w3 ⟨rfl, hd3⟩
          have hs3 := (hd3.below w2.heap.size).size
          have HD3 := Lib.hid hd3
          clear hd3
          have HM3 := Lib.hid (((HM.out.keep HB1.out HM.out.size).keep HB2.out (HM.out.keep HB1.out HM.out.size).size).drew HD3.out)
          have HB3 := Lib.hid (show Below w.heap.size w w3 from (HB1.out.trans (HB2.out.mono hs1)).trans (HD3.out.below _))
          go_wp2_with fail
          with_reducible refine (HAw.out _ HM3.out).mono ?_
          rintro e w9 ⟨rfl, hd9⟩
          go_wp2
          go_ret
          exact ⟨rfl, HB3.out.trans (hd9.below _)⟩
        | true =>
          go_wp2_with (refine wpList_append_strs rfl _ _ rfl rfl A xs c (by rw [← HKX.out]; rfl) HR.out HNIL.out HNx.out ?_; intro A' c' w1 hr1 hc1 hcm1 hb1; rw [← HKX.out])
          have HR1 := Lib.hid hr1
          have HC1 := Lib.hid hc1
          have hs1 := hb1.size
          have HB1 := Lib.hid hb1
          clear hr1 hc1 hb1
          with_reducible refine (HP.out _ ((HR.out.keep HB1.out).more hs1)).mono ?_
          rintro e w2 ⟨rfl, hb2⟩
          have hs2 := hb2.size
          have HB2 := Lib.hid hb2
          clear hb2
          go_wp2_with fail
          with_reducible refine (HSa.out _ A' c' ((HR1.out.keep HB2.out).more hs2) ((((HR.out.keep HB1.out).more hs1).keep HB2.out).more hs2) (by rw [HKX.out]; exact HC1.out)).mono ?_
          rintro e w3 ⟨rfl, hd3⟩
          have hs3 := (hd3.below w2.heap.size).size
          have HD3 := Lib.hid hd3
          clear hd3
          have HM3 := Lib.hid (((HM.out.keep HB1.out HM.out.size).keep HB2.out (HM.out.keep HB1.out HM.out.size).size).drew HD3.out)
          have HB3 := Lib.hid (show Below w.heap.size w w3 from (HB1.out.trans (HB2.out.mono hs1)).trans (HD3.out.below _))
          have HR3 := Lib.hid (show RdS w3 w3.heap.size A xs from (HR.out.keep HB3.out).more (by omega))
          go_wp2_with fail
          with_reducible refine (HRj.out _ HR3.out).mono ?_
          rintro e w4 ⟨rfl, hb4⟩
          have HB4 := Lib.hid hb4
          clear hb4
          have HM4 := Lib.hid (HM3.out.keep HB4.out HM3.out.size)
          go_wp2_with fail
          with_reducible refine (HAw.out _ HM4.out).mono ?_
          rintro e w9 ⟨rfl, hd9⟩
          go_wp2
          go_ret
          exact ⟨rfl, (HB3.out.trans (HB4.out.mono (by omega))).trans (hd9.below _)⟩

set_option maxRecDepth 100000 in
theorem lifted (os : Os) (started : os.Started) (H : Type) (enc : TypeId × Value → H) :
    ReturnsInHanded {} Try.checked os 3 .any (Rows.pathJoinsSpec.pre6 enc Try.prog Try.f3 Rows.pathJoinsRow.domain false) (Rows.pathJoinsSpec.post enc Try.prog Try.f3 false true false false) := by
  refine returnsInHanded_of_change_shaped (C := Try.checked) own started (by kernel_rfl) Try.func3
    (ChangeSpec.witness6 (enc := enc) (C := Try.checked) false ⟨#[], #[.slice none 0 0], []⟩ 8 (by kernel_rfl) (by kernel_rfl) (by kernel_rfl) (by kernel_rfl)) ?_
  intro W base args ds gs before hval0 hW hcnd _ hsh _
  have hval : ∀ (j : Nat) t v, Try.f3.params[j]? = some t → args[j]? = some v → Value.okWide Try.prog W .any base t v := hval0
  have hW' := hW
  obtain ⟨p, q, hA0, hV, rfl, hfz, hnd⟩ := hW
  have hA : DataW.TrodAll enc Try.prog W 0 (fun _ => true) true Try.f3.params.toList args.toList ds p := hA0
  rw [Try.params3] at hA hval
  obtain ⟨v0, vs0, d0, ds0, p0, q0, hargs, rfl, rfl, h0, r0⟩ := trodAll_cons hA
  obtain ⟨rfl, rfl, rfl⟩ := trodAll_nil r0
  obtain rfl : args = #[v0] := by cases args; simp_all
  obtain ⟨rfl, rfl⟩ := trodVars_none hV
  obtain ⟨a0, len0, cap0, rfl⟩ := okWide_slice Try.underlying22 (hval 0 22 v0 rfl rfl)
  have k0 := h0
  have lt0 : ∀ x ∈ p0, x.block < W.heap.size := by obtain ⟨m, hm⟩ := k0; exact DataW.trod_lt m _ _ _ hm
  obtain ⟨xs, hxl, hcl, hcm, hnil, hrd, hxs⟩ : ∃ xs : List ByteArray, len0 = xs.length ∧ xs.length ≤ cap0 ∧ cap0 ≤ maxLen ∧ (a0 = none → cap0 = 0) ∧ RdS W W.heap.size a0 xs ∧ ∀ x ∈ xs, x.size ≤ maxLen := by
    obtain ⟨fuel, hf⟩ := h0
    rcases open_strings Try.underlying22 Try.underlying9 (by kernel_rfl) hf with ⟨hcs, _⟩ | ⟨x, l, c, ss, hcs, _, hl, hm, hz, _, hcell, hws⟩
    · simp [Value.cells] at hcs
      obtain ⟨rfl, rfl, rfl⟩ := hcs
      exact ⟨[], rfl, by simp, by simp, fun _ => rfl, .inl rfl, by simp⟩
    · simp [Value.cells] at hcs
      obtain ⟨rfl, rfl, rfl⟩ := hcs
      simp only [if_true] at hz
      exact ⟨ss.take len0, by simp; omega, by simp; omega, hm, by simp, strs_rd ⟨x, rfl, by omega, hcell⟩, fun s hs => hws s (List.mem_of_mem_take hs)⟩
  subst hxl
  clear hA0 hval0
  refine (walk a0 xs cap0 W hrd hcl hcm hnil hxs (maxl_of W hsh)).mono fun e W' ⟨he, bel⟩ => ?_
  subst he
  exact ⟨_, rfl, _, _, _, [], _, [], hW', trodAll_mk1 (shut_bool Try.underlying4 _), (trodAll_cons_mk (Below.trod laidOut (by kernel_rfl) (of_decide_eq_true (by kernel_rfl)) k0 bel lt0) trodAll_mk0), rfl, bel.frame _, fun h => by cases h⟩

theorem over : Rows.pathJoinsRow.holds Try.pinned (OpenSpec.ofChange Rows.pathJoinsSpec) :=
  OpenClaim.holds_of_wide 3 Try.f3 rfl rfl rfl rfl rfl rfl rfl ⟨rfl, rfl, rfl, rfl, rfl⟩ rfl rfl rfl rfl rfl (by kernel_rfl) Try.func3 (by kernel_rfl)
    (of_decide_eq_true (by kernel_rfl)) (by unfold Func.isWrapper; first | (rw [if_pos (by decide +kernel)]; kernel_rfl) | (rw [if_neg (by decide +kernel)]; exact ⟨rfl, rfl⟩))
    (fun os started H enc _ => lifted os started H enc)

theorem proved : Rows.PathJoinsSaid := over
#print axioms proved
end Go.Proofs.Ytldlakafgjijnaa.pathJoins
