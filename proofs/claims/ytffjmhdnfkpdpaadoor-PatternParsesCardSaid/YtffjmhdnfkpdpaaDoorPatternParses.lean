/- PatternParses returns true at every string (the card: the variables that it lists hold what the program text lays). Conditions: none of its own. -/
import Derived.Test.YtffjmhdnfkpdpaaDoorCards
import Derived.Test.YtffjmhdnfkpdpaaDoorTie
import Derived.WalkKit
import Derived.ProofKit
import Derived.OpenShut
import Derived.ShutString
import Derived.Test.YtffjmhdnfkpdpaaDoorPatAwake2
import Derived.Test.YtffjmhdnfkpdpaaDoorPatOpen
import Derived.Test.YtffjmhdnfkpdpaaDoorPatFn8
import Derived.Test.YtffjmhdnfkpdpaaDoorPatFn5
namespace Go.Proofs.YtffjmhdnfkpdpaaDoor.patternParses
open Go.ChangeShapes Go.WideShapes Go.ChangeAt Go.RowKit
open Go.ChangeMaps (open_string shut_string)
set_option linter.unusedVariables false

theorem own : ownKnob Tryd.prog.godebug = none := by kernel_rfl

set_option maxHeartbeats 4000000 in
theorem walk (w : World) (s0 : ByteArray) (w0 : s0.size ≤ maxLen) (hm : MaxL w) :
    Calls Tryd.prog 3 #[.string s0] w fun e w' => e = .returned (.bool true) ∧ Below w.heap.size w w' := by
  have HAw := Lib.hid (fun (w : World) (hm : MaxL w) => awake3_any w hm)
  by_cases h0 : 400 < s0.size
  · have g0 : (400 : Int) < (s0.size : Int) := by omega
    go_enter Tryd.func3, Tryd.ntmps3
    go_wp2_with fail
    with_reducible refine (HAw.out _ hm).mono ?_
    rintro e w9 ⟨rfl, hd9⟩
    go_wp2
    go_ret
    exact ⟨rfl, hd9⟩
  have g0 : ¬ (400 : Int) < (s0.size : Int) := by omega
  have hs : s0.size < 4294967281 := by omega
  have HP := Lib.hid (fun (w : World) (hm : MaxL w) => parse_any s0 w hs hm)
  have HR := Lib.hid (fun (w : World) (hm : MaxL w) => rparse_any s0 w hs hm)
  generalize Pt.parsed s0.data.toList = q at HP HR
  generalize Pt.parseErr s0.data.toList = k at HP HR
  clear h0 hs
  go_enter Tryd.func3, Tryd.ntmps3
  go_wp2_with fail
  with_reducible refine (HP.out _ hm).mono ?_
  rintro e w1 ⟨A, xs, c, b, rfl, hp1, hb1⟩
  have hal1 : Below w1.heap.size w1 (w1.alloc (.cells #[.slice A xs.length c, .bool b] 25)) := (Below.refl _ _).alloc (Nat.le_refl _) _
  have hm1 := (hm.keep hb1 hm.size).keep hal1 (hm.keep hb1 hm.size).size
  have HP1 := Lib.hid (hp1.keep hal1)
  have HB1 := Lib.hid (hb1.trans (hal1.mono hb1.size))
  have hz1 := hb1.size
  obtain ⟨n, hn⟩ : ∃ n, n = xs.length := ⟨_, rfl⟩
  have HN := Lib.hid hn
  rw [← hn] at hm1 HP1 HB1 ⊢
  clear hp1 hb1 hal1 hn
  go_wp2_with fail
  with_reducible refine (HR.out _ hm1).mono ?_
  rintro e w2 ⟨B, ys, d, f, rfl, hp2, hb2⟩
  obtain ⟨c0, c1⟩ := box_cells hb2
  have hal2 : Below w2.heap.size w2 (w2.alloc (.cells #[.slice B ys.length d, .bool f] 25)) := (Below.refl _ _).alloc (Nat.le_refl _) _
  have hb3 := hb2.trans (hal2.mono hb2.size)
  have hm2 := hm1.keep hb3 hm1.size
  have hq1 := HP1.out.keep hb3
  have hq2 := hp2.keep hal2
  have hxy : xs = ys := bs_inj (hq1.parts.trans hq2.parts.symm)
  have hbf : b = f := hq1.rest.trans hq2.rest.symm
  subst hxy hbf
  have hv : samePat b b xs xs = true := by simp [samePat]
  have HS := Lib.hid (rsame_any A B xs xs c d _ _ b b _ hq1.rd hq2.rd (Nat.le_refl _) (Nat.le_refl _) (Nat.le_trans hq1.le hq1.cm) hq1.le hq2.le (Nat.le_trans hq2.le hq2.cm))
  rw [hv, ← HN.out] at HS
  have HB3 := Lib.hid (HB1.out.trans (hb3.mono HB1.out.size))
  have hz2 := hb2.size
  have hz3 : w1.heap.size < w2.heap.size := by simp at hz2; omega
  rw [← HN.out] at HB3 hm2 ⊢
  clear hb2 hb3 hal2 hq1 hq2 hp2 hv hz2
  go_wp2_with fail
  with_reducible refine HS.out.mono ?_
  rintro e w4 ⟨rfl, hb4⟩
  have hm4 := hm2.keep hb4 hm2.size
  have HB4 := Lib.hid (HB3.out.trans (hb4.mono HB3.out.size))
  clear hb4
  go_wp2_with fail
  with_reducible refine (HAw.out _ hm4).mono ?_
  rintro e w9 ⟨rfl, hb9⟩
  have HB9 := Lib.hid (HB4.out.trans (hb9.mono HB4.out.size))
  clear hb9
  go_wp2
  go_ret
  exact ⟨rfl, HB9.out⟩

set_option maxRecDepth 1000000 in
theorem lifted (os : Os) (started : os.Started) (H : Type) (enc : TypeId × Value → H) :
    ReturnsInHanded {} Tryd.checked os 3 .any (fun w args => (Rows.patternParsesSpec.pre enc Tryd.prog Tryd.f3 Rows.patternParsesRow.domain false w args ∧ laidMetH Tryd.prog Rows.patternParsesRow.laid w) ∧ sizedMet enc Tryd.prog Tryd.f3 (OpenSpec.ofChange Rows.patternParsesSpec) false w args)
      (Rows.patternParsesSpec.post enc Tryd.prog Tryd.f3 false true false false) := by
  refine doorWrap own started (by kernel_rfl) Tryd.func3
    (ChangeSpec.witness_shaped (enc := enc) (C := Tryd.checked) (os := os) (X := fun w _ => laidMetH Tryd.prog Rows.patternParsesRow.laid w) false (World.laidAll Tryd.prog os Rows.patternParsesRow.laid) #[.string ByteArray.empty] 8 (World.laidAll_os _ _ _)
      (World.shaped_of_ZipB (by kernel_rfl) (by kernel_rfl)) (by kernel_rfl) (by kernel_rfl) (by kernel_rfl)
      (by rw [MakeChecks.laidMetH_plain _ _ _ (by kernel_rfl)]; exact laidMet_laidAll _ (by kernel_rfl) (by kernel_rfl))) ?_
  intro W base args ds gs before hval0 hW hsh
  have hval : ∀ (j : Nat) t v, Tryd.f3.params[j]? = some t → args[j]? = some v → Value.okWide Tryd.prog W .any base t v := hval0
  have hW' := hW
  obtain ⟨p, q, hA0, hV, rfl, hfz, hnd⟩ := hW
  have hA : DataW.TrodAll enc Tryd.prog W 0 (fun _ => true) true Tryd.f3.params.toList args.toList ds p := hA0
  rw [Tryd.params3] at hA hval
  obtain ⟨v0, vs0, d0, ds0, p0, q0, hargs, rfl, rfl, h0, r0⟩ := trodAll_cons hA
  obtain ⟨rfl, rfl, rfl⟩ := trodAll_nil r0
  obtain rfl : args = #[v0] := by cases args; simp_all
  obtain ⟨rfl, rfl⟩ := trodVars_none hV
  obtain ⟨s0, rfl, rfl, rfl, w0⟩ := open_string Tryd.underlying9 (hval 0 9 v0 rfl rfl) h0
  clear hA0 hval0
  refine (walk W s0 w0 (maxl_of W hsh)).mono fun e W' ⟨he, bel⟩ => ?_
  subst he
  exact ⟨_, rfl, _, _, _, [], _, [], hW', trodAll_mk1 (shut_bool Tryd.underlying4 _), (trodAll_cons_mk (shut_string Tryd.underlying9 w0) trodAll_mk0), rfl, bel.frame _, fun h => by cases h⟩

theorem over : Rows.patternParsesRow.holds Tryd.pinned (OpenSpec.ofChange Rows.patternParsesSpec) :=
  OpenClaim.holds_of_wide 3 Tryd.f3 rfl rfl rfl rfl rfl rfl rfl ⟨rfl, rfl, rfl, rfl, rfl⟩ rfl rfl rfl rfl rfl (by kernel_rfl) Tryd.func3 (by kernel_rfl)
    (of_decide_eq_true (by kernel_rfl)) (by unfold Func.isWrapper; first | (rw [if_pos (by decide +kernel)]; kernel_rfl) | (rw [if_neg (by decide +kernel)]; exact ⟨rfl, rfl⟩))
    (fun os started H enc _ => lifted os started H enc)

theorem proved : Rows.PatternParsesCardSaid :=
  Claim7.holds_tied_plain_at .later [] [.data, .pinned] true (true, "0930791aa66c17d9d77aa9bf9557ef32a5df6c816373c8e2ac5b4cc8f9cdf204") false over (fun _ h => by cases h) (by kernel_rfl) (fun _ h => by cases h) patternParses_row_tie rfl ⟨rfl, rfl⟩ (by kernel_rfl) rfl
    (fun f fn hf hfn => by
      obtain rfl : f = 3 := Option.some.inj ((show Tryd.prog.funcNamed Rows.patternParsesRow.func = some 3 by kernel_rfl).symm.trans hf) |>.symm
      obtain rfl : fn = Tryd.f3 := (Option.some.inj (Tryd.func3.symm.trans hfn)).symm
      exact ⟨by kernel_rfl, fun j t ht => by
        rw [Tryd.params3] at ht
        have hm : t ∈ [9] := by simpa using Array.mem_of_getElem? ht
        have hall : ([9].all fun u => !Tryd.prog.wantsStandIn u) = true := by kernel_rfl
        exact (show Tryd.prog.wantsStandIn t = false by simpa using List.all_eq_true.1 hall t hm)⟩)
    (by kernel_rfl)
#print axioms proved
end Go.Proofs.YtffjmhdnfkpdpaaDoor.patternParses
