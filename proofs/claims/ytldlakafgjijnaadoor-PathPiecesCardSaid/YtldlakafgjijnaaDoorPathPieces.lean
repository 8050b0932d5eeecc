/- PathPieces returns true at every string (the card: the tables of unicode/utf8 are what the program text lays). Conditions: none of its own. -/
import Derived.Test.YtldlakafgjijnaaDoorPathLawD
import Derived.Test.YtldlakafgjijnaaDoorCards
import Derived.Test.YtldlakafgjijnaaDoorTie
import Derived.WalkKit
import Derived.ProofKit
import Derived.OpenShut
import Derived.ShutString
namespace Go.Proofs.YtldlakafgjijnaaDoor.pathPieces
open Go.ChangeShapes Go.WideShapes Go.ChangeAt Go.RowKit
open Go.ChangeMaps (open_string shut_string)
set_option linter.unusedVariables false

theorem own : ownKnob Tryd.prog.godebug = none := by kernel_rfl

set_option maxHeartbeats 4000000 in
theorem walk (a0 : ByteArray) (w0 : a0.size ≤ maxLen) (w : World) (hm : MaxL w) :
    Calls Tryd.prog 5 #[.string a0] w fun e w' => e = .returned (.bool true) ∧ Below w.heap.size w w' := by
  have HL0 := Lib.hid (fun w : World => long_any a0 w)
  have HAw := Lib.hid (fun (w : World) (hm : MaxL w) => awake_any w hm)
  by_cases h0 : 400 < a0.size
  · have e0 : decide (400 < a0.size) = true := by simpa using h0
    rw [e0] at HL0
    clear e0
    go_enter Tryd.func5, Tryd.ntmps5
    go_wp2_with fail
    with_reducible refine (HL0.out _).mono ?_
    rintro e w' ⟨rfl, rfl⟩
    go_wp2_with fail
    with_reducible refine (HAw.out _ hm).mono ?_
    rintro e w9 ⟨rfl, hd9⟩
    go_wp2
    go_ret
    exact ⟨rfl, hd9.below _⟩
  have e0 : decide (400 < a0.size) = false := by simpa using h0
  rw [e0] at HL0
  clear e0
  have g0 := long_no h0
  have HP := Lib.hid (fun (w : World) (hm : MaxL w) => rpath_any a0 w g0 hm)
  cases hv : Pm.valid a0.data.toList with
  | false =>
    have H1 := Lib.hid (fun (w : World) (hm : MaxL w) => parent_no a0 w g0 hm hv)
    have H2 := Lib.hid (fun (w : World) (hm : MaxL w) => name_no a0 w g0 hm hv)
    have H3 := Lib.hid (fun (w : World) (hm : MaxL w) => ext_no a0 w g0 hm hv)
    rw [pathO_none hv] at HP
    clear hv
    go_enter Tryd.func5, Tryd.ntmps5
    go_wp2_with fail
    with_reducible refine (HL0.out _).mono ?_
    rintro e w' ⟨rfl, rfl⟩
    go_wp2_with fail
    with_reducible refine (H1.out _ hm).mono ?_
    rintro e w1 ⟨rfl, hd1⟩
    go_wp2_with fail
    with_reducible refine (H2.out _ (hm.drew hd1)).mono ?_
    rintro e w2 ⟨rfl, hd2⟩
    go_wp2_with fail
    with_reducible refine (H3.out _ ((hm.drew hd1).drew hd2)).mono ?_
    rintro e w3 ⟨rfl, hd3⟩
    have hd := (hd1.trans hd2).trans hd3
    have hm3 := hm.drew hd
    go_wp2_with fail
    with_reducible refine (HP.out _ hm3).mono ?_
    rintro e w4 ⟨rfl, hb4⟩
    have hm4 := hm3.keep hb4 hm3.size
    go_wp2_with fail
    with_reducible refine (HAw.out _ hm4).mono ?_
    rintro e w9 ⟨rfl, hd9⟩
    go_wp2
    go_ret
    exact ⟨rfl, ((hd.below _).trans (hb4.mono (hd.below 0).size)).trans (hd9.below _)⟩
  | true =>
    obtain ⟨l, n, hl, hlc, hn, h4, h5⟩ := Pm.valid_parts hv
    have H1 := Lib.hid (fun (w : World) (hm : MaxL w) => parent_yes a0 (Pm.join l) n w g0 hm h5 hn hv)
    have H2 := Lib.hid (fun (w : World) (hm : MaxL w) => name_yes a0 (Pm.join l) n w g0 hm h5 hn hv)
    have H3 := Lib.hid (fun (w : World) (hm : MaxL w) => ext_yes a0 (Pm.join l) n w g0 hm h5 hn hv)
    rw [pathO_some hv, h4] at HP
    have hsz : a0.size = (Pm.join l).length + 1 + n.length := by rw [Lib.size_eq, h5]; simp; omega
    have hjl : (Pm.join l).length = (Lib.join l [47]).length + 2 := by unfold Pm.join; simp
    have HN := Lib.hid (fun w : World => rext_any ⟨n.toArray⟩ w (by rw [size_mk]; omega))
    have e1 : (ByteArray.mk n.toArray).data.toList = n := rfl
    rw [e1] at HN
    have HSG := Lib.hid (Pm.segs_join l hl fun x hx => Pm.comp_slash (hlc x hx))
    have HJL := Lib.hid (show (Lib.join l [47]).length ≤ 140737488355000 by omega)
    clear hv h4 h5 hn hlc hsz hjl e1
    go_enter Tryd.func5, Tryd.ntmps5
    go_wp2_with fail
    with_reducible refine (HL0.out _).mono ?_
    rintro e w' ⟨rfl, rfl⟩
    go_wp2_with fail
    with_reducible refine (H1.out _ hm).mono ?_
    rintro e w1 ⟨rfl, hd1⟩
    go_wp2_with fail
    with_reducible refine (H2.out _ (hm.drew hd1)).mono ?_
    rintro e w2 ⟨rfl, hd2⟩
    go_wp2_with fail
    with_reducible refine (H3.out _ ((hm.drew hd1).drew hd2)).mono ?_
    rintro e w3 ⟨rfl, hd3⟩
    have hd := (hd1.trans hd2).trans hd3
    have hm3 := hm.drew hd
    go_wp2_with fail
    with_reducible refine (HP.out _ hm3).mono ?_
    rintro e w4 ⟨v, rfl, A, xs, c, rfl, hbx, hc, hcm, hr, hb4⟩
    have hm4 := hm3.keep hb4 hm3.size
    have hs4 := hb4.size
    have hlen : xs.length = l.length + 1 := by rw [← bs_length, hbx, List.length_append]; rfl
    obtain ⟨g, o, rfl, hg, hcell⟩ := hr.cells (by omega)
    have hlast : xs[l.length]'(by omega) = ⟨n.toArray⟩ := by
      apply ba_ext
      rw [← bs_get xs l.length (by omega)]
      simp [hbx]
    have hce := hcell l.length (by omega)
    rw [hlast] at hce
    have htk : bs (xs.take l.length) = l := by rw [bs_take, hbx]; simp
    have htl : (xs.take l.length).length = l.length := by rw [List.length_take]; omega
    have hl9 : l.length ≤ 140737488355328 := by
      have h1 := Pm.segs_length (Lib.join l [47])
      have h2 := segs_le (Lib.join l [47])
      have h3 := HJL.out
      have h4 := HSG.out
      rw [h4] at h2
      omega
    have HJ := Lib.hid (fun (w : World) (hr : RdS w w.heap.size (some ⟨g, o, none⟩) xs) => rjoin_any (some ⟨g, o, none⟩) (xs.take l.length) c w (hr.take _) (by omega) (by rw [htk]; exact HJL.out) (by rw [htl]; exact hl9))
    rw [htk, htl] at HJ
    have HR := Lib.hid hr
    have HB4 := Lib.hid hb4
    have hlc : (l.length : Int) + 1 ≤ 9223372036854775807 := by omega
    have hcc : (l.length : Int) + 1 ≤ (c : Int) := by omega
    have hcm9 : (c : Int) ≤ 9223372036854775807 := by unfold maxLen at hcm; omega
    rw [hlen]
    have hll : 0 < l.length := List.length_pos_iff.2 hl
    clear hlast hcell hbx htk htl hlen hr hb4 hcm hc hl9 hl
    generalize Pm.join l = jl at *
    generalize l.length = k at *
    go_wp2_with fail
    with_reducible refine (HJ.out _ HR.out).mono ?_
    rintro e w5 ⟨rfl, hb5⟩
    have hm5 := hm4.keep hb5 hm4.size
    go_wp2_with fail
    with_reducible refine (HN.out _).mono ?_
    rintro e w6 ⟨rfl, rfl⟩
    go_wp2_with fail
    with_reducible refine (HAw.out _ hm5).mono ?_
    rintro e w9 ⟨rfl, hd9⟩
    go_wp2
    go_ret
    exact ⟨rfl, (((hd.below _).trans (HB4.out.mono (hd.below 0).size)).trans (hb5.mono (Nat.le_trans (hd.below 0).size hs4))).trans (hd9.below _)⟩

set_option maxRecDepth 100000 in
theorem lifted (os : Os) (started : os.Started) (H : Type) (enc : TypeId × Value → H) :
    ReturnsInHanded {} Tryd.checked os 5 .any (fun w args => (Rows.pathPiecesSpec.pre enc Tryd.prog Tryd.f5 Rows.pathPiecesRow.domain false w args ∧ laidMetH Tryd.prog Rows.pathPiecesRow.laid w) ∧ sizedMet enc Tryd.prog Tryd.f5 (OpenSpec.ofChange Rows.pathPiecesSpec) false w args)
      (Rows.pathPiecesSpec.post enc Tryd.prog Tryd.f5 false true false false) := by
  refine doorWrap own started (by kernel_rfl) Tryd.func5
    (ChangeSpec.witness_shaped (enc := enc) (C := Tryd.checked) (os := os) (X := fun w _ => laidMetH Tryd.prog Rows.pathPiecesRow.laid w) false (World.laidAll Tryd.prog os Rows.pathPiecesRow.laid) #[.string ByteArray.empty] 8 (World.laidAll_os _ _ _)
      (World.shaped_of_ZipB (by kernel_rfl) (by kernel_rfl)) (by kernel_rfl) (by kernel_rfl) (by kernel_rfl)
      (by rw [MakeChecks.laidMetH_plain _ _ _ (by kernel_rfl)]; exact laidMet_laidAll _ (by kernel_rfl) (by kernel_rfl))) ?_
  intro W base args ds gs before hval0 hW hsh
  have hval : ∀ (j : Nat) t v, Tryd.f5.params[j]? = some t → args[j]? = some v → Value.okWide Tryd.prog W .any base t v := hval0
  have hW' := hW
  obtain ⟨p, q, hA0, hV, rfl, hfz, hnd⟩ := hW
  have hA : DataW.TrodAll enc Tryd.prog W 0 (fun _ => true) true Tryd.f5.params.toList args.toList ds p := hA0
  rw [Tryd.params5] at hA hval
  obtain ⟨v0, vs0, d0, ds0, p0, q0, hargs, rfl, rfl, h0, r0⟩ := trodAll_cons hA
  obtain ⟨rfl, rfl, rfl⟩ := trodAll_nil r0
  obtain rfl : args = #[v0] := by cases args; simp_all
  obtain ⟨rfl, rfl⟩ := trodVars_none hV
  obtain ⟨a0, rfl, rfl, rfl, w0⟩ := open_string Tryd.underlying9 (hval 0 9 v0 rfl rfl) h0
  clear hA0 hval0
  simp only [List.append_nil] at hW'
  refine (walk a0 w0 W (maxl_of W hsh)).mono fun e W' ⟨he, hg⟩ => ?_
  subst he
  exact ⟨_, rfl, _, _, _, [], [], [], hW', trodAll_mk1 (shut_bool Tryd.underlying4 _), (trodAll_cons_mk (shut_string Tryd.underlying9 w0) trodAll_mk0), rfl, hg.frame _, fun h => by cases h⟩

theorem over : Rows.pathPiecesRow.holds Tryd.pinned (OpenSpec.ofChange Rows.pathPiecesSpec) :=
  OpenClaim.holds_of_wide 5 Tryd.f5 rfl rfl rfl rfl rfl rfl rfl ⟨rfl, rfl, rfl, rfl, rfl⟩ rfl rfl rfl rfl rfl (by kernel_rfl) Tryd.func5 (by kernel_rfl)
    (of_decide_eq_true (by kernel_rfl)) (by unfold Func.isWrapper; first | (rw [if_pos (by decide +kernel)]; kernel_rfl) | (rw [if_neg (by decide +kernel)]; exact ⟨rfl, rfl⟩))
    (fun os started H enc _ => lifted os started H enc)

theorem proved : Rows.PathPiecesCardSaid :=
  Claim7.holds_tied_plain_at .later [] [.data, .pinned] true (true, "9a165a810bc37f4b2a4642bfba06315b4b30fc4fa45d265726276bf940f1c38c") false over (fun _ h => by cases h) (by kernel_rfl) (fun _ h => by cases h) pathPieces_row_tie rfl ⟨rfl, rfl⟩ (by kernel_rfl) rfl
    (fun f fn hf hfn => by
      obtain rfl : f = 5 := Option.some.inj ((show Tryd.prog.funcNamed Rows.pathPiecesRow.func = some 5 by kernel_rfl).symm.trans hf) |>.symm
      obtain rfl : fn = Tryd.f5 := (Option.some.inj (Tryd.func5.symm.trans hfn)).symm
      exact ⟨by kernel_rfl, fun j t ht => by
        rw [Tryd.params5] at ht
        have hm : t ∈ [9] := by simpa using Array.mem_of_getElem? ht
        have hall : ([9].all fun u => !Tryd.prog.wantsStandIn u) = true := by kernel_rfl
        exact (show Tryd.prog.wantsStandIn t = false by simpa using List.all_eq_true.1 hall t hm)⟩)
    (by kernel_rfl)
#print axioms proved
end Go.Proofs.YtldlakafgjijnaaDoor.pathPieces
