/- PathBack returns true at every string (the card: the tables of unicode/utf8 are what the program text lays). Conditions: none of its own. -/
import Derived.Test.YtldlakafgjijnaaDoorPathLawD
import Derived.Test.YtldlakafgjijnaaDoorCards
import Derived.Test.YtldlakafgjijnaaDoorTie
import Derived.WalkKit
import Derived.ProofKit
import Derived.OpenShut
import Derived.ShutString
namespace Go.Proofs.YtldlakafgjijnaaDoor.pathBack
open Go.ChangeShapes Go.WideShapes Go.ChangeAt Go.RowKit
open Go.ChangeMaps (open_string shut_string)
set_option linter.unusedVariables false

theorem own : ownKnob Tryd.prog.godebug = none := by kernel_rfl

theorem cat3 (l n : List UInt8) : ByteArray.mk l.toArray ++ ByteArray.mk #[47] ++ ByteArray.mk n.toArray = ⟨(l ++ 47 :: n).toArray⟩ := by
  apply ba_ext
  simp [ByteArray.data_append]
set_option maxHeartbeats 4000000 in
theorem walk (a0 : ByteArray) (w0 : a0.size ≤ maxLen) (w : World) (hm : MaxL w) :
    Calls Tryd.prog 8 #[.string a0] w fun e w' => e = .returned (.bool true) ∧ Below w.heap.size w w' := by
  have HL0 := Lib.hid (fun w : World => long_any a0 w)
  have HAw := Lib.hid (fun (w : World) (hm : MaxL w) => awake_any w hm)
  by_cases h0 : 400 < a0.size
  · have e0 : decide (400 < a0.size) = true := by simpa using h0
    rw [e0] at HL0
    clear e0
    go_enter Tryd.func8, Tryd.ntmps8
    go_wp2_with fail
    with_reducible refine (HL0.out _).mono ?_
    rintro e w' ⟨rfl, rfl⟩
    go_wp2_with fail
    with_reducible refine (HAw.out _ hm).mono ?_
    rintro e w9 ⟨rfl, hd9⟩
    go_wp2
    go_ret
    exact ⟨rfl, hd9.below _⟩
  have e0 : decide (400 < a0.size) = false := by simpa using h0
  rw [e0] at HL0
  clear e0
  have g0 := long_no h0
  have HV := Lib.hid (fun (w : World) (hm : MaxL w) => valid_any a0 w g0 hm)
  cases hv : Pm.valid a0.data.toList with
  | false =>
    rw [hv] at HV
    clear hv
    go_enter Tryd.func8, Tryd.ntmps8
    go_wp2_with fail
    with_reducible refine (HL0.out _).mono ?_
    rintro e w' ⟨rfl, rfl⟩
    go_wp2_with fail
    with_reducible refine (HV.out _ hm).mono ?_
    rintro e w1 ⟨rfl, hd1⟩
    go_wp2_with fail
    with_reducible refine (HAw.out _ (hm.drew hd1)).mono ?_
    rintro e w9 ⟨rfl, hd9⟩
    go_wp2
    go_ret
    exact ⟨rfl, (hd1.trans hd9).below _⟩
  | true =>
    rw [hv] at HV
    obtain ⟨l, n, hl, hlc, hn, h4, h5⟩ := Pm.valid_parts hv
    have ho : pathO a0.data.toList = some (l ++ [n]) := by rw [pathO_some hv, h4]
    have HS := Lib.hid (fun (w : World) (hm : MaxL w) => split_path_any a0 w g0 hm)
    rw [ho] at HS
    have H1 := Lib.hid (fun (w : World) (hm : MaxL w) => parent_yes a0 (Pm.join l) n w g0 hm h5 hn hv)
    have H2 := Lib.hid (fun (w : World) (hm : MaxL w) => name_yes a0 (Pm.join l) n w g0 hm h5 hn hv)
    have hsz : a0.size = (Pm.join l).length + 1 + n.length := by rw [Lib.size_eq, h5, List.length_append, List.length_cons]; omega
    have HU := Lib.hid (fun (w : World) (hm : MaxL w) => under_any ⟨(Pm.join l).toArray⟩ a0 w (by rw [size_mk]; omega) g0 hm)
    have e1 : (ByteArray.mk (Pm.join l).toArray).data.toList = Pm.join l := rfl
    rw [e1] at HU
    have hd0 : Pm.depth (Pm.join l) ≠ 0 := by
      rw [Pm.depth_some (Pm.parts_join hl hlc)]
      exact fun h => hl (List.eq_nil_of_length_eq_zero h)
    have c1 : underVal (Pm.join l) a0.data.toList = true := by
      unfold underVal
      rw [decide_eq_true ⟨hd0, hv⟩, Bool.true_and, h5]
      exact Pm.under_dir l n
    have c2 : underErr (Pm.join l) a0.data.toList = 0 := by unfold underErr; rw [if_pos ⟨hd0, hv⟩]
    rw [c1, c2] at HU
    have HC := Lib.hid (fun w : World => comp_any ⟨n.toArray⟩ w (by rw [size_mk]; unfold maxLen; omega))
    have e2 : (ByteArray.mk n.toArray).data.toList = n := rfl
    rw [e2, hn] at HC
    have hjp : Pm.join (l ++ [n]) = a0.data.toList := ((Pm.parts_some h4).1).symm
    have hok : joinOk (l ++ [n]) = true := by
      unfold joinOk
      have h6 := (Pm.parts_some h4).2.2
      have h7 : 0 < l.length := List.length_pos_iff.2 hl
      rw [List.all_eq_true.2 h6, decide_eq_true (by rw [List.length_append, List.length_singleton]; omega)]
      rfl
    have hjs : (Lib.join (l ++ [n]) [47]).length ≤ 140737488355000 := by
      have h6 := congrArg List.length hjp
      rw [← Lib.size_eq] at h6
      unfold Pm.join at h6
      simp only [List.length_cons] at h6
      omega
    have hsg : (l ++ [n]).length ≤ 140737488355328 := by
      have h6 := segs_le (Lib.join (l ++ [n]) [47])
      rw [Pm.segs_join (l ++ [n]) (Pm.parts_some h4).2.1 fun x hx => Pm.comp_slash ((Pm.parts_some h4).2.2 x hx)] at h6
      omega
    have hel : ∀ x ∈ l ++ [n], x.length ≤ a0.size := by
      intro x hx
      have h6 := segs_elem_le (Lib.join (l ++ [n]) [47]) x (by rw [Pm.segs_join (l ++ [n]) (Pm.parts_some h4).2.1 fun x hx => Pm.comp_slash ((Pm.parts_some h4).2.2 x hx)]; exact hx)
      have h7 := congrArg List.length hjp
      rw [← Lib.size_eq] at h7
      unfold Pm.join at h7
      simp only [List.length_cons] at h7
      omega
    have HCAT := Lib.hid (show ByteArray.mk (Pm.join l).toArray ++ ByteArray.mk #[47] ++ ByteArray.mk n.toArray = a0 by rw [cat3, ← h5])
    have HJL := Lib.hid hjs
    have HSG := Lib.hid hsg
    have HEL := Lib.hid hel
    have HOK := Lib.hid hok
    have HJP := Lib.hid hjp
    have HG0 := Lib.hid g0
    have hq1 : (Pm.join l).length ≤ 140737488355000 := by omega
    have hq2 : n.length ≤ 140737488355000 := by omega
    clear hv ho h5 h4 hn hlc hsz e1 e2 c1 c2 hd0 hjp hok hjs hsg hel hl
    go_enter Tryd.func8, Tryd.ntmps8
    go_wp2_with fail
    with_reducible refine (HL0.out _).mono ?_
    rintro e w' ⟨rfl, rfl⟩
    go_wp2_with fail
    with_reducible refine (HV.out _ hm).mono ?_
    rintro e w1 ⟨rfl, hd1⟩
    have hm1 := hm.drew hd1
    go_wp2_with fail
    with_reducible refine (HS.out _ hm1).mono ?_
    rintro e w2 ⟨v, rfl, A, xs, c, rfl, hbx, hc, hcm, hr, hb2⟩
    have hm2 := hm1.keep hb2 hm1.size
    have hs1 := (hd1.below 0).size
    have hs2 := hb2.size
    have HJ := Lib.hid (pjoin_any A xs c w2 hr hc (by rw [hbx]; exact HJL.out) (by have := HSG.out; rw [← bs_length, hbx]; exact this) (by
      intro x hx
      have h6 := HEL.out x.data.toList (by rw [← hbx]; exact List.mem_map_of_mem hx)
      rw [← Lib.size_eq] at h6
      have h7 := HG0.out
      unfold maxLen
      omega))
    rw [hbx, HOK.out, HJP.out] at HJ
    have HB2 := Lib.hid hb2
    clear hbx hc hcm hr hb2
    generalize xs.length = k at *
    go_wp2_with fail
    with_reducible refine HJ.out.mono ?_
    rintro e w3 ⟨rfl, hb3⟩
    have hm3 := hm2.keep hb3 hm2.size
    have hs3 := hb3.size
    go_wp2_with fail
    with_reducible refine (H1.out _ hm3).mono ?_
    rintro e w4 ⟨rfl, hd4⟩
    go_wp2_with fail
    with_reducible refine (H2.out _ (hm3.drew hd4)).mono ?_
    rintro e w5 ⟨rfl, hd5⟩
    go_wp2_with fail
    with_reducible refine (HU.out _ ((hm3.drew hd4).drew hd5)).mono ?_
    rintro e w6 ⟨rfl, hd6⟩
    have hcat := HCAT.out
    go_wp2_with fail
    go_wp2_with fail
    with_reducible refine (HC.out _).mono ?_
    rintro e w7 ⟨rfl, rfl⟩
    go_wp2_with fail
    with_reducible refine (HAw.out _ (((hm3.drew hd4).drew hd5).drew hd6)).mono ?_
    rintro e w9 ⟨rfl, hd9⟩
    go_wp2
    go_ret
    exact ⟨rfl, (((hd1.below _).trans (HB2.out.mono hs1)).trans (hb3.mono (Nat.le_trans hs1 hs2))).trans ((((hd4.trans hd5).trans hd6).trans hd9).below _)⟩

set_option maxRecDepth 100000 in
theorem lifted (os : Os) (started : os.Started) (H : Type) (enc : TypeId × Value → H) :
    ReturnsInHanded {} Tryd.checked os 8 .any (fun w args => (Rows.pathBackSpec.pre enc Tryd.prog Tryd.f8 Rows.pathBackRow.domain false w args ∧ laidMetH Tryd.prog Rows.pathBackRow.laid w) ∧ sizedMet enc Tryd.prog Tryd.f8 (OpenSpec.ofChange Rows.pathBackSpec) false w args)
      (Rows.pathBackSpec.post enc Tryd.prog Tryd.f8 false true false false) := by
  refine doorWrap own started (by kernel_rfl) Tryd.func8
    (ChangeSpec.witness_shaped (enc := enc) (C := Tryd.checked) (os := os) (X := fun w _ => laidMetH Tryd.prog Rows.pathBackRow.laid w) false (World.laidAll Tryd.prog os Rows.pathBackRow.laid) #[.string ByteArray.empty] 8 (World.laidAll_os _ _ _)
      (World.shaped_of_ZipB (by kernel_rfl) (by kernel_rfl)) (by kernel_rfl) (by kernel_rfl) (by kernel_rfl)
      (by rw [MakeChecks.laidMetH_plain _ _ _ (by kernel_rfl)]; exact laidMet_laidAll _ (by kernel_rfl) (by kernel_rfl))) ?_
  intro W base args ds gs before hval0 hW hsh
  have hval : ∀ (j : Nat) t v, Tryd.f8.params[j]? = some t → args[j]? = some v → Value.okWide Tryd.prog W .any base t v := hval0
  have hW' := hW
  obtain ⟨p, q, hA0, hV, rfl, hfz, hnd⟩ := hW
  have hA : DataW.TrodAll enc Tryd.prog W 0 (fun _ => true) true Tryd.f8.params.toList args.toList ds p := hA0
  rw [Tryd.params8] at hA hval
  obtain ⟨v0, vs0, d0, ds0, p0, q0, hargs, rfl, rfl, h0, r0⟩ := trodAll_cons hA
  obtain ⟨rfl, rfl, rfl⟩ := trodAll_nil r0
  obtain rfl : args = #[v0] := by cases args; simp_all
  obtain ⟨rfl, rfl⟩ := trodVars_none hV
  obtain ⟨a0, rfl, rfl, rfl, w0⟩ := open_string Tryd.underlying9 (hval 0 9 v0 rfl rfl) h0
  clear hA0 hval0
  simp only [List.append_nil] at hW'
  refine (walk a0 w0 W (maxl_of W hsh)).mono fun e W' ⟨he, hg⟩ => ?_
  subst he
  exact ⟨_, rfl, _, _, _, [], [], [], hW', trodAll_mk1 (shut_bool Tryd.underlying4 _), (trodAll_cons_mk (shut_string Tryd.underlying9 w0) trodAll_mk0), rfl, hg.frame _, fun h => by cases h⟩

theorem over : Rows.pathBackRow.holds Tryd.pinned (OpenSpec.ofChange Rows.pathBackSpec) :=
  OpenClaim.holds_of_wide 8 Tryd.f8 rfl rfl rfl rfl rfl rfl rfl ⟨rfl, rfl, rfl, rfl, rfl⟩ rfl rfl rfl rfl rfl (by kernel_rfl) Tryd.func8 (by kernel_rfl)
    (of_decide_eq_true (by kernel_rfl)) (by unfold Func.isWrapper; first | (rw [if_pos (by decide +kernel)]; kernel_rfl) | (rw [if_neg (by decide +kernel)]; exact ⟨rfl, rfl⟩))
    (fun os started H enc _ => lifted os started H enc)

theorem proved : Rows.PathBackCardSaid :=
  Claim7.holds_tied_plain_at .later [] [.data, .pinned] true (true, "9a165a810bc37f4b2a4642bfba06315b4b30fc4fa45d265726276bf940f1c38c") false over (fun _ h => by cases h) (by kernel_rfl) (fun _ h => by cases h) pathBack_row_tie rfl ⟨rfl, rfl⟩ (by kernel_rfl) rfl
    (fun f fn hf hfn => by
      obtain rfl : f = 8 := Option.some.inj ((show Tryd.prog.funcNamed Rows.pathBackRow.func = some 8 by kernel_rfl).symm.trans hf) |>.symm
      obtain rfl : fn = Tryd.f8 := (Option.some.inj (Tryd.func8.symm.trans hfn)).symm
      exact ⟨by kernel_rfl, fun j t ht => by
        rw [Tryd.params8] at ht
        have hm : t ∈ [9] := by simpa using Array.mem_of_getElem? ht
        have hall : ([9].all fun u => !Tryd.prog.wantsStandIn u) = true := by kernel_rfl
        exact (show Tryd.prog.wantsStandIn t = false by simpa using List.all_eq_true.1 hall t hm)⟩)
    (by kernel_rfl)
#print axioms proved
end Go.Proofs.YtldlakafgjijnaaDoor.pathBack
