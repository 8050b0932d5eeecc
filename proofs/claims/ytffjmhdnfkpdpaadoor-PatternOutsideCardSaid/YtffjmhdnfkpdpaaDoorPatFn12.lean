/- The contract of the law file's witness. -/
import Derived.Test.YtffjmhdnfkpdpaaDoorPatFn9
namespace Go.Proofs.YtffjmhdnfkpdpaaDoor
open Go.RowKit

theorem wit_step {P Q : List (List UInt8)} {i : Nat} (h : i < P.length) : Pt.witOf (P.drop i) (Q.drop i) = Pt.witPart P[i] (Q[i]?) :: Pt.witOf (P.drop (i + 1)) (Q.drop (i + 1)) := by
  rw [List.drop_eq_getElem_cons h]
  by_cases hq : i < Q.length
  · rw [List.drop_eq_getElem_cons hq, Pt.witOf, List.getElem?_eq_getElem hq]
  · rw [List.drop_of_length_le (show Q.length ≤ i by omega), List.drop_of_length_le (show Q.length ≤ i + 1 by omega), Pt.witOf, List.getElem?_eq_none (by omega)]

theorem one_le {x : ByteArray} (h : Lib.hasPrefix x.data.toList [42] = true) : 1 ≤ x.size := by
  rw [Lib.size_eq]
  cases hx : x.data.toList with
  | nil => rw [hx] at h; simp [Lib.hasPrefix] at h
  | cons a r => simp
theorem drop1 (x : ByteArray) : (x.extract 1 x.size).data.toList = x.data.toList.drop 1 := by
  rw [Lib.extract_data, List.take_of_length_le]
  rw [List.length_drop, ← Lib.size_eq]
  exact Nat.le_refl _
theorem ext81 (x : ByteArray) : ((⟨#[81]⟩ : ByteArray) ++ x.extract 1 x.size).data.toList = 81 :: x.data.toList.drop 1 := by
  rw [ByteArray.data_append, Array.toList_append, drop1]
  rfl
theorem bs_ext (k : UInt8) (x : ByteArray) : bs [(⟨#[k]⟩ : ByteArray) ++ x.extract 1 x.size] = [k :: x.data.toList.drop 1] := by
  unfold bs
  simp only [List.map_cons, List.map_nil]
  rw [ByteArray.data_append, Array.toList_append, drop1]
  rfl
set_option maxHeartbeats 8000000 in
theorem witness_any (A B : Option Addr) (xs ys : List ByteArray) (c d : Nat) (b f : Bool) (p q : Pt.Pat) (r : Nat) (w : World) (hp : PatR w A xs c b p) (hq : PatR w B ys d f q) (hn : xs.length ≤ 100) (hr : r ≤ 100) (hsx : ∀ x ∈ xs, x.size ≤ 100000) :
    Calls Tryd.prog 44 #[patV A xs.length c b, patV B ys.length d f, .int .i64 r] w (GivesS w (Pm.join (Pt.witOf (p.parts ++ List.replicate r [42]) q.parts))) := by
  obtain ⟨W0, hW0⟩ : ∃ W0, W0 = (w.alloc (.cells #[.slice A xs.length c, .bool b] 25)).alloc (.cells #[.slice B ys.length d, .bool f] 25) := ⟨_, rfl⟩
  have halloc : Below w.heap.size w W0 := by rw [hW0]; exact ((Below.refl _ _).alloc (Nat.le_refl _) _).alloc (by simp) _
  obtain ⟨c0, c1, c2, c3⟩ := box2_cells (w' := W0) (w := w) (t := 25) (by rw [← hW0]; exact Below.refl _ _)
  have hzz : w.heap.size + 1 < W0.heap.size := by rw [hW0]; simp
  obtain ⟨P, hP⟩ : ∃ P, P = p.parts ++ List.replicate r [42] := ⟨_, rfl⟩
  rw [← hP]
  have hPl : P.length = xs.length + r := by rw [hP, List.length_append, hp.len, List.length_replicate]
  have HPX := Lib.hid (show ∀ i (h : i < xs.length) (h2 : i < P.length), P[i] = xs[i].data.toList by
    intro i h h2
    subst hP
    rw [List.getElem_append_left (by rw [hp.len]; exact h), ← bs_get xs i h]
    simp only [hp.parts])
  have HPS := Lib.hid (show ∀ i (h : xs.length ≤ i) (h2 : i < P.length), P[i] = [42] by
    intro i h h2
    subst hP
    rw [List.getElem_append_right (by rw [hp.len]; exact h)]
    simp)
  have HQY := Lib.hid (show ∀ i (h : i < ys.length), q.parts[i]? = some ys[i].data.toList by
    intro i h
    rw [← hq.parts, List.getElem?_eq_getElem (by rw [bs_length]; exact h), bs_get ys i h])
  have HQN := Lib.hid (show ∀ i (h : ys.length ≤ i), q.parts[i]? = none by
    intro i h
    rw [← hq.parts]
    exact List.getElem?_eq_none (by rw [bs_length]; exact h))
  generalize q.parts = Q at *
  have HRA := Lib.hid hp.rd
  have HRB := Lib.hid hq.rd
  have HSX := Lib.hid hsx
  have HSY := Lib.hid hq.sz
  have hle := hp.le
  have hle2 := hq.le
  have hcm := hp.cm
  have hcm2 := hq.cm
  unfold maxLen at hcm hcm2
  have hmx : (ys.length : Int) ≤ 9223372036854775807 := by omega
  have hdx : (d : Int) ≤ 9223372036854775807 := by omega
  obtain ⟨n, hnn⟩ : ∃ n, n = xs.length := ⟨_, rfl⟩
  obtain ⟨m, hmm⟩ : ∃ m, m = ys.length := ⟨_, rfl⟩
  rw [← hnn] at hW0 c0 hn hle hPl ⊢
  rw [← hmm] at hW0 c2 hle2 hmx ⊢
  have HN := Lib.hid hnn
  have HM := Lib.hid hmm
  have HPL := Lib.hid hPl
  have HAL := Lib.hid halloc
  have HHp := Lib.hid (fun (x : ByteArray) (w : World) => hasp_any x ⟨#[42]⟩ w)
  have hsum : (n : Int) + r ≤ 200 := by omega
  clear hp hq hP hPl halloc hsx hnn hmm hcm hcm2
  go_enter Tryd.func44, Tryd.ntmps44
  go_wp2_with fail
  generalize hwg : (w.alloc (.cells #[.slice A n c, .bool b] 25)).alloc (.cells #[.slice B m d, .bool f] 25) = W
  have hWW : W = W0 := by rw [← hwg, hW0]
  subst hWW
  clear hwg hW0
  go_loopw [7, 8] (fun lv iv wr => ∃ (i : Nat) (ls : List ByteArray), i ≤ n + r ∧ iv = .int .i64 i ∧ OwnS wr W.heap.size lv ls ∧ ls.length = i ∧ Below W.heap.size W wr ∧ (∀ y ∈ ls, y.size ≤ 100001) ∧ Pt.witOf P Q = bs ls ++ Pt.witOf (P.drop i) (Q.drop i)) (fun _ iv _ => n + r - (intOf iv).toNat)
  case atStart => exact ⟨0, [], by omega, rfl, OwnS.empty _ _, rfl, Below.refl _ _, by simp, by simp [bs]⟩
  case round =>
    obtain ⟨i, ls, hin, rfl, hown, hli, hbr, hlb, hwo⟩ := hrel
    have d0 := (hbr.cell (p := ⟨w.heap.size, 0, none⟩) (by show w.heap.size < W.heap.size; omega)).trans c0
    have d2 := (hbr.cell (p := ⟨w.heap.size + 1, 0, none⟩) hzz).trans c2
    have HOWN := Lib.hid hown
    have HLI := Lib.hid hli
    have HBR := Lib.hid hbr
    have HLB := Lib.hid hlb
    have HWO := Lib.hid hwo
    have hzr := hbr.size
    clear hown hli hbr hlb hwo
    by_cases hlt : i < n + r
    · have h1 : (i : Int) < (n : Int) + r := by omega
      have HST := Lib.hid (wit_step (P := P) (Q := Q) (i := i) (by rw [HPL.out]; exact hlt))
      by_cases hix : i < n
      · have hlx : i < xs.length := by rw [← HN.out]; exact hix
        have hPi := HPX.out i hlx (by rw [HPL.out]; exact hlt)
        rw [hPi] at HST
        obtain ⟨g, og, rfl, hg, hcell⟩ := HRA.out.cells (by omega)
        have e1 := (HBR.out.cell (p := ⟨g, og + i, none⟩) (by show g < W.heap.size; omega)).trans ((HAL.out.cell (p := ⟨g, og + i, none⟩) hg).trans (hcell i hlx))
        have HSXI := Lib.hid (HSX.out _ (List.getElem_mem hlx))
        clear hcell hPi
        generalize xs[i] = x at *
        have hixi : (i : Int) < (n : Int) := by omega
        have hnc : (n : Int) ≤ (c : Int) := by omega
        have HPc := Lib.hid (fun w : World => HHp.out x w)
        cases hpx : Lib.hasPrefix x.data.toList [42] with
        | false =>
          rw [hpx] at HPc
          have hw : ∀ y, Pt.witPart x.data.toList y = x.data.toList := fun y => by unfold Pt.witPart; rw [hpx]; rfl
          rw [hw] at HST
          clear hw
          go_wp2_with fail
          with_reducible refine (HPc.out _).mono ?_
          rintro e w' ⟨rfl, rfl⟩
          set_option maxRecDepth 100000 in go_wp2_with (refine wpList_append_ss rfl _ _ rfl W.heap.size _ ls rfl (HOWN.out.below ((Below.refl _ _).alloc (Nat.le_refl _) _)) (some ⟨wr.heap.size, 0, none⟩) [_] 1 rfl (new_one wr _ _) (fun h => by cases h) (by simp [HLI.out]; omega) (by simp; omega) ?_; intro v' w' hown' hb')
          have HO2 := Lib.hid hown'
          have HB3 := Lib.hid (show Below W.heap.size wr w' from ((Below.refl _ _).alloc hzr _).trans hb')
          clear hown' hb'
          set_option maxRecDepth 100000 in go_wp2
          go_roundw
          case rel =>
            refine ⟨i + 1, ls ++ [_], by omega, by go_num, HO2.out, by simp [HLI.out], HBR.out.trans HB3.out, ?_, ?_⟩
            · intro z hz
              rcases List.mem_append.1 hz with h | h
              · exact HLB.out z h
              · rw [List.mem_singleton.1 h]
                have := HSXI.out; omega
            · rw [HWO.out, HST.out, bs_append]
              simp [bs]
          case measure => simp [intOf]; omega
        | true =>
          rw [hpx] at HPc
          have hx1 := one_le hpx
          have hx1i : (1 : Int) ≤ (x.size : Int) := by omega
          have hsxi : x.size ≤ 100000 := HSXI.out
          have hw : ∀ y, Pt.witPart x.data.toList y = if y = some (81 :: x.data.toList.drop 1) then 82 :: x.data.toList.drop 1 else 81 :: x.data.toList.drop 1 := fun y => by unfold Pt.witPart; rw [hpx]; rfl
          rw [hw] at HST
          clear hw
          by_cases him : i < m
          · have hly : i < ys.length := by rw [← HM.out]; exact him
            have hQi := HQY.out i hly
            rw [hQi] at HST
            obtain ⟨g', og', rfl, hg', hcell'⟩ := HRB.out.cells (by omega)
            have e2 := (HBR.out.cell (p := ⟨g', og' + i, none⟩) (by show g' < W.heap.size; omega)).trans ((HAL.out.cell (p := ⟨g', og' + i, none⟩) hg').trans (hcell' i hly))
            clear hcell' hQi
            generalize ys[i] = y at *
            have hi1 : (i : Int) < (m : Int) := by omega
            have g5 : decide (i < m) = true := decide_eq_true him
            have hmd : (m : Int) ≤ (d : Int) := by omega
            by_cases he : y.data.toList = 81 :: x.data.toList.drop 1
            · have t1 : (y.toList == ((⟨#[81]⟩ : ByteArray) ++ x.extract 1 x.size).toList) = true := by rw [Lib.toList_data, he, Lib.toList_data, ext81]; simp
              rw [he, if_pos rfl] at HST
              clear he
              go_wp2_with fail
              with_reducible refine (HPc.out _).mono ?_
              rintro e w' ⟨rfl, rfl⟩
              set_option maxRecDepth 100000 in go_wp2_with (refine wpList_append_ss rfl _ _ rfl W.heap.size _ ls rfl (HOWN.out.below ((Below.refl _ _).alloc (Nat.le_refl _) _)) (some ⟨wr.heap.size, 0, none⟩) [_] 1 rfl (new_one wr _ _) (fun h => by cases h) (by simp [HLI.out]; omega) (by simp; omega) ?_; intro v' w' hown' hb')
              have HO2 := Lib.hid hown'
              have HB3 := Lib.hid (show Below W.heap.size wr w' from ((Below.refl _ _).alloc hzr _).trans hb')
              clear hown' hb'
              set_option maxRecDepth 100000 in go_wp2
              go_roundw
              case rel =>
                refine ⟨i + 1, ls ++ [_], by omega, by go_num, HO2.out, by simp [HLI.out], HBR.out.trans HB3.out, ?_, ?_⟩
                · intro z hz
                  rcases List.mem_append.1 hz with h | h
                  · exact HLB.out z h
                  · rw [List.mem_singleton.1 h]
                    have := HSXI.out; rw [ByteArray.size_append, ByteArray.size_extract]; show 1 + _ ≤ _; omega
                · rw [HWO.out, HST.out, bs_append]
                  rw [bs_ext]; simp
              case measure => simp [intOf]; omega
            · have t1 : (y.toList == ((⟨#[81]⟩ : ByteArray) ++ x.extract 1 x.size).toList) = false := by rw [beq_eq_false_iff_ne, Lib.toList_data, Lib.toList_data, ext81]; exact he
              rw [if_neg (by intro h; injection h with h; exact he h)] at HST
              clear he
              go_wp2_with fail
              with_reducible refine (HPc.out _).mono ?_
              rintro e w' ⟨rfl, rfl⟩
              set_option maxRecDepth 100000 in go_wp2_with (refine wpList_append_ss rfl _ _ rfl W.heap.size _ ls rfl (HOWN.out.below ((Below.refl _ _).alloc (Nat.le_refl _) _)) (some ⟨wr.heap.size, 0, none⟩) [_] 1 rfl (new_one wr _ _) (fun h => by cases h) (by simp [HLI.out]; omega) (by simp; omega) ?_; intro v' w' hown' hb')
              have HO2 := Lib.hid hown'
              have HB3 := Lib.hid (show Below W.heap.size wr w' from ((Below.refl _ _).alloc hzr _).trans hb')
              clear hown' hb'
              set_option maxRecDepth 100000 in go_wp2
              go_roundw
              case rel =>
                refine ⟨i + 1, ls ++ [_], by omega, by go_num, HO2.out, by simp [HLI.out], HBR.out.trans HB3.out, ?_, ?_⟩
                · intro z hz
                  rcases List.mem_append.1 hz with h | h
                  · exact HLB.out z h
                  · rw [List.mem_singleton.1 h]
                    have := HSXI.out; rw [ByteArray.size_append, ByteArray.size_extract]; show 1 + _ ≤ _; omega
                · rw [HWO.out, HST.out, bs_append]
                  rw [bs_ext]; simp
              case measure => simp [intOf]; omega
          · have hQi := HQN.out i (by rw [← HM.out]; omega)
            rw [hQi, if_neg (by simp)] at HST
            clear hQi
            have hi1 : ¬ (i : Int) < (m : Int) := by omega
            have g5 : decide (i < m) = false := decide_eq_false him
            go_wp2_with fail
            with_reducible refine (HPc.out _).mono ?_
            rintro e w' ⟨rfl, rfl⟩
            set_option maxRecDepth 100000 in go_wp2_with (refine wpList_append_ss rfl _ _ rfl W.heap.size _ ls rfl (HOWN.out.below ((Below.refl _ _).alloc (Nat.le_refl _) _)) (some ⟨wr.heap.size, 0, none⟩) [_] 1 rfl (new_one wr _ _) (fun h => by cases h) (by simp [HLI.out]; omega) (by simp; omega) ?_; intro v' w' hown' hb')
            have HO2 := Lib.hid hown'
            have HB3 := Lib.hid (show Below W.heap.size wr w' from ((Below.refl _ _).alloc hzr _).trans hb')
            clear hown' hb'
            set_option maxRecDepth 100000 in go_wp2
            go_roundw
            case rel =>
              refine ⟨i + 1, ls ++ [_], by omega, by go_num, HO2.out, by simp [HLI.out], HBR.out.trans HB3.out, ?_, ?_⟩
              · intro z hz
                rcases List.mem_append.1 hz with h | h
                · exact HLB.out z h
                · rw [List.mem_singleton.1 h]
                  have := HSXI.out; rw [ByteArray.size_append, ByteArray.size_extract]; show 1 + _ ≤ _; omega
              · rw [HWO.out, HST.out, bs_append]
                rw [bs_ext]; simp
            case measure => simp [intOf]; omega
      · have hPi := HPS.out i (by rw [← HN.out]; omega) (by rw [HPL.out]; exact hlt)
        have hixn : ¬ (i : Int) < (n : Int) := by omega
        have g6 : decide (i < n) = false := decide_eq_false hix
        generalize hE : (⟨#[42]⟩ : ByteArray) = E
        have hEd : E.data.toList = [42] := by rw [← hE]
        have hEs : E.size = 1 := by rw [← hE]; rfl
        have HSXI := Lib.hid (show E.size ≤ 100000 by omega)
        have HPc := Lib.hid (fun w : World => hasp_any E E w)
        have hpx : Lib.hasPrefix E.data.toList [42] = true := by rw [hEd]; rfl
        have hpe : Lib.hasPrefix E.data.toList E.data.toList = true := by rw [hEd]; rfl
        rw [hpe, ← hpx] at HPc
        rw [hPi, ← hEd] at HST
        have HED := Lib.hid hEd
        have HES := Lib.hid hEs
        clear hE hEd hEs hpe hPi
        rw [hpx] at HPc
        have hx1 := one_le hpx
        have hx1i : (1 : Int) ≤ (E.size : Int) := by omega
        have hsxi : E.size ≤ 100000 := HSXI.out
        have hw : ∀ y, Pt.witPart E.data.toList y = if y = some (81 :: E.data.toList.drop 1) then 82 :: E.data.toList.drop 1 else 81 :: E.data.toList.drop 1 := fun y => by unfold Pt.witPart; rw [hpx]; rfl
        rw [hw] at HST
        clear hw
        by_cases him : i < m
        · have hly : i < ys.length := by rw [← HM.out]; exact him
          have hQi := HQY.out i hly
          rw [hQi] at HST
          obtain ⟨g', og', rfl, hg', hcell'⟩ := HRB.out.cells (by omega)
          have e2 := (HBR.out.cell (p := ⟨g', og' + i, none⟩) (by show g' < W.heap.size; omega)).trans ((HAL.out.cell (p := ⟨g', og' + i, none⟩) hg').trans (hcell' i hly))
          clear hcell' hQi
          generalize ys[i] = y at *
          have hi1 : (i : Int) < (m : Int) := by omega
          have g5 : decide (i < m) = true := decide_eq_true him
          have hmd : (m : Int) ≤ (d : Int) := by omega
          by_cases he : y.data.toList = 81 :: E.data.toList.drop 1
          · have t1 : (y.toList == ((⟨#[81]⟩ : ByteArray) ++ E.extract 1 E.size).toList) = true := by rw [Lib.toList_data, he, Lib.toList_data, ext81]; simp
            rw [he, if_pos rfl] at HST
            clear he
            go_wp2_with fail
            with_reducible refine (HPc.out _).mono ?_
            rintro e w' ⟨rfl, rfl⟩
            set_option maxRecDepth 100000 in go_wp2_with (refine wpList_append_ss rfl _ _ rfl W.heap.size _ ls rfl (HOWN.out.below ((Below.refl _ _).alloc (Nat.le_refl _) _)) (some ⟨wr.heap.size, 0, none⟩) [_] 1 rfl (new_one wr _ _) (fun h => by cases h) (by simp [HLI.out]; omega) (by simp; omega) ?_; intro v' w' hown' hb')
            have HO2 := Lib.hid hown'
            have HB3 := Lib.hid (show Below W.heap.size wr w' from ((Below.refl _ _).alloc hzr _).trans hb')
            clear hown' hb'
            set_option maxRecDepth 100000 in go_wp2
            go_roundw
            case rel =>
              refine ⟨i + 1, ls ++ [_], by omega, by go_num, HO2.out, by simp [HLI.out], HBR.out.trans HB3.out, ?_, ?_⟩
              · intro z hz
                rcases List.mem_append.1 hz with h | h
                · exact HLB.out z h
                · rw [List.mem_singleton.1 h]
                  have := HSXI.out; rw [ByteArray.size_append, ByteArray.size_extract]; show 1 + _ ≤ _; omega
              · rw [HWO.out, HST.out, bs_append]
                rw [bs_ext]; simp
            case measure => simp [intOf]; omega
          · have t1 : (y.toList == ((⟨#[81]⟩ : ByteArray) ++ E.extract 1 E.size).toList) = false := by rw [beq_eq_false_iff_ne, Lib.toList_data, Lib.toList_data, ext81]; exact he
            rw [if_neg (by intro h; injection h with h; exact he h)] at HST
            clear he
            go_wp2_with fail
            with_reducible refine (HPc.out _).mono ?_
            rintro e w' ⟨rfl, rfl⟩
            set_option maxRecDepth 100000 in go_wp2_with (refine wpList_append_ss rfl _ _ rfl W.heap.size _ ls rfl (HOWN.out.below ((Below.refl _ _).alloc (Nat.le_refl _) _)) (some ⟨wr.heap.size, 0, none⟩) [_] 1 rfl (new_one wr _ _) (fun h => by cases h) (by simp [HLI.out]; omega) (by simp; omega) ?_; intro v' w' hown' hb')
            have HO2 := Lib.hid hown'
            have HB3 := Lib.hid (show Below W.heap.size wr w' from ((Below.refl _ _).alloc hzr _).trans hb')
            clear hown' hb'
            set_option maxRecDepth 100000 in go_wp2
            go_roundw
            case rel =>
              refine ⟨i + 1, ls ++ [_], by omega, by go_num, HO2.out, by simp [HLI.out], HBR.out.trans HB3.out, ?_, ?_⟩
              · intro z hz
                rcases List.mem_append.1 hz with h | h
                · exact HLB.out z h
                · rw [List.mem_singleton.1 h]
                  have := HSXI.out; rw [ByteArray.size_append, ByteArray.size_extract]; show 1 + _ ≤ _; omega
              · rw [HWO.out, HST.out, bs_append]
                rw [bs_ext]; simp
            case measure => simp [intOf]; omega
        · have hQi := HQN.out i (by rw [← HM.out]; omega)
          rw [hQi, if_neg (by simp)] at HST
          clear hQi
          have hi1 : ¬ (i : Int) < (m : Int) := by omega
          have g5 : decide (i < m) = false := decide_eq_false him
          go_wp2_with fail
          with_reducible refine (HPc.out _).mono ?_
          rintro e w' ⟨rfl, rfl⟩
          set_option maxRecDepth 100000 in go_wp2_with (refine wpList_append_ss rfl _ _ rfl W.heap.size _ ls rfl (HOWN.out.below ((Below.refl _ _).alloc (Nat.le_refl _) _)) (some ⟨wr.heap.size, 0, none⟩) [_] 1 rfl (new_one wr _ _) (fun h => by cases h) (by simp [HLI.out]; omega) (by simp; omega) ?_; intro v' w' hown' hb')
          have HO2 := Lib.hid hown'
          have HB3 := Lib.hid (show Below W.heap.size wr w' from ((Below.refl _ _).alloc hzr _).trans hb')
          clear hown' hb'
          set_option maxRecDepth 100000 in go_wp2
          go_roundw
          case rel =>
            refine ⟨i + 1, ls ++ [_], by omega, by go_num, HO2.out, by simp [HLI.out], HBR.out.trans HB3.out, ?_, ?_⟩
            · intro z hz
              rcases List.mem_append.1 hz with h | h
              · exact HLB.out z h
              · rw [List.mem_singleton.1 h]
                have := HSXI.out; rw [ByteArray.size_append, ByteArray.size_extract]; show 1 + _ ≤ _; omega
            · rw [HWO.out, HST.out, bs_append]
              rw [bs_ext]; simp
          case measure => simp [intOf]; omega
    · obtain rfl : i = n + r := by omega
      have hwl : Pt.witOf P Q = bs ls := by
        rw [HWO.out, List.drop_of_length_le (show P.length ≤ n + r by rw [HPL.out]; exact Nat.le_refl _)]
        simp [Pt.witOf]
      obtain ⟨A', c', rfl, hc', hcm', hr', _⟩ := HOWN.out.form
      have hjl := lib_join_len 100001 (bs ls) (by
        intro z hz
        obtain ⟨y, hy, rfl⟩ := List.mem_map.1 hz
        rw [← Lib.size_eq]
        exact HLB.out y hy)
      rw [bs_length, HLI.out] at hjl
      have hj2 : (n + r) * (100001 + 1) ≤ 200 * (100001 + 1) := Nat.mul_le_mul_right _ (by omega)
      have hlen : (Lib.join (bs ls) [47]).length ≤ 140737488355000 := by omega
      have HJ := Lib.hid (sjoin_any A' ls c' ⟨#[47]⟩ wr hr' hc' rfl (by omega) (by rw [HLI.out]; omega))
      have HBW := Lib.hid (HAL.out.trans (HBR.out.mono (by omega)))
      have HW := Lib.hid (show Pm.join (Pt.witOf P Q) = 47 :: 47 :: Lib.join (bs ls) [47] by rw [hwl]; rfl)
      rw [HLI.out]
      rw [HLI.out] at HJ
      clear hc' hcm' hr' hjl hwl hj2
      generalize Lib.join (bs ls) [47] = l at *
      go_wp2_with fail
      with_reducible refine HJ.out.mono ?_
      rintro e w5 ⟨rfl, hb5⟩
      have HB5 := Lib.hid hb5
      clear hb5
      go_wp2
      go_ret
      exact ⟨ret_str (by rw [HW.out]; exact slash2 l), HBW.out.trans (HB5.out.mono (by omega))⟩
end Go.Proofs.YtffjmhdnfkpdpaaDoor
