/- slices.DeleteFunc on an own slice of patterns: the walk. -/
import Derived.Test.YtembmegllpkmfaaGreatDoorRegDel
namespace Go.Proofs.YtembmegllpkmfaaGreatDoor
open Go.RowKit
set_option linter.unusedVariables false

set_option maxHeartbeats 2000000 in
theorem delF_nil (q : Value) (w : World) : Calls Tryz.prog 66 #[.slice none 0 0, .func (.func 67) #[] #[q]] w fun e w' => e = .returned (.slice none 0 0) ∧ Below w.heap.size w w' := by
  have HI := Lib.hid (idxF_s2 q (fun _ => false) none [] 0 w ⟨.inl rfl, fun x h => (by cases h), Nat.le_refl _, Nat.zero_le _, fun _ => rfl⟩ (fun k hk => absurd hk (Nat.not_lt_zero _)))
  change Hid (Calls Tryz.prog 108 #[.slice none 0 0, .func (.func 67) #[] #[q]] w _) at HI
  go_enter Tryz.func66, Tryz.ntmps66
  go_wp2_with fail
  with_reducible refine HI.out.mono ?_
  rintro e w1 ⟨⟨r, rfl, hr⟩, hb⟩
  have HB := Lib.hid hb
  obtain rfl : r = -1 := by
    rcases hr with h | ⟨k, _, hk, _⟩
    · exact h.1
    · exact absurd hk (Nat.not_lt_zero _)
  clear hb hr
  go_wp2
  go_ret
  exact ⟨rfl, HB.out⟩

set_option maxHeartbeats 4000000 in
theorem delF_own (lb0 : Value) (P : BindV → Bool) (base g cap : Nat) (bl : List BindV) (w : World) (hown : OwnP w base (.slice (some ⟨g, 0, none⟩) bl.length cap) bl)
    (hf : ∀ x ∈ bl, ∀ w', w.grownBy w' (some g) → PatR w' x.A x.xs x.c x.b x.pat → Calls Tryz.prog 67 #[patV x.A x.xs.length x.c x.b, lb0] w' (GivesBB w' (P x))) :
    Calls Tryz.prog 66 #[.slice (some ⟨g, 0, none⟩) bl.length cap, .func (.func 67) #[] #[lb0]] w fun e w' => ∃ bl', e = .returned (.slice (some ⟨g, 0, none⟩) bl'.length cap) ∧ bl' = bl.filter (fun x => !P x) ∧
      OwnP w' base (.slice (some ⟨g, 0, none⟩) bl'.length cap) bl' ∧ w.grownBy w' (some g) := by
  obtain ⟨A, c, hA, hrd, _⟩ := hown.rd
  injection hA with e1 e2 e3
  subst e1 e3
  have hcap : bl.length ≤ cap ∧ cap ≤ maxLen := ⟨hrd.le, hrd.cm⟩
  have hlt := (hown.lt g rfl).2
  have HI := Lib.hid (idxF_s2 lb0 (fun k => (bl[k]?.map P).getD false) _ bl cap w hrd (fun k hk w' hb => by
    rw [List.getElem?_eq_getElem hk]
    exact hf _ (List.getElem_mem hk) w' (grown_of_below hb) ((hown.parts _ (List.getElem_mem hk)).keep hb)))
  have HF := Lib.hid hf
  have HO := Lib.hid hown
  have hmi : (cap : Int) ≤ 9223372036854775807 := by have := hcap.2; unfold maxLen at this; omega
  have hlc : (bl.length : Int) ≤ (cap : Int) := by have := hcap.1; omega
  clear hown hrd hcap hf
  generalize hn : bl.length = n at *
  have HN := Lib.hid hn
  clear hn
  go_enter Tryz.func66, Tryz.ntmps66
  go_wp2_with fail
  with_reducible refine HI.out.mono ?_
  rintro e w1 ⟨⟨r, rfl, hr⟩, hb⟩
  have HB := Lib.hid hb
  rcases hr with ⟨rfl, hno⟩ | ⟨i0, rfl, hi0, hp0, hno⟩
  · have HNo := Lib.hid hno
    clear hb hno
    go_wp2
    go_ret
    have hfil : bl.filter (fun x => !P x) = bl := by
      rw [List.filter_eq_self]
      intro x hx
      obtain ⟨k, hk, rfl⟩ := List.getElem_of_mem hx
      have := HNo.out k (by rw [← HN.out]; exact hk)
      rw [List.getElem?_eq_getElem hk] at this
      have h2 : P bl[k] = false := this
      rw [h2]; rfl
    have hnn := HN.out
    subst hnn
    exact ⟨bl, rfl, hfil.symm, HO.out.below HB.out, grown_of_below HB.out⟩
  · have HD : Hid (Del P bl bl i0 (i0 + 1)) := Lib.hid (by
      have hnn := HN.out
      subst hnn
      rw [List.getElem?_eq_getElem hi0] at hp0
      exact Del.start hi0 hp0 fun k hk hki => by have := hno k hki; rwa [List.getElem?_eq_getElem hk] at this)
    clear hno hp0
    have HOn : Hid (OwnP w1 base (.slice (some ⟨g, 0, none⟩) n cap) bl) := Lib.hid (HO.out.below HB.out)
    have HGr : Hid (w.grownBy w1 (some g)) := Lib.hid (grown_of_below HB.out)
    have i1 : (i0 : Int) < (n : Int) := by omega
    clear hb
    go_wp2
    go_loopg [5, 6] n (fun gg s5 s6 wx => ∃ (i j : Nat), n ≤ j + gg ∧ i < j ∧ j ≤ n ∧ s5 = .int .i64 (i : Int) ∧ s6 = .int .i64 (j : Int) ∧ Aside (∃ m : List BindV, Del P bl m i j ∧ OwnP wx base (.slice (some ⟨g, 0, none⟩) n cap) m ∧ w.grownBy wx (some g)))
    case atStart => exact ⟨i0, i0 + 1, by omega, by omega, by omega, rfl, by go_num, ⟨bl, HD.out, HOn.out, HGr.out⟩⟩
    case round =>
      clear HO HI HD HOn HGr hi0 i1 HB
      obtain ⟨i, j, hj, hij, hjn0, rfl, rfl, HA⟩ := hrel
      obtain ⟨m, hD, hO, hG⟩ := HA.out
      have hml : n = m.length := HN.out.symm.trans hD.len.symm
      have HM := Lib.hid hml
      have hO' : OwnP wr base (.slice (some ⟨g, 0, none⟩) m.length cap) m := by rw [← hml]; exact hO
      have HOm := Lib.hid hO'
      have HDm := Lib.hid hD
      have HGm := Lib.hid hG
      have gl : g < wr.heap.size := (hO'.lt g rfl).2
      by_cases hjn : j < n
      · have i1 : (j : Int) < (n : Int) := by omega
        have hjb : j < bl.length := by rw [HN.out]; exact hjn
        have hjm : j < m.length := by rw [← hml]; exact hjn
        have him : i < m.length := by omega
        obtain ⟨c0, c1⟩ := hO'.cell2 j hjm
        have he : m[j] = bl[j] := hD.at hjb hjm
        rw [he] at c0 c1
        have hxm : bl[j] ∈ bl := List.getElem_mem hjb
        have hxm' : bl[j] ∈ m := by rw [← he]; exact List.getElem_mem hjm
        have hxp := hO'.parts _ hxm'
        have HS : Hid (P bl[j] = true → Del P bl m i (j + 1)) := Lib.hid fun h => hD.skip hjb h
        have HK : Hid (P bl[j] = false → Del P bl (m.set i bl[j]) (i + 1) (j + 1)) := Lib.hid fun h => hD.keep hjb h
        generalize bl[j] = x at *
        have hb1 : Below wr.heap.size wr (wr.alloc (.cells #[.slice x.A x.xs.length x.c, .bool x.b] 24)) := (Below.refl _ _).alloc (Nat.le_refl _) _
        have HC := Lib.hid (HF.out x hxm (wr.alloc (.cells #[.slice x.A x.xs.length x.c, .bool x.b] 24)) (HGm.out.trans (grown_of_below hb1)) (hxp.keep hb1))
        have HB1 := Lib.hid hb1
        have HX : Hid (x ∈ m) := Lib.hid hxm'
        obtain ⟨t0, t1, tl⟩ := PBox.new wr x.A x.xs.length x.c x.b
        clear hb1 hD hO hG hxm hxm' hxp he hml hO' hjb
        cases hp : P x with
        | true =>
          rw [hp] at HC
          have HP := Lib.hid hp
          clear hp
          go_wp2_with fail
          with_reducible refine HC.out.mono ?_
          rintro e w2 ⟨rfl, hb2⟩
          have HB2 := Lib.hid hb2
          clear hb2
          go_wp2
          go_roundg (n - (j + 1))
          case measure => go_light; omega
          case rel =>
            go_light
            have hb := HB1.out.trans (HB2.out.mono HB1.out.size)
            exact ⟨i, j + 1, by omega, by omega, by omega, rfl, by go_num, ⟨m, HS.out HP.out, by have := HOm.out.below hb; rwa [← HM.out] at this, HGm.out.trans (grown_of_below hb)⟩⟩
        | false =>
          rw [hp] at HC
          have HP := Lib.hid hp
          clear hp
          go_wp2_with fail
          with_reducible refine HC.out.mono ?_
          rintro e w2 ⟨rfl, hb2⟩
          have HB2 := Lib.hid hb2
          have hb := HB1.out.trans (hb2.mono HB1.out.size)
          have hO2 := HOm.out.below hb
          have HO2 := Lib.hid hO2
          have HG2 := Lib.hid (HGm.out.trans (grown_of_below (row := some g) hb))
          have d0 := (hb2.cell (p := ⟨wr.heap.size, 0, none⟩) tl).trans t0
          have d1 := (hb2.cell (p := ⟨wr.heap.size, 1, none⟩) tl).trans t1
          obtain ⟨u0, f0⟩ : ∃ u, w2.cell? ⟨g, i * 2, none⟩ = some u := ⟨_, (hO2.cell2 i him).1⟩
          obtain ⟨u1, f1⟩ : ∃ u, w2.cell? ⟨g, i * 2 + 1, none⟩ = some u := ⟨_, (hO2.cell2 i him).2⟩
          have HIM := Lib.hid him
          have f2 := hO2.warm (i * 2)
          have f3 := hO2.warm (i * 2 + 1)
          have ii : (i : Int) < (n : Int) := by omega
          clear hb2 hb hO2 t0 t1 c0 c1 him
          go_wp2
          go_roundg (n - (j + 1))
          case measure => go_light; omega
          case rel =>
            go_light
            obtain ⟨q1, q2⟩ := own_set HO2.out HIM.out HX.out
            exact ⟨i + 1, j + 1, by omega, by omega, by omega, by go_num, by go_num, ⟨m.set i x, HK.out HP.out, by rw [HM.out]; exact q1, HG2.out.trans q2⟩⟩
      · have i1 : ¬ (j : Int) < (n : Int) := by omega
        obtain rfl : j = n := by omega
        have ii : (i : Int) < (j : Int) := by omega
        have i2 : (i : Int) ≤ (cap : Int) := by omega
        clear hD hO hO' hG hml
        have hcl : ∀ ty, (Builtin.clear_ #[25] ty #[.slice (some ⟨g, i * 2, none⟩) (j - i) (cap - i)]).run Tryz.prog wr = .ok (.tuple #[]) (wr.setCells g (i * 2) (Builtin.zeroCells #[.slice none 0 0, .bool false] (j - i)).toList) :=
          fun ty => run_clearP wr ty g (i * 2) (j - i) (cap - i) (fun k hk => HOm.out.isSome _ (by have := HM.out; omega)) (fun k hk => HOm.out.warm _)
        have HCl := Lib.hid (own_clear (Builtin.zeroCells #[.slice none 0 0, .bool false] (j - i)).toList HOm.out (i := i) (by have := HM.out; omega))
        generalize (Builtin.zeroCells #[.slice none 0 0, .bool false] (j - i)).toList = vs at *
        go_wp2
        go_ret
        have hl : (m.take i).length = i := by rw [List.length_take]; have := HM.out; omega
        refine ⟨m.take i, (by rw [hl]; rfl), ?_, HCl.out.1, HGm.out.trans HCl.out.2⟩
        rw [HDm.out.kept, List.take_of_length_le (by have := HN.out; omega)]
end Go.Proofs.YtembmegllpkmfaaGreatDoor
