/- The contracts of the reference's Star, Part, Capture, Inside. -/
import Derived.Test.YthgcnlhlhipllaaGreatDoorPathAll
import Derived.Test.YthgcnlhlhipllaaGreatDoorMathAll
namespace Go.Proofs.YthgcnlhlhipllaaGreatDoor
open Go.RowKit

def StarRes (w : World) (o : Option (List UInt8)) (e : Ending) (w' : World) : Prop := e = .returned (.tuple #[.string ⟨(o.getD []).toArray⟩, .bool o.isSome]) ∧ w = w'
theorem star_head {s : ByteArray} (h : 0 < s.size) : Pt.star s.data.toList = if s[0] = 42 ∧ (s.data.toList.drop 1).all Pm.nb = true then some (s.data.toList.drop 1) else none := by
  have hl : 0 < s.data.toList.length := by rw [← Lib.size_eq]; exact h
  have hg : s.data.toList[0] = s[0] := list_get s 0 h
  cases hs : s.data.toList with
  | nil => rw [hs] at hl; simp at hl
  | cons c r =>
    have : c = s[0] := by rw [← hg]; simp [hs]
    rw [Pt.star_cons, this]
    rfl
theorem rstar_any (s : ByteArray) (w : World) (hs : s.size ≤ maxLen) : Calls Tryz.prog 54 #[.string s] w (StarRes w (Pt.star s.data.toList)) := by
  unfold maxLen at hs
  by_cases h0 : s.toList = []
  · have h0' : (!s.toList.isEmpty) = false := by rw [h0]; rfl
    have hn : Pt.star s.data.toList = none := by rw [← Lib.toList_data, h0]; rfl
    rw [hn]
    clear hn
    go_enter Tryz.func54, Tryz.ntmps54
    go_wp2
    go_ret2
    exact ⟨rfl, rfl⟩
  · have h0' : (!s.toList.isEmpty) = true := by
      cases h : s.toList with
      | nil => exact absurd h h0
      | cons _ _ => rfl
    have h0'' : s.toList.isEmpty = false := by simpa using h0'
    have hp : 0 < s.size := by
      rw [Lib.size_eq, ← Lib.toList_data]
      exact List.length_pos_iff.2 h0
    have hst := star_head hp
    generalize Pt.star s.data.toList = o at hst
    by_cases h42 : s[0] = 42
    · have t1 : ((s[0].toNat : Int) == 42) = true := by rw [h42]; rfl
      have t2 : ((s[0].toNat : Int) != 42) = false := by rw [h42]; rfl
      have ho : o = if (s.data.toList.drop 1).all Pm.nb = true then some (s.data.toList.drop 1) else none := by
        rw [hst]
        simp [h42]
      have HO := Lib.hid ho
      have hp1 : (1 : Int) ≤ (s.size : Int) := by omega
      clear hst ho h42
      go_enter Tryz.func54, Tryz.ntmps54
      go_wp2
      go_loop [4] (fun i => ∃ k : Nat, 1 ≤ k ∧ k ≤ s.size ∧ i = .int .i64 k ∧ (s.data.toList.drop k).all Pm.nb = (s.data.toList.drop 1).all Pm.nb) (fun i => s.size - (intOf i).toNat)
      case atStart => exact ⟨1, by omega, by omega, rfl, rfl⟩
      case round =>
        obtain ⟨k, hk1, hk, rfl, hall⟩ := hrel
        have HA := Lib.hid hall
        clear hall
        by_cases hlt : k < s.size
        · have hl : k < s.data.toList.length := by rw [← Lib.size_eq]; exact hlt
          have hd := all_drop hl
          rw [list_get s k hlt] at hd
          have HD := Lib.hid hd
          clear hd
          have hx := Pm.letters_nb s[k]
          cases hn : Pm.nb s[k] with
          | true =>
            rw [hn] at hx
            have hx' : 0 ≤ Lib.indexByte Pm.letters s[k] := by simpa using hx
            clear hx
            go_wp2_with fail
            with_reducible refine (idx_any _ _ _ rfl).mono ?_
            rintro e w' ⟨rfl, rfl⟩
            go_wp2
            go_round
            case rel => exact ⟨k + 1, by omega, by omega, by go_num, by have := HD.out; rw [hn, HA.out] at this; simpa using this.symm⟩
            case measure => simp [intOf]; omega
          | false =>
            have hf : o = none := by
              have := HD.out
              rw [hn, HA.out] at this
              rw [HO.out, this]
              rfl
            subst hf
            rw [hn] at hx
            have hx' : Lib.indexByte Pm.letters s[k] < 0 := by simpa using hx
            clear hx
            go_wp2_with fail
            with_reducible refine (idx_any _ _ _ rfl).mono ?_
            rintro e w' ⟨rfl, rfl⟩
            go_wp2
            go_ret2
            exact ⟨rfl, rfl⟩
        · have hf : o = some (s.data.toList.drop 1) := by
            have := HA.out
            rw [List.drop_of_length_le (by rw [← Lib.size_eq]; omega)] at this
            rw [HO.out, ← this]
            rfl
          have HF := Lib.hid (show s.extract 1 s.size = ⟨(s.data.toList.drop 1).toArray⟩ from ba_ext (by rw [extract_drop]))
          generalize s.data.toList.drop 1 = t at *
          subst hf
          go_wp2
          go_ret2
          refine ⟨?_, rfl⟩
          show _ = Ending.returned (.tuple #[.string ⟨t.toArray⟩, .bool true])
          rw [← HF.out]
          rfl
    · have t1 : ((s[0].toNat : Int) == 42) = false := by
        rw [beq_eq_false_iff_ne]
        intro h
        exact h42 (UInt8.toNat_inj.1 (by have : (42 : UInt8).toNat = 42 := rfl; omega))
      have t2 : ((s[0].toNat : Int) != 42) = true := by
        rw [bne, t1]
        rfl
      have ho : o = none := by
        rw [hst, if_neg]
        exact fun h => h42 h.1
      subst ho
      clear hst h42
      go_enter Tryz.func54, Tryz.ntmps54
      go_wp2
      go_ret2
      exact ⟨rfl, rfl⟩

theorem rpart_any (s : ByteArray) (w : World) (hs : s.size ≤ maxLen) : Calls Tryz.prog 96 #[.string s] w fun e w' => e = .returned (.bool (Pt.part s.data.toList)) ∧ w = w' := by
  have HS := Lib.hid (fun w : World => rstar_any s w hs)
  have HC := Lib.hid (fun w : World => rcomp_any s w hs)
  have hp : Pt.part s.data.toList = ((Pt.star s.data.toList).isSome || Pm.comp s.data.toList) := rfl
  rw [hp]
  clear hp
  generalize Pm.comp s.data.toList = c at HC
  cases ho : Pt.star s.data.toList with
  | none =>
    rw [ho] at HS
    clear ho
    go_enter Tryz.func96, Tryz.ntmps96
    go_wp2_with fail
    with_reducible refine (HS.out _).mono ?_
    rintro e w' ⟨rfl, rfl⟩
    go_wp2_with fail
    with_reducible refine (HC.out _).mono ?_
    rintro e w' ⟨rfl, rfl⟩
    go_wp2
    go_ret
    exact ⟨rfl, rfl⟩
  | some t =>
    rw [ho] at HS
    clear ho
    go_enter Tryz.func96, Tryz.ntmps96
    go_wp2_with fail
    with_reducible refine (HS.out _).mono ?_
    rintro e w' ⟨rfl, rfl⟩
    go_wp2
    go_ret
    exact ⟨rfl, rfl⟩

theorem hass_any (s p : ByteArray) (w : World) (hs : s.size ≤ maxLen) : Calls Tryz.prog 93 #[.string s, .string p] w fun e w' => e = .returned (.bool (Lib.hasSuffix s.data.toList p.data.toList)) ∧ w = w' := by
  unfold maxLen at hs
  refine (Tryz.strings_HasSuffix s p w (by omega)).mono ?_
  rintro e w' ⟨rfl, rfl⟩
  exact ⟨rfl, rfl⟩

/-- What Capture hands back: the capture (some text where there is none), and whether there is one. -/
def CapRes (w : World) (o : Option (List UInt8)) (e : Ending) (w' : World) : Prop :=
  ∃ l : List UInt8, e = .returned (.tuple #[.string ⟨l.toArray⟩, .bool o.isSome]) ∧ (∀ y, o = some y → l = y) ∧ w = w'
theorem rcapture_any (x c : ByteArray) (w : World) (hx : x.size ≤ maxLen) (hc : c.size ≤ maxLen) : Calls Tryz.prog 55 #[.string x, .string c] w (CapRes w (Pt.capture x.data.toList c.data.toList)) := by
  have HS := Lib.hid (fun w : World => rstar_any x w hx)
  have hcap : Pt.capture x.data.toList c.data.toList = match Pt.star x.data.toList with
    | none => if x.data.toList = c.data.toList then some [] else none
    | some s => if Lib.hasSuffix c.data.toList s = true ∧ Pm.comp (c.data.toList.take (c.data.toList.length - s.length)) = true then some (c.data.toList.take (c.data.toList.length - s.length)) else none := rfl
  generalize Pt.capture x.data.toList c.data.toList = o at hcap
  cases ho : Pt.star x.data.toList with
  | none =>
    rw [ho] at HS hcap
    simp only at hcap
    by_cases he : x.data.toList = c.data.toList
    · have h1 : o = some [] := by rw [hcap, if_pos he]
      have t1 : (x.toList == c.toList) = true := by rw [Lib.toList_data, Lib.toList_data, he]; simp
      subst h1
      clear hcap ho he hx hc
      go_enter Tryz.func55, Tryz.ntmps55
      go_wp2_with fail
      with_reducible refine (HS.out _).mono ?_
      rintro e w' ⟨rfl, rfl⟩
      go_wp2
      go_ret2
      exact ⟨[], rfl, fun y hy => by injection hy, rfl⟩
    · have h1 : o = none := by rw [hcap, if_neg he]
      have t1 : (x.toList == c.toList) = false := by rw [beq_eq_false_iff_ne, Lib.toList_data, Lib.toList_data]; exact he
      subst h1
      clear hcap ho he hx hc
      go_enter Tryz.func55, Tryz.ntmps55
      go_wp2_with fail
      with_reducible refine (HS.out _).mono ?_
      rintro e w' ⟨rfl, rfl⟩
      go_wp2
      go_ret2
      exact ⟨[], rfl, fun y hy => (by cases hy), rfl⟩
  | some s =>
    rw [ho] at HS hcap
    simp only at hcap
    have HH := Lib.hid (fun w : World => hass_any c ⟨s.toArray⟩ w hc)
    have e1 : (ByteArray.mk s.toArray).data.toList = s := rfl
    rw [e1] at HH
    clear e1
    cases hsuf : Lib.hasSuffix c.data.toList s with
    | false =>
      rw [hsuf] at HH hcap
      have h1 : o = none := by rw [hcap]; simp
      subst h1
      clear hcap ho hx hc hsuf
      go_enter Tryz.func55, Tryz.ntmps55
      go_wp2_with fail
      with_reducible refine (HS.out _).mono ?_
      rintro e w' ⟨rfl, rfl⟩
      go_wp2_with fail
      with_reducible refine (HH.out _).mono ?_
      rintro e w' ⟨rfl, rfl⟩
      go_wp2
      go_ret2
      exact ⟨[], rfl, fun y hy => (by cases hy), rfl⟩
    | true =>
      rw [hsuf] at HH hcap
      obtain ⟨u, hu⟩ := Pt.suffix_iff.1 hsuf
      have hsz : c.size = u.length + s.length := by rw [Lib.size_eq, hu, List.length_append]
      have htk : c.data.toList.take (c.data.toList.length - s.length) = u := by rw [hu, Pt.take_suffix]
      rw [htk] at hcap
      have HC := Lib.hid (fun w : World => rcomp_any ⟨u.toArray⟩ w (by rw [size_mk]; unfold maxLen at hc ⊢; omega))
      have e2 : (ByteArray.mk u.toArray).data.toList = u := rfl
      rw [e2] at HC
      have HE := Lib.hid (show c.extract 0 u.length = ⟨u.toArray⟩ from ba_ext (by rw [extract_take, hu]; simp))
      have hcz : (c.size : Int) - (s.length : Int) = (u.length : Int) := by omega
      have hule : (u.length : Int) ≤ (c.size : Int) := by omega
      have hcm : (c.size : Int) ≤ 9223372036854775807 := by unfold maxLen at hc; omega
      have hsm : (s.length : Int) ≤ (c.size : Int) := by omega
      generalize hv : Pm.comp u = v at HC hcap
      have hfin : o.isSome = v ∧ ∀ y, o = some y → u = y := by
        rw [hcap]
        cases v with
        | true => simp
        | false => simp
      have HF := Lib.hid hfin
      have HCZ := Lib.hid hcz
      clear hcap ho hx hc hsuf hu htk hv e2 hsz hfin hcz
      have hk : c.extract 0 (c.size - s.length) = ⟨u.toArray⟩ := by
        have := HCZ.out
        rw [show c.size - s.length = u.length by omega]
        exact HE.out
      go_enter Tryz.func55, Tryz.ntmps55
      go_wp2_with fail
      with_reducible refine (HS.out _).mono ?_
      rintro e w' ⟨rfl, rfl⟩
      go_wp2_with fail
      with_reducible refine (HH.out _).mono ?_
      rintro e w' ⟨rfl, rfl⟩
      go_wp2_with fail
      with_reducible refine (HC.out _).mono ?_
      rintro e w' ⟨rfl, rfl⟩
      go_wp2
      go_ret2
      refine ⟨u, ?_, HF.out.2, rfl⟩
      rw [HF.out.1]
      rfl

theorem rinside_any (x y : ByteArray) (w : World) (hx : x.size ≤ maxLen) (hy : y.size ≤ maxLen) : Calls Tryz.prog 87 #[.string x, .string y] w fun e w' => e = .returned (.bool (Pt.inside x.data.toList y.data.toList)) ∧ w = w' := by
  have HX := Lib.hid (fun w : World => rstar_any x w hx)
  have HY := Lib.hid (fun w : World => rstar_any y w hy)
  cases hsy : Pt.star y.data.toList with
  | none =>
    rw [Pt.inside_comp hsy]
    rw [hsy] at HY
    generalize Pt.star x.data.toList = o at HX
    by_cases he : x.data.toList = y.data.toList
    · have t1 : (x.toList == y.toList) = true := by rw [Lib.toList_data, Lib.toList_data, he]; simp
      rw [decide_eq_true he]
      clear hsy he hx hy
      go_enter Tryz.func87, Tryz.ntmps87
      go_wp2_with fail
      with_reducible refine (HX.out _).mono ?_
      rintro e w' ⟨rfl, rfl⟩
      go_wp2_with fail
      with_reducible refine (HY.out _).mono ?_
      rintro e w' ⟨rfl, rfl⟩
      go_wp2
      go_ret
      exact ⟨rfl, rfl⟩
    · have t1 : (x.toList == y.toList) = false := by rw [beq_eq_false_iff_ne, Lib.toList_data, Lib.toList_data]; exact he
      rw [decide_eq_false he]
      clear hsy he hx hy
      go_enter Tryz.func87, Tryz.ntmps87
      go_wp2_with fail
      with_reducible refine (HX.out _).mono ?_
      rintro e w' ⟨rfl, rfl⟩
      go_wp2_with fail
      with_reducible refine (HY.out _).mono ?_
      rintro e w' ⟨rfl, rfl⟩
      go_wp2
      go_ret
      exact ⟨rfl, rfl⟩
  | some t =>
    rw [hsy] at HY
    cases hsx : Pt.star x.data.toList with
    | some s =>
      rw [Pt.inside_stars hsx hsy]
      rw [hsx] at HX
      have hxs := (Pt.star_some.1 hsx).1
      have hsl : s.length ≤ maxLen := by
        have := congrArg List.length hxs
        rw [← Lib.size_eq] at this
        simp only [List.length_cons] at this
        omega
      have HH := Lib.hid (fun w : World => hass_any ⟨s.toArray⟩ ⟨t.toArray⟩ w (by rw [size_mk]; exact hsl))
      have e1 : (ByteArray.mk s.toArray).data.toList = s := rfl
      have e2 : (ByteArray.mk t.toArray).data.toList = t := rfl
      rw [e1, e2] at HH
      generalize Lib.hasSuffix s t = v at HH
      clear hsx hsy hxs hsl e1 e2 hx hy
      go_enter Tryz.func87, Tryz.ntmps87
      go_wp2_with fail
      with_reducible refine (HX.out _).mono ?_
      rintro e w' ⟨rfl, rfl⟩
      go_wp2_with fail
      with_reducible refine (HY.out _).mono ?_
      rintro e w' ⟨rfl, rfl⟩
      go_wp2_with fail
      with_reducible refine (HH.out _).mono ?_
      rintro e w' ⟨rfl, rfl⟩
      go_wp2
      go_ret
      exact ⟨rfl, rfl⟩
    | none =>
      rw [Pt.inside_star hsx hsy]
      rw [hsx] at HX
      have HC := Lib.hid (fun w : World => rcapture_any y x w hy hx)
      have hp : Pt.pm y.data.toList x.data.toList = (Pt.capture y.data.toList x.data.toList).isSome := rfl
      rw [hp]
      generalize Pt.capture y.data.toList x.data.toList = o at HC
      clear hsx hsy hp hx hy
      go_enter Tryz.func87, Tryz.ntmps87
      go_wp2_with fail
      with_reducible refine (HX.out _).mono ?_
      rintro e w' ⟨rfl, rfl⟩
      go_wp2_with fail
      with_reducible refine (HY.out _).mono ?_
      rintro e w' ⟨rfl, rfl⟩
      go_wp2_with fail
      with_reducible refine (HC.out _).mono ?_
      rintro e w' ⟨l, rfl, _, rfl⟩
      go_wp2
      go_ret
      exact ⟨rfl, rfl⟩
end Go.Proofs.YthgcnlhlhipllaaGreatDoor
