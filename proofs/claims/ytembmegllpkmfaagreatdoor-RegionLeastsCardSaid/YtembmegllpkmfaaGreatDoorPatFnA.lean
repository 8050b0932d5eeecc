/- The contracts of the reference's Star, Part, Capture, Inside. Words for patterns in memory; the contracts of the reference's Check and Text. The contracts of the reference's Text, Same, Kinds, wildcards; of small and equal. The contracts of small, of the reference's Kinds, wildcards, Same. -/
import Derived.Test.YtembmegllpkmfaaGreatDoorPathAll
import Derived.Test.YtembmegllpkmfaaGreatDoorMathAll
namespace Go.Proofs.YtembmegllpkmfaaGreatDoor
open Go.RowKit

def StarRes (w : World) (o : Option (List UInt8)) (e : Ending) (w' : World) : Prop := e = .returned (.tuple #[.string ⟨(o.getD []).toArray⟩, .bool o.isSome]) ∧ w = w'
theorem star_head {s : ByteArray} (h : 0 < s.size) : Pt.star s.data.toList = if s[0] = 42 ∧ (s.data.toList.drop 1).all Pm.nb = true then some (s.data.toList.drop 1) else none := by
  have hl : 0 < s.data.toList.length := by rw [← Lib.size_eq]; exact h
  have hg : s.data.toList[0] = s[0] := list_get s 0 h
  cases hs : s.data.toList with
  | nil => rw [hs] at hl; simp at hl
  | cons c r =>
    have : c = s[0] := by rw [← hg]; simp [hs]
    rw [Pt.star_cons, this]
    rfl
theorem rstar_any (s : ByteArray) (w : World) (hs : s.size ≤ maxLen) : Calls Tryz.prog 34 #[.string s] w (StarRes w (Pt.star s.data.toList)) := by
  unfold maxLen at hs
  by_cases h0 : s.toList = []
  · have h0' : (!s.toList.isEmpty) = false := by rw [h0]; rfl
    have hn : Pt.star s.data.toList = none := by rw [← Lib.toList_data, h0]; rfl
    rw [hn]
    clear hn
    go_enter Tryz.func34, Tryz.ntmps34
    go_wp2
    go_ret2
    exact ⟨rfl, rfl⟩
  · have h0' : (!s.toList.isEmpty) = true := by
      cases h : s.toList with
      | nil => exact absurd h h0
      | cons _ _ => rfl
    have h0'' : s.toList.isEmpty = false := by simpa using h0'
    have hp : 0 < s.size := by
      rw [Lib.size_eq, ← Lib.toList_data]
      exact List.length_pos_iff.2 h0
    have hst := star_head hp
    generalize Pt.star s.data.toList = o at hst
    by_cases h42 : s[0] = 42
    · have t1 : ((s[0].toNat : Int) == 42) = true := by rw [h42]; rfl
      have t2 : ((s[0].toNat : Int) != 42) = false := by rw [h42]; rfl
      have ho : o = if (s.data.toList.drop 1).all Pm.nb = true then some (s.data.toList.drop 1) else none := by
        rw [hst]
        simp [h42]
      have HO := Lib.hid ho
      have hp1 : (1 : Int) ≤ (s.size : Int) := by omega
      clear hst ho h42
      go_enter Tryz.func34, Tryz.ntmps34
      go_wp2
      go_loop [4] (fun i => ∃ k : Nat, 1 ≤ k ∧ k ≤ s.size ∧ i = .int .i64 k ∧ (s.data.toList.drop k).all Pm.nb = (s.data.toList.drop 1).all Pm.nb) (fun i => s.size - (intOf i).toNat)
      case atStart => exact ⟨1, by omega, by omega, rfl, rfl⟩
      case round =>
        obtain ⟨k, hk1, hk, rfl, hall⟩ := hrel
        have HA := Lib.hid hall
        clear hall
        by_cases hlt : k < s.size
        · have hl : k < s.data.toList.length := by rw [← Lib.size_eq]; exact hlt
          have hd := all_drop hl
          rw [list_get s k hlt] at hd
          have HD := Lib.hid hd
          clear hd
          have hx := Pm.letters_nb s[k]
          cases hn : Pm.nb s[k] with
          | true =>
            rw [hn] at hx
            have hx' : 0 ≤ Lib.indexByte Pm.letters s[k] := by simpa using hx
            clear hx
            go_wp2_with fail
            with_reducible refine (idx_any _ _ _ rfl).mono ?_
            rintro e w' ⟨rfl, rfl⟩
            go_wp2
            go_round
            case rel => exact ⟨k + 1, by omega, by omega, by go_num, by have := HD.out; rw [hn, HA.out] at this; simpa using this.symm⟩
            case measure => simp [intOf]; omega
          | false =>
            have hf : o = none := by
              have := HD.out
              rw [hn, HA.out] at this
              rw [HO.out, this]
              rfl
            subst hf
            rw [hn] at hx
            have hx' : Lib.indexByte Pm.letters s[k] < 0 := by simpa using hx
            clear hx
            go_wp2_with fail
            with_reducible refine (idx_any _ _ _ rfl).mono ?_
            rintro e w' ⟨rfl, rfl⟩
            go_wp2
            go_ret2
            exact ⟨rfl, rfl⟩
        · have hf : o = some (s.data.toList.drop 1) := by
            have := HA.out
            rw [List.drop_of_length_le (by rw [← Lib.size_eq]; omega)] at this
            rw [HO.out, ← this]
            rfl
          have HF := Lib.hid (show s.extract 1 s.size = ⟨(s.data.toList.drop 1).toArray⟩ from ba_ext (by rw [extract_drop]))
          generalize s.data.toList.drop 1 = t at *
          subst hf
          go_wp2
          go_ret2
          refine ⟨?_, rfl⟩
          show _ = Ending.returned (.tuple #[.string ⟨t.toArray⟩, .bool true])
          rw [← HF.out]
          rfl
    · have t1 : ((s[0].toNat : Int) == 42) = false := by
        rw [beq_eq_false_iff_ne]
        intro h
        exact h42 (UInt8.toNat_inj.1 (by have : (42 : UInt8).toNat = 42 := rfl; omega))
      have t2 : ((s[0].toNat : Int) != 42) = true := by
        rw [bne, t1]
        rfl
      have ho : o = none := by
        rw [hst, if_neg]
        exact fun h => h42 h.1
      subst ho
      clear hst h42
      go_enter Tryz.func34, Tryz.ntmps34
      go_wp2
      go_ret2
      exact ⟨rfl, rfl⟩

theorem rpart_any (s : ByteArray) (w : World) (hs : s.size ≤ maxLen) : Calls Tryz.prog 84 #[.string s] w fun e w' => e = .returned (.bool (Pt.part s.data.toList)) ∧ w = w' := by
  have HS := Lib.hid (fun w : World => rstar_any s w hs)
  have HC := Lib.hid (fun w : World => rcomp_any s w hs)
  have hp : Pt.part s.data.toList = ((Pt.star s.data.toList).isSome || Pm.comp s.data.toList) := rfl
  rw [hp]
  clear hp
  generalize Pm.comp s.data.toList = c at HC
  cases ho : Pt.star s.data.toList with
  | none =>
    rw [ho] at HS
    clear ho
    go_enter Tryz.func84, Tryz.ntmps84
    go_wp2_with fail
    with_reducible refine (HS.out _).mono ?_
    rintro e w' ⟨rfl, rfl⟩
    go_wp2_with fail
    with_reducible refine (HC.out _).mono ?_
    rintro e w' ⟨rfl, rfl⟩
    go_wp2
    go_ret
    exact ⟨rfl, rfl⟩
  | some t =>
    rw [ho] at HS
    clear ho
    go_enter Tryz.func84, Tryz.ntmps84
    go_wp2_with fail
    with_reducible refine (HS.out _).mono ?_
    rintro e w' ⟨rfl, rfl⟩
    go_wp2
    go_ret
    exact ⟨rfl, rfl⟩

theorem hass_any (s p : ByteArray) (w : World) (hs : s.size ≤ maxLen) : Calls Tryz.prog 120 #[.string s, .string p] w fun e w' => e = .returned (.bool (Lib.hasSuffix s.data.toList p.data.toList)) ∧ w = w' := by
  unfold maxLen at hs
  refine (Tryz.strings_HasSuffix s p w (by omega)).mono ?_
  rintro e w' ⟨rfl, rfl⟩
  exact ⟨rfl, rfl⟩

/-- What Capture hands back: the capture (some text where there is none), and whether there is one. -/
def CapRes (w : World) (o : Option (List UInt8)) (e : Ending) (w' : World) : Prop :=
  ∃ l : List UInt8, e = .returned (.tuple #[.string ⟨l.toArray⟩, .bool o.isSome]) ∧ (∀ y, o = some y → l = y) ∧ w = w'
theorem rcapture_any (x c : ByteArray) (w : World) (hx : x.size ≤ maxLen) (hc : c.size ≤ maxLen) : Calls Tryz.prog 88 #[.string x, .string c] w (CapRes w (Pt.capture x.data.toList c.data.toList)) := by
  have HS := Lib.hid (fun w : World => rstar_any x w hx)
  have hcap : Pt.capture x.data.toList c.data.toList = match Pt.star x.data.toList with
    | none => if x.data.toList = c.data.toList then some [] else none
    | some s => if Lib.hasSuffix c.data.toList s = true ∧ Pm.comp (c.data.toList.take (c.data.toList.length - s.length)) = true then some (c.data.toList.take (c.data.toList.length - s.length)) else none := rfl
  generalize Pt.capture x.data.toList c.data.toList = o at hcap
  cases ho : Pt.star x.data.toList with
  | none =>
    rw [ho] at HS hcap
    simp only at hcap
    by_cases he : x.data.toList = c.data.toList
    · have h1 : o = some [] := by rw [hcap, if_pos he]
      have t1 : (x.toList == c.toList) = true := by rw [Lib.toList_data, Lib.toList_data, he]; simp
      subst h1
      clear hcap ho he hx hc
      go_enter Tryz.func88, Tryz.ntmps88
      go_wp2_with fail
      with_reducible refine (HS.out _).mono ?_
      rintro e w' ⟨rfl, rfl⟩
      go_wp2
      go_ret2
      exact ⟨[], rfl, fun y hy => by injection hy, rfl⟩
    · have h1 : o = none := by rw [hcap, if_neg he]
      have t1 : (x.toList == c.toList) = false := by rw [beq_eq_false_iff_ne, Lib.toList_data, Lib.toList_data]; exact he
      subst h1
      clear hcap ho he hx hc
      go_enter Tryz.func88, Tryz.ntmps88
      go_wp2_with fail
      with_reducible refine (HS.out _).mono ?_
      rintro e w' ⟨rfl, rfl⟩
      go_wp2
      go_ret2
      exact ⟨[], rfl, fun y hy => (by cases hy), rfl⟩
  | some s =>
    rw [ho] at HS hcap
    simp only at hcap
    have HH := Lib.hid (fun w : World => hass_any c ⟨s.toArray⟩ w hc)
    have e1 : (ByteArray.mk s.toArray).data.toList = s := rfl
    rw [e1] at HH
    clear e1
    cases hsuf : Lib.hasSuffix c.data.toList s with
    | false =>
      rw [hsuf] at HH hcap
      have h1 : o = none := by rw [hcap]; simp
      subst h1
      clear hcap ho hx hc hsuf
      go_enter Tryz.func88, Tryz.ntmps88
      go_wp2_with fail
      with_reducible refine (HS.out _).mono ?_
      rintro e w' ⟨rfl, rfl⟩
      go_wp2_with fail
      with_reducible refine (HH.out _).mono ?_
      rintro e w' ⟨rfl, rfl⟩
      go_wp2
      go_ret2
      exact ⟨[], rfl, fun y hy => (by cases hy), rfl⟩
    | true =>
      rw [hsuf] at HH hcap
      obtain ⟨u, hu⟩ := Pt.suffix_iff.1 hsuf
      have hsz : c.size = u.length + s.length := by rw [Lib.size_eq, hu, List.length_append]
      have htk : c.data.toList.take (c.data.toList.length - s.length) = u := by rw [hu, Pt.take_suffix]
      rw [htk] at hcap
      have HC := Lib.hid (fun w : World => rcomp_any ⟨u.toArray⟩ w (by rw [size_mk]; unfold maxLen at hc ⊢; omega))
      have e2 : (ByteArray.mk u.toArray).data.toList = u := rfl
      rw [e2] at HC
      have HE := Lib.hid (show c.extract 0 u.length = ⟨u.toArray⟩ from ba_ext (by rw [extract_take, hu]; simp))
      have hcz : (c.size : Int) - (s.length : Int) = (u.length : Int) := by omega
      have hule : (u.length : Int) ≤ (c.size : Int) := by omega
      have hcm : (c.size : Int) ≤ 9223372036854775807 := by unfold maxLen at hc; omega
      have hsm : (s.length : Int) ≤ (c.size : Int) := by omega
      generalize hv : Pm.comp u = v at HC hcap
      have hfin : o.isSome = v ∧ ∀ y, o = some y → u = y := by
        rw [hcap]
        cases v with
        | true => simp
        | false => simp
      have HF := Lib.hid hfin
      have HCZ := Lib.hid hcz
      clear hcap ho hx hc hsuf hu htk hv e2 hsz hfin hcz
      have hk : c.extract 0 (c.size - s.length) = ⟨u.toArray⟩ := by
        have := HCZ.out
        rw [show c.size - s.length = u.length by omega]
        exact HE.out
      go_enter Tryz.func88, Tryz.ntmps88
      go_wp2_with fail
      with_reducible refine (HS.out _).mono ?_
      rintro e w' ⟨rfl, rfl⟩
      go_wp2_with fail
      with_reducible refine (HH.out _).mono ?_
      rintro e w' ⟨rfl, rfl⟩
      go_wp2_with fail
      with_reducible refine (HC.out _).mono ?_
      rintro e w' ⟨rfl, rfl⟩
      go_wp2
      go_ret2
      refine ⟨u, ?_, HF.out.2, rfl⟩
      rw [HF.out.1]
      rfl

theorem rinside_any (x y : ByteArray) (w : World) (hx : x.size ≤ maxLen) (hy : y.size ≤ maxLen) : Calls Tryz.prog 93 #[.string x, .string y] w fun e w' => e = .returned (.bool (Pt.inside x.data.toList y.data.toList)) ∧ w = w' := by
  have HX := Lib.hid (fun w : World => rstar_any x w hx)
  have HY := Lib.hid (fun w : World => rstar_any y w hy)
  cases hsy : Pt.star y.data.toList with
  | none =>
    rw [Pt.inside_comp hsy]
    rw [hsy] at HY
    generalize Pt.star x.data.toList = o at HX
    by_cases he : x.data.toList = y.data.toList
    · have t1 : (x.toList == y.toList) = true := by rw [Lib.toList_data, Lib.toList_data, he]; simp
      rw [decide_eq_true he]
      clear hsy he hx hy
      go_enter Tryz.func93, Tryz.ntmps93
      go_wp2_with fail
      with_reducible refine (HX.out _).mono ?_
      rintro e w' ⟨rfl, rfl⟩
      go_wp2_with fail
      with_reducible refine (HY.out _).mono ?_
      rintro e w' ⟨rfl, rfl⟩
      go_wp2
      go_ret
      exact ⟨rfl, rfl⟩
    · have t1 : (x.toList == y.toList) = false := by rw [beq_eq_false_iff_ne, Lib.toList_data, Lib.toList_data]; exact he
      rw [decide_eq_false he]
      clear hsy he hx hy
      go_enter Tryz.func93, Tryz.ntmps93
      go_wp2_with fail
      with_reducible refine (HX.out _).mono ?_
      rintro e w' ⟨rfl, rfl⟩
      go_wp2_with fail
      with_reducible refine (HY.out _).mono ?_
      rintro e w' ⟨rfl, rfl⟩
      go_wp2
      go_ret
      exact ⟨rfl, rfl⟩
  | some t =>
    rw [hsy] at HY
    cases hsx : Pt.star x.data.toList with
    | some s =>
      rw [Pt.inside_stars hsx hsy]
      rw [hsx] at HX
      have hxs := (Pt.star_some.1 hsx).1
      have hsl : s.length ≤ maxLen := by
        have := congrArg List.length hxs
        rw [← Lib.size_eq] at this
        simp only [List.length_cons] at this
        omega
      have HH := Lib.hid (fun w : World => hass_any ⟨s.toArray⟩ ⟨t.toArray⟩ w (by rw [size_mk]; exact hsl))
      have e1 : (ByteArray.mk s.toArray).data.toList = s := rfl
      have e2 : (ByteArray.mk t.toArray).data.toList = t := rfl
      rw [e1, e2] at HH
      generalize Lib.hasSuffix s t = v at HH
      clear hsx hsy hxs hsl e1 e2 hx hy
      go_enter Tryz.func93, Tryz.ntmps93
      go_wp2_with fail
      with_reducible refine (HX.out _).mono ?_
      rintro e w' ⟨rfl, rfl⟩
      go_wp2_with fail
      with_reducible refine (HY.out _).mono ?_
      rintro e w' ⟨rfl, rfl⟩
      go_wp2_with fail
      with_reducible refine (HH.out _).mono ?_
      rintro e w' ⟨rfl, rfl⟩
      go_wp2
      go_ret
      exact ⟨rfl, rfl⟩
    | none =>
      rw [Pt.inside_star hsx hsy]
      rw [hsx] at HX
      have HC := Lib.hid (fun w : World => rcapture_any y x w hy hx)
      have hp : Pt.pm y.data.toList x.data.toList = (Pt.capture y.data.toList x.data.toList).isSome := rfl
      rw [hp]
      generalize Pt.capture y.data.toList x.data.toList = o at HC
      clear hsx hsy hp hx hy
      go_enter Tryz.func93, Tryz.ntmps93
      go_wp2_with fail
      with_reducible refine (HX.out _).mono ?_
      rintro e w' ⟨rfl, rfl⟩
      go_wp2_with fail
      with_reducible refine (HY.out _).mono ?_
      rintro e w' ⟨rfl, rfl⟩
      go_wp2_with fail
      with_reducible refine (HC.out _).mono ?_
      rintro e w' ⟨l, rfl, _, rfl⟩
      go_wp2
      go_ret
      exact ⟨rfl, rfl⟩
end Go.Proofs.YtembmegllpkmfaaGreatDoor

namespace Go.Proofs.YtembmegllpkmfaaGreatDoor
open Go.RowKit

/-- The value of a pattern. -/
abbrev patV (A : Option Addr) (n c : Nat) (b : Bool) : Value := .agg #[.slice A n c, .bool b]
/-- A pattern in memory: its parts are these strings. -/
structure PatR (w : World) (A : Option Addr) (xs : List ByteArray) (c : Nat) (b : Bool) (p : Pt.Pat) : Prop where
  rd : RdS w w.heap.size A xs
  parts : bs xs = p.parts
  rest : b = p.rest
  le : xs.length ≤ c
  cm : c ≤ maxLen
  nil : A = none → c = 0
  sz : ∀ x ∈ xs, x.size ≤ maxLen
theorem PatR.keep {w w' : World} {A : Option Addr} {xs : List ByteArray} {c : Nat} {b : Bool} {p : Pt.Pat} (h : PatR w A xs c b p) (hb : Below w.heap.size w w') : PatR w' A xs c b p :=
  ⟨(h.rd.keep hb).more hb.size, h.parts, h.rest, h.le, h.cm, h.nil, h.sz⟩
theorem PatR.len {w : World} {A : Option Addr} {xs : List ByteArray} {c : Nat} {b : Bool} {p : Pt.Pat} (h : PatR w A xs c b p) : p.parts.length = xs.length := by rw [← h.parts, bs_length]
def GivesN (w : World) (n : Nat) (e : Ending) (w' : World) : Prop := e = .returned (.int .i64 (n : Int)) ∧ Below w.heap.size w w'

theorem tail_all (xs : List ByteArray) : ((bs xs).drop 1).all Pt.part = ((bs xs).tail).all Pt.part := by simp
theorem part_drop {xs : List ByteArray} {k : Nat} (h : k < xs.length) : ((bs xs).drop k).all Pt.part = (Pt.part xs[k].data.toList && ((bs xs).drop (k + 1)).all Pt.part) := by
  rw [List.drop_eq_getElem_cons (by rw [bs_length]; exact h), List.all_cons, bs_get xs k h]
theorem bs_head {xs : List ByteArray} (h : 0 < xs.length) : (bs xs).headD [] = xs[0].data.toList := by
  cases xs with
  | nil => simp at h
  | cons x r => rfl

theorem rcheck_any (A : Option Addr) (xs : List ByteArray) (c : Nat) (b : Bool) (p : Pt.Pat) (w : World) (hp : PatR w A xs c b p) : Calls Tryz.prog 32 #[patV A xs.length c b] w (GivesN w (Pt.check p)) := by
  have hform : Pt.check p = if Pt.form p then (if p.parts.length ≤ 12 then 0 else 31) else 30 := rfl
  have hf : Pt.form p = ((decide (2 ≤ p.parts.length) || (decide (p.parts.length = 1) && p.rest)) && Pm.comp (p.parts.headD []) && p.parts.tail.all Pt.part) := rfl
  rw [hp.len, ← hp.rest, ← hp.parts] at hf
  rw [hp.len] at hform
  generalize Pt.check p = ck at hform
  generalize Pt.form p = fm at hf hform
  have hcm := hp.cm
  have hle := hp.le
  unfold maxLen at hcm
  by_cases h0 : xs.length = 0
  · have hfm : fm = false := by rw [hf, h0]; simp
    subst hfm
    have hck : ck = 30 := by rw [hform]; rfl
    subst hck
    rw [h0]
    clear hf hform hp h0 hle
    go_enter Tryz.func32, Tryz.ntmps32
    go_wp2
    go_ret
    exact ⟨rfl, (Below.refl _ _).alloc (Nat.le_refl _) _⟩
  · by_cases h1 : xs.length = 1 ∧ b = false
    · obtain ⟨h1, rfl⟩ := h1
      have hfm : fm = false := by rw [hf, h1]; simp
      subst hfm
      have hck : ck = 30 := by rw [hform]; rfl
      subst hck
      rw [h1]
      clear hf hform hp h0 h1 hle
      go_enter Tryz.func32, Tryz.ntmps32
      go_wp2
      go_ret
      exact ⟨rfl, (Below.refl _ _).alloc (Nat.le_refl _) _⟩
    · obtain ⟨g, o, hA, hg, hcell⟩ := hp.rd.cells (by omega)
      subst hA
      have hc0 := hcell 0 (by omega)
      rw [Nat.add_zero] at hc0
      have hsz0 := hp.sz _ (List.getElem_mem (show 0 < xs.length by omega))
      have HC0 := Lib.hid (fun w : World => rcomp_any xs[0] w hsz0)
      rw [bs_head (by omega)] at hf
      have hlen2 : (decide (2 ≤ xs.length) || (decide (xs.length = 1) && b)) = true := by
        by_cases h2 : 2 ≤ xs.length
        · rw [decide_eq_true h2]; rfl
        · have h3 : xs.length = 1 := by omega
          have h4 : b = true := by
            cases b with
            | true => rfl
            | false => exact absurd ⟨h3, rfl⟩ h1
          rw [h3, h4]
          rfl
      rw [hlen2, Bool.true_and] at hf
      have HCE := Lib.hid hcell
      have HSZ := Lib.hid hp.sz
      obtain ⟨n, hn⟩ : ∃ n, n = xs.length := ⟨_, rfl⟩
      rw [← hn] at h0 h1 hform hle ⊢
      have HN := Lib.hid hn
      have hn1 : ((n : Int) == 0) = false := by rw [beq_eq_false_iff_ne]; omega
      have hlt1 : (1 : Int) ≤ (n : Int) := by omega
      have hnc : (n : Int) ≤ (c : Int) := by omega
      clear hcell hp hsz0 hlen2 hn
      generalize xs[0] = x0 at *
      cases hcx : Pm.comp x0.data.toList with
      | false =>
        rw [hcx] at hf HC0
        have hfm : fm = false := by rw [hf]; rfl
        subst hfm
        have hck : ck = 30 := by rw [hform]; rfl
        subst hck
        clear hf hform hcx
        by_cases hn2 : n = 1
        · subst hn2
          have hb : b = true := by
            cases b with
            | true => rfl
            | false => exact absurd ⟨rfl, rfl⟩ h1
          subst hb
          clear h1
          go_enter Tryz.func32, Tryz.ntmps32
          go_wp2_with fail
          with_reducible refine (HC0.out _).mono ?_
          rintro e w' ⟨rfl, rfl⟩
          go_wp2
          go_ret
          exact ⟨rfl, (Below.refl _ _).alloc (Nat.le_refl _) _⟩
        · have hn3 : ((n : Int) == 1) = false := by rw [beq_eq_false_iff_ne]; omega
          clear h1
          go_enter Tryz.func32, Tryz.ntmps32
          go_wp2_with fail
          with_reducible refine (HC0.out _).mono ?_
          rintro e w' ⟨rfl, rfl⟩
          go_wp2
          go_ret
          exact ⟨rfl, (Below.refl _ _).alloc (Nat.le_refl _) _⟩
      | true =>
        rw [hcx, Bool.true_and, ← tail_all] at hf
        rw [hcx] at HC0
        have HF := Lib.hid hf
        have HFO := Lib.hid hform
        clear hcx hf hform
        have halloc : Below w.heap.size w (w.alloc (.cells #[.slice (some ⟨g, o, none⟩) n c, .bool b] 24)) := (Below.refl _ _).alloc (Nat.le_refl _) _
        by_cases hn2 : n = 1
        · subst hn2
          have hb : b = true := by
            cases b with
            | true => rfl
            | false => exact absurd ⟨rfl, rfl⟩ h1
          subst hb
          have hck : ck = 0 := by
            have h3 : ((bs xs).drop 1).all Pt.part = true := by
              rw [List.drop_of_length_le (by rw [bs_length, ← HN.out]; omega)]
              rfl
            rw [HFO.out, HF.out, h3]
            rfl
          subst hck
          clear h1
          by_cases hc1 : c = 1
          · subst hc1
            go_enter Tryz.func32, Tryz.ntmps32
            go_wp2_with fail
            with_reducible refine (HC0.out _).mono ?_
            rintro e w' ⟨rfl, rfl⟩
            go_wp2
            go_loop [32] (fun i => i = .int .i64 (0 : Nat)) (fun _ => 0)
            case atStart => rfl
            case round =>
              obtain rfl := hrel
              go_wp2
              go_ret
              exact ⟨rfl, halloc⟩
          · go_enter Tryz.func32, Tryz.ntmps32
            go_wp2_with fail
            with_reducible refine (HC0.out _).mono ?_
            rintro e w' ⟨rfl, rfl⟩
            go_wp2
            go_loop [32] (fun i => i = .int .i64 (0 : Nat)) (fun _ => 0)
            case atStart => rfl
            case round =>
              obtain rfl := hrel
              go_wp2
              go_ret
              exact ⟨rfl, halloc⟩
        · obtain ⟨m, rfl⟩ : ∃ m, n = m + 1 := ⟨n - 1, by omega⟩
          have hm1 : 1 ≤ m := by omega
          have hn3 : (((m + 1 : Nat) : Int) == 1) = false := by rw [beq_eq_false_iff_ne]; omega
          have hn4 : (((m : Int) + 1) == 1) = false := by rw [beq_eq_false_iff_ne]; omega
          have hn5 : (((m : Int) + 1) == 0) = false := by rw [beq_eq_false_iff_ne]; omega
          have hcn : ¬ c = 1 := by omega
          have hmc : (m : Int) + 1 ≤ (c : Int) := by omega
          have hcx9 : (c : Int) ≤ 9223372036854775807 := by omega
          have HALL := Lib.hid halloc
          have HH1 := Lib.hid h1
          clear h1 hn2 h0 halloc hle hn1 hlt1 hnc hcm
          go_enter Tryz.func32, Tryz.ntmps32
          go_wp2_with fail
          with_reducible refine (HC0.out _).mono ?_
          rintro e w' ⟨rfl, rfl⟩
          go_wp2
          go_loop [32] (fun i => ∃ k : Nat, k ≤ m ∧ i = .int .i64 k ∧ ((bs xs).drop (k + 1)).all Pt.part = ((bs xs).drop 1).all Pt.part) (fun i => m - (intOf i).toNat)
          case atStart => exact ⟨0, by omega, rfl, rfl⟩
          case round =>
            obtain ⟨k, hkm, rfl, hall⟩ := hrel
            have HA := Lib.hid hall
            clear hall
            by_cases hlt : k < m
            · have hlx : k + 1 < xs.length := by rw [← HN.out]; omega
              have hce := HCE.out (k + 1) hlx
              rw [show o + (k + 1) = o + 1 + k by omega] at hce
              have hsz := HSZ.out _ (List.getElem_mem hlx)
              have HD := Lib.hid (part_drop hlx)
              generalize xs[k + 1] = x at hce hsz HD
              have HP := Lib.hid (fun w : World => rpart_any x w hsz)
              clear hsz
              cases hv : Pt.part x.data.toList with
              | true =>
                rw [hv] at HP HD
                go_wp2_with fail
                with_reducible refine (HP.out _).mono ?_
                rintro e w' ⟨rfl, rfl⟩
                go_wp2
                go_round
                case rel => exact ⟨k + 1, by omega, by go_num, by have := HD.out; rw [HA.out] at this; simpa using this.symm⟩
                case measure => simp [intOf]; omega
              | false =>
                rw [hv] at HP HD
                have hck : ck = 30 := by
                  have := HD.out
                  rw [HA.out, Bool.false_and] at this
                  rw [HFO.out, HF.out, this]
                  rfl
                subst hck
                go_wp2_with fail
                with_reducible refine (HP.out _).mono ?_
                rintro e w' ⟨rfl, rfl⟩
                go_wp2
                go_ret
                exact ⟨rfl, HALL.out⟩
            · have hck : ck = if m + 1 ≤ 12 then 0 else 31 := by
                have := HA.out
                rw [List.drop_of_length_le (by rw [bs_length, ← HN.out]; omega)] at this
                rw [HFO.out, HF.out, ← this]
                rfl
              by_cases h12 : m + 1 ≤ 12
              · rw [if_pos h12] at hck
                subst hck
                have h12i : (m : Int) + 1 ≤ 12 := by omega
                go_wp2
                go_ret
                exact ⟨rfl, HALL.out⟩
              · rw [if_neg h12] at hck
                subst hck
                have h12i : ¬ (m : Int) + 1 ≤ 12 := by omega
                have h12j : (12 : Int) < (m : Int) + 1 := by omega
                go_wp2
                go_ret
                exact ⟨rfl, HALL.out⟩
end Go.Proofs.YtembmegllpkmfaaGreatDoor

namespace Go.Proofs.YtembmegllpkmfaaGreatDoor
open Go.RowKit

theorem below_drewN {B : Nat} {a w : World} (h : Below B a w) (n : Nat) : Below B a (w.drewN n) := ⟨h.os, h.tape, h.output, h.size, h.block⟩
theorem dots4 (l : List UInt8) : (ByteArray.mk #[47, 47]) ++ (ByteArray.mk l.toArray) ++ (ByteArray.mk #[47, 46, 46, 46]) = ⟨(47 :: 47 :: (l ++ [47, 46, 46, 46])).toArray⟩ := by
  apply ba_ext
  simp [ByteArray.data_append]
theorem rtext_any (A : Option Addr) (xs : List ByteArray) (c : Nat) (b : Bool) (p : Pt.Pat) (w : World) (hp : PatR w A xs c b p) (hlen : (Lib.join p.parts [47]).length ≤ 140737488350000) (hN : xs.length ≤ 140737488355328) :
    Calls Tryz.prog 94 #[patV A xs.length c b] w (GivesS w (Pt.text p)) := by
  have halloc : Below w.heap.size w (w.alloc (.cells #[.slice A xs.length c, .bool b] 24)) := (Below.refl _ _).alloc (Nat.le_refl _) _
  have hpa := hp.keep halloc
  have HJ := Lib.hid (sjoin_any A xs c ⟨#[47]⟩ (w.alloc (.cells #[.slice A xs.length c, .bool b] 24)) hpa.rd hp.le rfl (by rw [hp.parts]; omega) hN)
  have ht : Pt.text p = 47 :: 47 :: (Lib.join p.parts [47] ++ (if p.rest then [47, 46, 46, 46] else [])) := rfl
  rw [ht, ← hp.rest]
  rw [hp.parts] at HJ
  generalize Lib.join p.parts [47] = l at HJ hlen
  generalize xs.length = n at *
  have HAL := Lib.hid halloc
  clear hp hpa ht halloc
  cases b with
  | false =>
    simp only [Bool.false_eq_true, if_false, List.append_nil]
    go_enter Tryz.func94, Tryz.ntmps94
    go_wp2_with fail
    with_reducible refine HJ.out.mono ?_
    rintro e w1 ⟨rfl, hb⟩
    have hc0 := hb.cell (p := ⟨w.heap.size, 1, none⟩) (by simp)
    have hc1 : w1.cell? ⟨w.heap.size, 1, none⟩ = some (.bool false) := by
      rw [hc0, cell_of_row _ _ _ _ _ (0, 0) (heap_alloc_new w _)]
      rfl
    have HB := Lib.hid hb
    clear hb hc0
    go_wp2
    go_ret
    exact ⟨ret_str (slash2 l), HAL.out.trans (HB.out.mono (by simp))⟩
  | true =>
    simp only [if_true]
    go_enter Tryz.func94, Tryz.ntmps94
    go_wp2_with fail
    with_reducible refine HJ.out.mono ?_
    rintro e w1 ⟨rfl, hb⟩
    have hc0 := hb.cell (p := ⟨w.heap.size, 1, none⟩) (by simp)
    have hc1 : w1.cell? ⟨w.heap.size, 1, none⟩ = some (.bool true) := by
      rw [hc0, cell_of_row _ _ _ _ _ (0, 0) (heap_alloc_new w _)]
      rfl
    have HB := Lib.hid hb
    clear hb hc0
    go_wp2
    go_ret
    exact ⟨ret_str (dots4 l), HAL.out.trans (HB.out.mono (by simp))⟩

/-- How much a row of strings holds. -/
def lens (l : List (List UInt8)) : Nat := (l.map List.length).sum
def smallB (l : List (List UInt8)) : Bool := decide (l.length ≤ 20) && decide (lens l ≤ 400)
theorem lens_take {l : List (List UInt8)} {k : Nat} (h : k < l.length) : lens (l.take (k + 1)) = lens (l.take k) + l[k].length := by
  unfold lens
  rw [List.take_succ_eq_append_getElem h, List.map_append, List.sum_append]
  simp
theorem lens_le {l : List (List UInt8)} {b : Nat} (h : ∀ x ∈ l, x.length ≤ b) : lens l ≤ l.length * b := by
  unfold lens
  induction l with
  | nil => simp
  | cons x r ih =>
    have h1 := h x (by simp)
    have h2 := ih fun y hy => h y (by simp [hy])
    simp only [List.map_cons, List.sum_cons, List.length_cons, Nat.succ_mul]
    omega
end Go.Proofs.YtembmegllpkmfaaGreatDoor

namespace Go.Proofs.YtembmegllpkmfaaGreatDoor
open Go.RowKit

/-- A bool, and new memory at most. -/
def GivesBB (w : World) (v : Bool) (e : Ending) (w' : World) : Prop := e = .returned (.bool v) ∧ Below w.heap.size w w'
def GivesNB (w : World) (n : Nat) (b : Bool) (e : Ending) (w' : World) : Prop := e = .returned (.tuple #[.int .i64 (n : Int), .bool b]) ∧ Below w.heap.size w w'
theorem stars_take {l : List (List UInt8)} {k : Nat} (h : k < l.length) : Pt.stars (l.take (k + 1)) = Pt.stars (l.take k) + if (Pt.star l[k]).isSome then 1 else 0 := by
  unfold Pt.stars
  rw [List.take_succ_eq_append_getElem h, List.filter_append, List.length_append]
  show _ = (List.filter Pt.isStar (List.take k l)).length + if Pt.isStar l[k] = true then 1 else 0
  by_cases hs : Pt.isStar l[k] = true
  · rw [List.filter_cons_of_pos hs, if_pos hs]; rfl
  · rw [List.filter_cons_of_neg hs, if_neg hs]; rfl
theorem stars_le (l : List (List UInt8)) : Pt.stars l ≤ l.length := List.length_filter_le _ _
theorem rkinds_any (A : Option Addr) (xs : List ByteArray) (c : Nat) (b : Bool) (p : Pt.Pat) (w : World) (hp : PatR w A xs c b p) : Calls Tryz.prog 125 #[patV A xs.length c b] w (GivesNB w (Pt.stars p.parts) p.rest) := by
  have halloc : Below w.heap.size w (w.alloc (.cells #[.slice A xs.length c, .bool b] 24)) := (Below.refl _ _).alloc (Nat.le_refl _) _
  have hcm := hp.cm
  have hle := hp.le
  unfold maxLen at hcm
  rw [← hp.parts, ← hp.rest]
  have HCE := Lib.hid (fun h => hp.rd.cells h)
  have HSZ := Lib.hid hp.sz
  have HST := Lib.hid (fun k => stars_le ((bs xs).take k))
  obtain ⟨n, hn⟩ : ∃ n, n = xs.length := ⟨_, rfl⟩
  rw [← hn] at hle halloc ⊢
  have HN := Lib.hid hn
  have hnn : (n : Int) ≤ 9223372036854775807 := by omega
  have HAL := Lib.hid halloc
  have hcb : (w.alloc (.cells #[.slice A n c, .bool b] 24)).cell? ⟨w.heap.size, 1, none⟩ = some (.bool b) := by
    rw [cell_of_row _ _ _ _ _ (0, 0) (heap_alloc_new w _)]
    rfl
  clear hp hn halloc
  go_enter Tryz.func125, Tryz.ntmps125
  go_wp2
  go_loop [4, 12] (fun t i => ∃ k : Nat, k ≤ n ∧ i = .int .i64 k ∧ t = .int .i64 (Pt.stars ((bs xs).take k) : Nat)) (fun _ i => n - (intOf i).toNat)
  case atStart => exact ⟨0, by omega, rfl, rfl⟩
  case round =>
    obtain ⟨k, hkn, rfl, rfl⟩ := hrel
    have hst := HST.out k
    rw [List.length_take, bs_length, ← HN.out] at hst
    have hst2 : Pt.stars ((bs xs).take k) ≤ k := by omega
    by_cases hlt : k < n
    · have hlx : k < xs.length := by rw [← HN.out]; exact hlt
      obtain ⟨g, o, rfl, hg, hcell⟩ := HCE.out (by omega)
      have hce := hcell k hlx
      have hsz := HSZ.out _ (List.getElem_mem hlx)
      have HT := Lib.hid (stars_take (l := bs xs) (k := k) (by rw [bs_length]; exact hlx))
      rw [bs_get xs k hlx] at HT
      clear hcell hst
      generalize xs[k] = x at hce hsz HT
      have HS := Lib.hid (fun w : World => rstar_any x w hsz)
      generalize Pt.stars ((bs xs).take k) = t at *
      have ht9 : (t : Int) ≤ (k : Int) := by omega
      have hk9 : (k : Int) + 1 ≤ 9223372036854775807 := by omega
      cases ho : Pt.star x.data.toList with
      | none =>
        rw [ho] at HS HT
        go_wp2_with fail
        with_reducible refine (HS.out _).mono ?_
        rintro e w' ⟨rfl, rfl⟩
        go_wp2
        go_round
        case rel => exact ⟨k + 1, by omega, by go_num, by rw [HT.out]; rfl⟩
        case measure => simp [intOf]; omega
      | some s =>
        rw [ho] at HS HT
        go_wp2_with fail
        with_reducible refine (HS.out _).mono ?_
        rintro e w' ⟨rfl, rfl⟩
        go_wp2
        go_round
        case rel => exact ⟨k + 1, by omega, by go_num, by rw [HT.out]; simp⟩
        case measure => simp [intOf]; omega
    · obtain rfl : k = n := by omega
      have hv : (bs xs).take k = bs xs := List.take_of_length_le (by rw [bs_length, ← HN.out]; omega)
      rw [hv]
      clear hv hst hst2
      generalize Pt.stars (bs xs) = t at *
      go_wp2
      go_quiet (fail)
      go_wp2
      go_ret2
      exact ⟨rfl, below_drewN HAL.out _⟩
theorem rwild_any (A : Option Addr) (xs : List ByteArray) (c : Nat) (b : Bool) (p : Pt.Pat) (w : World) (hp : PatR w A xs c b p) (hN : xs.length ≤ 1000000) : Calls Tryz.prog 130 #[patV A xs.length c b] w (GivesN w (Pt.wilds p)) := by
  have halloc : Below w.heap.size w (w.alloc (.cells #[.slice A xs.length c, .bool b] 24)) := (Below.refl _ _).alloc (Nat.le_refl _) _
  have HK := Lib.hid (rkinds_any A xs c b p (w.alloc (.cells #[.slice A xs.length c, .bool b] 24)) (hp.keep halloc))
  have hst := stars_le p.parts
  rw [hp.len] at hst
  have hw : Pt.wilds p = Pt.stars p.parts + if p.rest then 1 else 0 := rfl
  have hsl : Pt.stars p.parts ≤ 1000000 := by omega
  rw [hw]
  generalize Pt.stars p.parts = t at *
  generalize p.rest = r at *
  generalize xs.length = n at *
  have HAL := Lib.hid halloc
  clear hp hw halloc
  cases r with
  | false =>
    simp only [Bool.false_eq_true, if_false, Nat.add_zero]
    go_enter Tryz.func130, Tryz.ntmps130
    go_wp2_with fail
    with_reducible refine HK.out.mono ?_
    rintro e w1 ⟨rfl, hb⟩
    have HB := Lib.hid hb
    clear hb
    go_wp2
    go_ret
    exact ⟨rfl, HAL.out.trans (HB.out.mono (by simp))⟩
  | true =>
    simp only [if_true]
    have ht9 : (t : Int) + 1 ≤ 9223372036854775807 := by omega
    go_enter Tryz.func130, Tryz.ntmps130
    go_wp2_with fail
    with_reducible refine HK.out.mono ?_
    rintro e w1 ⟨rfl, hb⟩
    have HB := Lib.hid hb
    clear hb
    go_wp2
    go_ret
    exact ⟨rfl, HAL.out.trans (HB.out.mono (by simp))⟩
end Go.Proofs.YtembmegllpkmfaaGreatDoor
