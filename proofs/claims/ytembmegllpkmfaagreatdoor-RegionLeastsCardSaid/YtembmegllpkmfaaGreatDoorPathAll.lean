/- The contracts of the small functions of layer 2: nameByte, Component, the reference's Component, long. The contracts of depth, Valid, the reference's Component, cmp.Compare at bytes, order. The contracts of order, Compare, Under, long, awake. The contracts of Compare, Under, long, awake. What the laws' frames share: the library's variable at the first world; strings that are equal. Words for slices of strings in memory; the contracts of strings.Join, the reference's Join, path.Join, same. The contracts of what splits: strings.Split at a separator, the reference's Parts and Path, path.Split. The contracts of the reference's Path, and of path.Split, Parent, Name, Extension. What the frames of the cards share: the wrap of a row that lists variables, with the world's shape. -/
import Derived.Test.YtembmegllpkmfaaGreatDoorMathAll
import Derived.Test.YtembmegllpkmfaaGreatDoorShelf
import Derived.Test.YtembmegllpkmfaaGreatDoorRows
import Derived.WalkKit
import Derived.Lib.Hide
import Derived.WalkLawsBesides
import Derived.WalkSpells
import Derived.Below
import Derived.Deep.QuietTactic
import Derived.BigQuiet
import Derived.Deep.Light
import Derived.LoopTactic
import Derived.Lib.Small
import Derived.HandedShaped
import Derived.Shelf.Vars
import Derived.Handed
import Derived.LaidMore
import Derived.Lay
import Derived.SevenTiedAt
import Derived.Stop.Joined
namespace Go.Proofs.YtembmegllpkmfaaGreatDoor
open Go.RowKit

theorem ret_int {k : IntKind} {a b : Int} (h : a = b) : Ending.returned (.int k a) = .returned (.int k b) := by rw [h]
theorem ret_bool {a b : Bool} (h : a = b) : Ending.returned (.bool a) = .returned (.bool b) := by rw [h]

theorem nameByte_any (c : UInt8) (w : World) : Calls Tryz.prog 114 #[.int .u8 (c.toNat : Int)] w fun e w' => e = .returned (.bool (Pm.nb c)) ∧ w = w' := by
  have HB := Lib.hid (Pm.nb_nat c)
  have hc := c.toNat_lt
  generalize Pm.nb c = b at HB
  generalize c.toNat = n at HB hc
  go_enter Tryz.func114, Tryz.ntmps114
  go_wp2
  all_goals
    go_ret
    refine ⟨ret_bool ?_, rfl⟩
    rw [HB.out]
    go_light
    try simp only [beq_iff_eq, beq_eq_false_iff_ne] at *
    first | (rw [eq_comm, decide_eq_true_eq]; omega) | (rw [eq_comm, decide_eq_false_iff_not]; omega)

/-- What Component asks of the bytes from the place k on. -/
theorem comp_eq (s : ByteArray) : Pm.comp s.data.toList = (!s.toList.isEmpty && (s.data.toList.headD 0 != 46) && s.data.toList.all Pm.nb) := by
  rw [Lib.toList_data]
  cases s.data.toList with
  | nil => rfl
  | cons c r => simp [Pm.comp]
theorem all_drop {l : List UInt8} {k : Nat} (h : k < l.length) : (l.drop k).all Pm.nb = (Pm.nb l[k] && (l.drop (k + 1)).all Pm.nb) := by
  rw [List.drop_eq_getElem_cons h, List.all_cons]
theorem list_get (s : ByteArray) (k : Nat) (h : k < s.size) : s.data.toList[k]'(by rw [← Lib.size_eq]; exact h) = s[k] := rfl

theorem head_get : ∀ (l : List UInt8) (h : 0 < l.length), l.headD 0 = l[0]
  | _ :: _, _ => rfl
theorem comp_any (s : ByteArray) (w : World) (hs : s.size ≤ maxLen) : Calls Tryz.prog 73 #[.string s] w fun e w' => e = .returned (.bool (Pm.comp s.data.toList)) ∧ w = w' := by
  unfold maxLen at hs
  have HC := Lib.hid (comp_eq s)
  generalize Pm.comp s.data.toList = b at HC
  by_cases h0 : s.toList = []
  · have h0' : (!s.toList.isEmpty) = false := by rw [h0]; rfl
    have hb : b = false := by rw [HC.out, h0']; rfl
    subst hb
    go_enter Tryz.func73, Tryz.ntmps73
    go_wp2
    go_ret
    exact ⟨rfl, rfl⟩
  · have h0' : (!s.toList.isEmpty) = true := by
      cases h : s.toList with
      | nil => exact absurd h h0
      | cons _ _ => rfl
    have hp : 0 < s.size := by
      rw [Lib.size_eq, ← Lib.toList_data]
      exact List.length_pos_iff.2 h0
    have hh : s.data.toList.headD 0 = s[0] := by
      rw [← list_get s 0 hp]
      exact head_get _ _
    rw [h0', hh] at HC
    have h0'' : s.toList.isEmpty = false := by simpa using h0'
    by_cases h46 : s[0] = 46
    · have hb : b = false := by rw [HC.out, h46]; rfl
      subst hb
      have t1 : ((s[0].toNat : Int) == 46) = true := by rw [h46]; rfl
      have H46 := Lib.hid h46
      clear h46
      go_enter Tryz.func73, Tryz.ntmps73
      go_wp2
      go_ret
      exact ⟨rfl, rfl⟩
    · have hb : b = s.data.toList.all Pm.nb := by
        rw [HC.out]
        have : (s[0] != 46) = true := by simpa using h46
        rw [this]; rfl
      have t1 : ((s[0].toNat : Int) == 46) = false := by
        rw [beq_eq_false_iff_ne]
        intro h
        exact h46 (UInt8.toNat_inj.1 (by have : (46 : UInt8).toNat = 46 := rfl; omega))
      clear HC
      have HB := Lib.hid hb
      clear hb h46
      go_enter Tryz.func73, Tryz.ntmps73
      go_wp2
      go_loop [13] (fun i => ∃ k : Nat, k ≤ s.size ∧ i = .int .i64 k ∧ (s.data.toList.drop k).all Pm.nb = b) (fun i => s.size - (intOf i).toNat)
      case atStart => exact ⟨0, Nat.zero_le _, rfl, HB.out.symm⟩
      case round =>
        obtain ⟨k, hk, rfl, hall⟩ := hrel
        have HA := Lib.hid hall
        clear hall
        by_cases hlt : k < s.size
        · have hl : k < s.data.toList.length := by rw [← Lib.size_eq]; exact hlt
          have hd := all_drop hl
          rw [list_get s k hlt] at hd
          have HD := Lib.hid hd
          clear hd
          cases hn : Pm.nb s[k] with
          | true =>
            go_wp2_with fail
            with_reducible refine (nameByte_any _ _).mono ?_
            rintro e w' ⟨rfl, rfl⟩
            go_wp2
            go_round
            case rel => exact ⟨k + 1, by omega, by go_num, by have := HD.out; rw [hn, HA.out] at this; simpa using this.symm⟩
            case measure => simp [intOf]; omega
          | false =>
            have hb : b = false := by have := HD.out; rw [hn, HA.out] at this; simpa using this
            subst hb
            go_wp2_with fail
            with_reducible refine (nameByte_any _ _).mono ?_
            rintro e w' ⟨rfl, rfl⟩
            go_wp2
            go_ret
            exact ⟨rfl, rfl⟩
        · have hb : b = true := by
            rw [← HA.out, List.drop_of_length_le (by rw [← Lib.size_eq]; omega)]
            rfl
          subst hb
          go_wp2
          go_ret
          exact ⟨rfl, rfl⟩
end Go.Proofs.YtembmegllpkmfaaGreatDoor

namespace Go.Proofs.YtembmegllpkmfaaGreatDoor
open Go.RowKit

/-- The world as it was, but for so many draws. -/
def Drew (w w' : World) : Prop := ∃ n, w' = w.drewN n
theorem Drew.refl (w : World) : Drew w w := ⟨0, rfl⟩
theorem Drew.trans {a b c : World} (h : Drew a b) (k : Drew b c) : Drew a c := by
  obtain ⟨n, rfl⟩ := h
  obtain ⟨m, rfl⟩ := k
  exact ⟨n + m, World.drewN_drewN _ _ _⟩
theorem Drew.drew {a b : World} (h : Drew a b) : Drew a b.drew := h.trans ⟨1, rfl⟩
theorem Drew.below {w w' : World} (B : Nat) (h : Drew w w') : Below B w w' := by
  obtain ⟨n, rfl⟩ := h
  exact ⟨rfl, rfl, rfl, Nat.le_refl _, fun _ _ => rfl⟩
/-- internal/bytealg.MaxLen holds some number. -/
def MaxL (w : World) : Prop := ∃ m, w.cell? ⟨0, 0, none⟩ = some (.int .i64 m)
theorem MaxL.keep {w w' : World} {B : Nat} (h : MaxL w) (hb : Below B w w') (hB : 0 < B) : MaxL w' := by
  obtain ⟨m, hm⟩ := h
  exact ⟨m, (hb.cell (p := ⟨0, 0, none⟩) hB).trans hm⟩
theorem MaxL.drew {w w' : World} (h : MaxL w) (hb : Drew w w') : MaxL w' := h.keep (B := 0 + 1) (hb.below _) (by omega)
theorem MaxL.size {w : World} (h : MaxL w) : 0 < w.heap.size := by
  obtain ⟨m, hm⟩ := h
  rcases Nat.lt_or_ge 0 w.heap.size with h1 | h1
  · exact h1
  · exfalso
    simp [World.cell?, Array.getElem?_eq_none h1] at hm

theorem idx_any (s : ByteArray) (c : UInt8) (w : World) (hs : s.data.toList = Pm.letters) :
    Calls Tryz.prog 86 #[.string s, .int .u8 (c.toNat : Int)] w fun e w' => e = .returned (.int .i64 (Lib.indexByte Pm.letters c)) ∧ w = w' := by
  refine (Tryz.strings_IndexByte s (c.toNat : Int) w).mono ?_
  rintro e w' ⟨rfl, rfl⟩
  refine ⟨?_, rfl⟩
  rw [hs]
  have : ((c.toNat : Int)).toNat.toUInt8 = c := by
    rw [Int.toNat_natCast]
    exact UInt8.ofNat_toNat
  rw [this]

theorem rcomp_any (s : ByteArray) (w : World) (hs : s.size ≤ maxLen) : Calls Tryz.prog 83 #[.string s] w fun e w' => e = .returned (.bool (Pm.comp s.data.toList)) ∧ w = w' := by
  unfold maxLen at hs
  have HC := Lib.hid (comp_eq s)
  generalize Pm.comp s.data.toList = b at HC
  by_cases h0 : s.toList = []
  · have h0' : (!s.toList.isEmpty) = false := by rw [h0]; rfl
    have hb : b = false := by rw [HC.out, h0']; rfl
    subst hb
    go_enter Tryz.func83, Tryz.ntmps83
    go_wp2
    go_ret
    exact ⟨rfl, rfl⟩
  · have h0' : (!s.toList.isEmpty) = true := by
      cases h : s.toList with
      | nil => exact absurd h h0
      | cons _ _ => rfl
    have hp : 0 < s.size := by
      rw [Lib.size_eq, ← Lib.toList_data]
      exact List.length_pos_iff.2 h0
    have hh : s.data.toList.headD 0 = s[0] := by
      rw [← list_get s 0 hp]
      exact head_get _ _
    rw [h0', hh] at HC
    have h0'' : s.toList.isEmpty = false := by simpa using h0'
    by_cases h46 : s[0] = 46
    · have hb : b = false := by rw [HC.out, h46]; rfl
      subst hb
      have t1 : ((s[0].toNat : Int) == 46) = true := by rw [h46]; rfl
      have H46 := Lib.hid h46
      clear h46
      go_enter Tryz.func83, Tryz.ntmps83
      go_wp2
      go_ret
      exact ⟨rfl, rfl⟩
    · have hb : b = s.data.toList.all Pm.nb := by
        rw [HC.out]
        have : (s[0] != 46) = true := by simpa using h46
        rw [this]; rfl
      have t1 : ((s[0].toNat : Int) == 46) = false := by
        rw [beq_eq_false_iff_ne]
        intro h
        exact h46 (UInt8.toNat_inj.1 (by have : (46 : UInt8).toNat = 46 := rfl; omega))
      clear HC
      have HB := Lib.hid hb
      clear hb h46
      go_enter Tryz.func83, Tryz.ntmps83
      go_wp2
      go_loop [3] (fun i => ∃ k : Nat, k ≤ s.size ∧ i = .int .i64 k ∧ (s.data.toList.drop k).all Pm.nb = b) (fun i => s.size - (intOf i).toNat)
      case atStart => exact ⟨0, Nat.zero_le _, rfl, HB.out.symm⟩
      case round =>
        obtain ⟨k, hk, rfl, hall⟩ := hrel
        have HA := Lib.hid hall
        clear hall
        by_cases hlt : k < s.size
        · have hl : k < s.data.toList.length := by rw [← Lib.size_eq]; exact hlt
          have hd := all_drop hl
          rw [list_get s k hlt] at hd
          have HD := Lib.hid hd
          clear hd
          have hx := Pm.letters_nb s[k]
          cases hn : Pm.nb s[k] with
          | true =>
            rw [hn] at hx
            have hx' : 0 ≤ Lib.indexByte Pm.letters s[k] := by simpa using hx
            clear hx
            go_wp2_with fail
            with_reducible refine (idx_any _ _ _ rfl).mono ?_
            rintro e w' ⟨rfl, rfl⟩
            go_wp2
            go_round
            case rel => exact ⟨k + 1, by omega, by go_num, by have := HD.out; rw [hn, HA.out] at this; simpa using this.symm⟩
            case measure => simp [intOf]; omega
          | false =>
            have hb : b = false := by have := HD.out; rw [hn, HA.out] at this; simpa using this
            subst hb
            rw [hn] at hx
            have hx' : Lib.indexByte Pm.letters s[k] < 0 := by simpa using hx
            clear hx
            go_wp2_with fail
            with_reducible refine (idx_any _ _ _ rfl).mono ?_
            rintro e w' ⟨rfl, rfl⟩
            go_wp2
            go_ret
            exact ⟨rfl, rfl⟩
        · have hb : b = true := by
            rw [← HA.out, List.drop_of_length_le (by rw [← Lib.size_eq]; omega)]
            rfl
          subst hb
          go_wp2
          go_ret
          exact ⟨rfl, rfl⟩

/-- What strings.Cut at a separator hands back. -/
def CutRes (w : World) (l : List UInt8) (e : Ending) (w' : World) : Prop :=
  e = .returned (.tuple #[.string ⟨(Lib.cut l [47]).1.toArray⟩, .string ⟨(Lib.cut l [47]).2.1.toArray⟩, .bool (Lib.cut l [47]).2.2]) ∧ Drew w w'
theorem cut_any (s : ByteArray) (w : World) (sep : ByteArray) (hsep : sep.data.toList = [47]) (hs : s.size < 4294967281) (hm : MaxL w) : Calls Tryz.prog 189 #[.string s, .string sep] w (CutRes w s.data.toList) := by
  obtain ⟨m, hm⟩ := hm
  refine (Tryz.strings_Cut s sep m w hs hm).mono ?_
  rintro e w' ⟨rfl, h⟩
  rw [hsep]
  exact ⟨rfl, h⟩
theorem cutp_any (s p : ByteArray) (w : World) :
    Calls Tryz.prog 118 #[.string s, .string p] w fun e w' => e = .returned (.tuple #[.string ⟨(Lib.trimPrefix s.data.toList p.data.toList).toArray⟩, .bool (Lib.hasPrefix s.data.toList p.data.toList)]) ∧ w = w' := by
  refine (Tryz.strings_CutPrefix s p w).mono ?_
  rintro e w' ⟨rfl, rfl⟩
  exact ⟨rfl, rfl⟩

def strLen : Value → Nat | .string x => x.size | _ => 0
def boolNum : Value → Nat | .bool true => 1 | _ => 0
theorem size_mk (l : List UInt8) : (ByteArray.mk l.toArray).size = l.length := by simp [ByteArray.size]
def DepthRes (w : World) (l : List UInt8) (e : Ending) (w' : World) : Prop := e = .returned (.int .i64 (Pm.depth l)) ∧ Drew w w'
theorem trim_le (l p : List UInt8) : (Lib.trimPrefix l p).length ≤ l.length := by
  unfold Lib.trimPrefix
  split <;> simp
theorem depth_any (s : ByteArray) (w : World) (hs : s.size < 4294967281) (hm : MaxL w) : Calls Tryz.prog 181 #[.string s] w (DepthRes w s.data.toList) := by
  have HS := Lib.hid (Pm.goDepth_start s.data.toList)
  have hl : (Lib.trimPrefix s.data.toList [47, 47]).length ≤ s.size := by
    rw [Lib.size_eq]
    exact trim_le _ _
  unfold DepthRes
  generalize Pm.depth s.data.toList = D at HS
  go_enter Tryz.func181, Tryz.ntmps181
  go_wp2_with fail
  with_reducible refine (cutp_any _ _ _).mono ?_
  rintro e w' ⟨rfl, rfl⟩
  have e2 : (ByteArray.mk #[47, 47]).data.toList = [47, 47] := rfl
  rw [e2]
  clear e2
  generalize Lib.trimPrefix s.data.toList [47, 47] = r0 at HS hl
  generalize Lib.hasPrefix s.data.toList [47, 47] = b0 at HS
  go_wp2
  go_loopw [3, 4, 5] (fun rest more count wr => ∃ (r : List UInt8) (b : Bool) (c : Nat), rest = .string ⟨r.toArray⟩ ∧ more = .bool b ∧ count = .int .i64 c ∧ Pm.goDepth c r b = D ∧ c + r.length + (if b then 1 else 0) ≤ s.size + 1 ∧ Drew w wr)
    (fun rest more _ _ => strLen rest + boolNum more)
  case atStart => exact ⟨r0, b0, 0, rfl, rfl, rfl, HS.out, by split <;> omega, Drew.refl _⟩
  case round =>
    obtain ⟨r, b, c, rfl, rfl, rfl, hg, hc, hd⟩ := hrel
    have HG := Lib.hid hg
    clear hg
    cases b with
    | false =>
      have hD : c = D := HG.out
      subst hD
      go_wp2
      go_ret
      exact ⟨rfl, hd⟩
    | true =>
      have HC := Lib.hid (Pm.goDepth_cut c r)
      rw [HG.out] at HC
      have h1 := Pm.cut_less r
      have h2 := Pm.cut_le r
      simp only [if_true] at hc
      have hm2 := hm.drew hd
      go_wp2_with fail
      with_reducible refine (cut_any _ _ _ rfl ?_ hm2).mono ?_
      · rw [size_mk]; omega
      rintro e w1 ⟨rfl, hd1⟩
      have e2 : (ByteArray.mk r.toArray).data.toList = r := rfl
      rw [e2]
      clear e2 hm2
      generalize (Lib.cut r [47]).1 = x at HC h2
      generalize (Lib.cut r [47]).2.1 = r' at HC h1 h2
      generalize (Lib.cut r [47]).2.2 = b' at HC h1
      go_wp2_with fail
      with_reducible refine (comp_any _ _ ?_).mono ?_
      · rw [size_mk]; unfold maxLen; omega
      rintro e w' ⟨rfl, rfl⟩
      have e2 : (ByteArray.mk x.toArray).data.toList = x := rfl
      rw [e2]
      clear e2
      cases hx : Pm.comp x with
      | true =>
        rw [hx, if_pos rfl] at HC
        go_wp2
        go_roundw
        case rel => exact ⟨r', b', c + 1, rfl, rfl, by go_num, HC.out.symm, by cases b' <;> simp at h1 ⊢ <;> omega, hd.trans hd1⟩
        case measure =>
          show strLen (.string ⟨r'.toArray⟩) + boolNum (.bool b') < strLen (.string ⟨r.toArray⟩) + boolNum (.bool true)
          simp only [strLen, size_mk]
          cases b' <;> simp [boolNum] at h1 ⊢ <;> omega
      | false =>
        rw [hx] at HC
        have hD : D = 0 := HC.out
        subst hD
        go_wp2
        go_ret
        exact ⟨rfl, hd.trans hd1⟩

/-- A bool, and draws. -/
def GivesB (w : World) (b : Bool) (e : Ending) (w' : World) : Prop := e = .returned (.bool b) ∧ Drew w w'
theorem valid_any (s : ByteArray) (w : World) (hs : s.size < 4294967281) (hm : MaxL w) : Calls Tryz.prog 160 #[.string s] w (GivesB w (Pm.valid s.data.toList)) := by
  have hv : Pm.valid s.data.toList = decide (2 ≤ Pm.depth s.data.toList) := rfl
  have HD := Lib.hid (depth_any s w hs hm)
  unfold DepthRes at HD
  generalize Pm.valid s.data.toList = v at hv
  generalize Pm.depth s.data.toList = d at hv HD
  have HV := Lib.hid hv
  clear hv
  go_enter Tryz.func160, Tryz.ntmps160
  go_wp2_with fail
  with_reducible refine HD.out.mono ?_
  rintro e w1 ⟨rfl, hd1⟩
  go_wp2
  go_ret
  refine ⟨ret_bool ?_, hd1⟩
  rw [HV.out]
  rw [decide_eq_decide]
  omega

end Go.Proofs.YtembmegllpkmfaaGreatDoor

namespace Go.Proofs.YtembmegllpkmfaaGreatDoor
open Go.RowKit

theorem quiet_add_left {P : Program} {f : FuncId} {args : Array Value} {w : World} {a n : Nat} {v : Value}
    (h : Calls P f args (w.drewN (a + n)) fun e w' => e = .returned v ∧ w.drewN (a + n) = w') :
    Calls P f args (w.drewN (a + n)) fun e w'' => e = .returned v ∧ ∃ m, w'' = w.drewN (a + m) :=
  h.mono fun _ _ ⟨he, hm⟩ => ⟨he, n, hm.symm⟩
/-- A number, and draws. -/
def GivesI (w : World) (n : Int) (e : Ending) (w' : World) : Prop := e = .returned (.int .i64 n) ∧ Drew w w'
theorem ord_get {a b : List UInt8} {k : Nat} (h1 : k < a.length) (h2 : k < b.length) (h : a.take k = b.take k) :
    Pm.ord a b = if a[k] = b[k] then Pm.ord (a.drop (k + 1)) (b.drop (k + 1)) else if a[k] = 47 then -1 else if b[k] = 47 then 1 else if a[k] < b[k] then -1 else 1 := by
  rw [Pm.ord_drop k a b h (by omega) (by omega), List.drop_eq_getElem_cons h1, List.drop_eq_getElem_cons h2, Pm.ord]
theorem ord_end {a b : List UInt8} (h : a.take (min a.length b.length) = b.take (min a.length b.length)) : Pm.ord a b = Lib.compareInt a.length b.length := by
  rw [Pm.ord_drop _ a b h (by omega) (by omega)]
  unfold Lib.compareInt
  by_cases h1 : a.length < b.length
  · rw [if_pos (by omega), List.drop_of_length_le (by omega)]
    rw [List.drop_eq_getElem_cons (show min a.length b.length < b.length by omega)]
    rfl
  · rw [if_neg (by omega)]
    by_cases h2 : b.length < a.length
    · rw [if_pos (by omega), List.drop_of_length_le (show b.length ≤ min a.length b.length by omega)]
      rw [List.drop_eq_getElem_cons (show min a.length b.length < a.length by omega)]
      rfl
    · rw [if_neg (by omega), List.drop_of_length_le (show b.length ≤ min a.length b.length by omega), List.drop_of_length_le (by omega)]
      rfl

end Go.Proofs.YtembmegllpkmfaaGreatDoor

namespace Go.Proofs.YtembmegllpkmfaaGreatDoor
open Go.RowKit

def Gives2 (w : World) (x : Int) (n : Nat) (e : Ending) (w' : World) : Prop := e = .returned (.tuple #[.int .i64 x, .int .i64 (n : Int)]) ∧ Drew w w'
def GivesB2 (w : World) (x : Bool) (n : Nat) (e : Ending) (w' : World) : Prop := e = .returned (.tuple #[.bool x, .int .i64 (n : Int)]) ∧ Drew w w'
def cmpVal (a b : List UInt8) : Int := if Pm.valid a && Pm.valid b then Pm.ord a b else 0
def cmpErr (a b : List UInt8) : Nat := if Pm.valid a && Pm.valid b then 0 else 20

def underErr (d p : List UInt8) : Nat := if Pm.depth d ≠ 0 ∧ Pm.valid p = true then 0 else 20
def underVal (d p : List UInt8) : Bool := decide (Pm.depth d ≠ 0 ∧ Pm.valid p = true) && Pm.under d p

theorem cval : cmpVal [47, 47, 97, 47, 98] [47, 47, 97, 43, 47, 98] = -1 := by decide +kernel
theorem cerr : cmpErr [47, 47, 97, 47, 98] [47, 47, 97, 43, 47, 98] = 0 := by decide +kernel
theorem val1 : Pm.valid [47, 47, 97, 47, 98, 46, 112, 115, 100] = true := by decide +kernel
theorem val2 : Pm.valid [47, 47, 97] = false := by decide +kernel
end Go.Proofs.YtembmegllpkmfaaGreatDoor

namespace Go.Proofs.YtembmegllpkmfaaGreatDoor
open Go.RowKit

theorem maxl_of (W : World) (h : W.ShapedOpen Tryz.prog) : MaxL W :=
  Go.Proofs.cell_of_shapedOpen_int (zero := #[.int .i64 0]) (t := 3) h (of_decide_eq_true (by kernel_rfl)) (by kernel_rfl) rfl (by kernel_rfl) (by kernel_rfl) Tryz.underlying3
theorem ba_ext {a b : ByteArray} (h : a.data.toList = b.data.toList) : a = b := by
  rw [← Lib.mk_data a, ← Lib.mk_data b, h]
theorem long_no {s : ByteArray} (h : ¬ 400 < s.size) : s.size < 4294967281 := by omega
end Go.Proofs.YtembmegllpkmfaaGreatDoor

namespace Go.Proofs.YtembmegllpkmfaaGreatDoor
open Go.RowKit

/-- The bytes of strings. -/
def bs (xs : List ByteArray) : List (List UInt8) := xs.map fun x => x.data.toList
theorem bs_length (xs : List ByteArray) : (bs xs).length = xs.length := by simp [bs]
theorem bs_get (xs : List ByteArray) (k : Nat) (h : k < xs.length) : (bs xs)[k]'(by rw [bs_length]; exact h) = xs[k].data.toList := by simp [bs]
theorem bs_inj {xs ys : List ByteArray} (h : bs xs = bs ys) : xs = ys := by
  apply List.ext_getElem
  · rw [← bs_length xs, h, bs_length]
  · intro i h1 h2
    apply ba_ext
    rw [← bs_get xs i h1, ← bs_get ys i h2]
    simp only [h]

/-- The cells from the address on are these strings, in a block ahead of block B. -/
def RdS (w : World) (B : Nat) (A : Option Addr) (xs : List ByteArray) : Prop :=
  xs = [] ∨ ∃ g o, A = some ⟨g, o, none⟩ ∧ g < B ∧ ∀ j (h : j < xs.length), w.cell? ⟨g, o + j, none⟩ = some (.string xs[j])
theorem RdS.keep {w w' : World} {B : Nat} {A : Option Addr} {xs : List ByteArray} (h : RdS w B A xs) (hb : Below B w w') : RdS w' B A xs := by
  rcases h with h | ⟨g, o, hA, hg, hc⟩
  · exact .inl h
  · exact .inr ⟨g, o, hA, hg, fun j hj => (hb.cell (p := ⟨g, o + j, none⟩) hg).trans (hc j hj)⟩
theorem RdS.more {w : World} {B B' : Nat} {A : Option Addr} {xs : List ByteArray} (h : RdS w B A xs) (hB : B ≤ B') : RdS w B' A xs := by
  rcases h with h | ⟨g, o, hA, hg, hc⟩
  · exact .inl h
  · exact .inr ⟨g, o, hA, by omega, hc⟩
theorem RdS.take {w : World} {B : Nat} {A : Option Addr} {xs : List ByteArray} (h : RdS w B A xs) (k : Nat) : RdS w B A (xs.take k) := by
  rcases h with rfl | ⟨g, o, hA, hg, hc⟩
  · left; simp
  · refine .inr ⟨g, o, hA, hg, fun j hj => ?_⟩
    simp only [List.length_take] at hj
    rw [List.getElem_take]
    exact hc j (by omega)
theorem RdS.cells {w : World} {B : Nat} {A : Option Addr} {xs : List ByteArray} (h : RdS w B A xs) (hl : 0 < xs.length) : ∃ g o, A = some ⟨g, o, none⟩ ∧ g < B ∧ ∀ j (h : j < xs.length), w.cell? ⟨g, o + j, none⟩ = some (.string xs[j]) := by
  rcases h with rfl | h
  · simp at hl
  · exact h

/-- A string, and new memory at most. -/
def GivesS (w : World) (l : List UInt8) (e : Ending) (w' : World) : Prop := e = .returned (.string ⟨l.toArray⟩) ∧ Below w.heap.size w w'
def GivesS2 (w : World) (l : List UInt8) (n : Nat) (e : Ending) (w' : World) : Prop := e = .returned (.tuple #[.string ⟨l.toArray⟩, .int .i64 (n : Int)]) ∧ Below w.heap.size w w'

theorem sjoin_any (A : Option Addr) (xs : List ByteArray) (c : Nat) (sep : ByteArray) (w : World) (hr : RdS w w.heap.size A xs) (hc : xs.length ≤ c) (hsep : sep.data.toList = [47])
    (hlen : (Lib.join (bs xs) [47]).length ≤ 140737488355328) (hN : xs.length ≤ 140737488355328) :
    Calls Tryz.prog 74 #[.slice A xs.length c, .string sep] w (GivesS w (Lib.join (bs xs) [47])) := by
  rcases hr with rfl | ⟨g, o, rfl, hg, hcell⟩
  · refine (Tryz.strings_Join_none A c sep w).mono ?_
    rintro e w' ⟨rfl, rfl⟩
    exact ⟨rfl, Below.refl _ _⟩
  · refine (Tryz.strings_Join g o c xs sep w ?_ hg hN hc (by rw [hsep]; exact hlen)).mono ?_
    · intro j x hx
      obtain ⟨hj, rfl⟩ := List.getElem?_eq_some_iff.1 hx
      exact hcell j hj
    · rintro e w' ⟨rfl, hb⟩
      rw [hsep]
      exact ⟨rfl, hb⟩

theorem slash2 (l : List UInt8) : (ByteArray.mk #[47, 47]) ++ (ByteArray.mk l.toArray) = ⟨(47 :: 47 :: l).toArray⟩ := by
  apply ba_ext
  simp [ByteArray.data_append]
theorem ret_str {a b : ByteArray} (h : a = b) : Ending.returned (.string a) = .returned (.string b) := by rw [h]
theorem ret_str2 {a b : ByteArray} {x y : Int} (h : a = b) (h2 : x = y) : Ending.returned (.tuple #[.string a, .int .i64 x]) = .returned (.tuple #[.string b, .int .i64 y]) := by rw [h, h2]

theorem rjoin_any (A : Option Addr) (xs : List ByteArray) (c : Nat) (w : World) (hr : RdS w w.heap.size A xs) (hc : xs.length ≤ c) (hlen : (Lib.join (bs xs) [47]).length ≤ 140737488355000) (hN : xs.length ≤ 140737488355328) :
    Calls Tryz.prog 38 #[.slice A xs.length c] w (GivesS w (Pm.join (bs xs))) := by
  have HJ := Lib.hid (sjoin_any A xs c ⟨#[47]⟩ w hr hc rfl (by omega) hN)
  have hj : Pm.join (bs xs) = 47 :: 47 :: Lib.join (bs xs) [47] := rfl
  rw [hj]
  clear hj hr hc
  generalize Lib.join (bs xs) [47] = l at HJ hlen
  generalize xs.length = n at HJ hN
  go_enter Tryz.func38, Tryz.ntmps38
  go_wp2_with fail
  with_reducible refine HJ.out.mono ?_
  rintro e w1 ⟨rfl, hb⟩
  go_wp2
  go_ret
  exact ⟨ret_str (slash2 l), hb⟩

def joinOk (l : List (List UInt8)) : Bool := decide (2 ≤ l.length) && l.all Pm.comp
/-- .. and path.Join: no path. -/
def NoPath (w : World) (n : Nat) (e : Ending) (w' : World) : Prop := e = .returned (.tuple #[.string ⟨#[]⟩, .int .i64 (n : Int)]) ∧ w = w'
theorem bs_drop {xs : List ByteArray} {k : Nat} (h : k < xs.length) : ((bs xs).drop k).all Pm.comp = (Pm.comp xs[k].data.toList && ((bs xs).drop (k + 1)).all Pm.comp) := by
  rw [List.drop_eq_getElem_cons (by rw [bs_length]; exact h), List.all_cons, bs_get xs k h]

/-- What path.Join hands back. -/
def JoinRes (w : World) (ok : Bool) (l : List UInt8) (e : Ending) (w' : World) : Prop :=
  e = .returned (.tuple #[.string (if ok then ⟨l.toArray⟩ else ⟨#[]⟩), .int .i64 ((if ok then 0 else 21 : Nat) : Int)]) ∧ Below w.heap.size w w'

theorem pjoin_any (A : Option Addr) (xs : List ByteArray) (c : Nat) (w : World) (hr : RdS w w.heap.size A xs) (hc : xs.length ≤ c) (hlen : (Lib.join (bs xs) [47]).length ≤ 140737488355000) (hN : xs.length ≤ 140737488355328)
    (hx : ∀ x ∈ xs, x.size ≤ maxLen) : Calls Tryz.prog 30 #[.slice A xs.length c] w (JoinRes w (joinOk (bs xs)) (Pm.join (bs xs))) := by
  have HJ := Lib.hid (sjoin_any A xs c ⟨#[47]⟩ w hr hc rfl (by omega) hN)
  have hj : Pm.join (bs xs) = 47 :: 47 :: Lib.join (bs xs) [47] := rfl
  rw [hj]
  clear hj
  generalize Lib.join (bs xs) [47] = l at HJ hlen
  unfold JoinRes
  by_cases h2 : xs.length < 2
  · have hk : joinOk (bs xs) = false := by
      unfold joinOk
      rw [decide_eq_false (by rw [bs_length]; omega)]
      rfl
    rw [hk]
    generalize xs.length = n at *
    go_enter Tryz.func30, Tryz.ntmps30
    go_wp2
    go_ret2
    exact ⟨rfl, Below.refl _ _⟩
  · have hk : joinOk (bs xs) = (bs xs).all Pm.comp := by
      unfold joinOk
      rw [decide_eq_true (by rw [bs_length]; omega)]
      rfl
    obtain ⟨g, o, rfl, hg, hcell⟩ := hr.cells (by omega)
    rw [hk]
    have HA := Lib.hid (show ((bs xs).drop 0).all Pm.comp = (bs xs).all Pm.comp by simp)
    clear hk
    generalize (bs xs).all Pm.comp = b at HA
    have HX := Lib.hid hx
    have HC := Lib.hid hcell
    clear hx hcell hr
    obtain ⟨n, hn⟩ : ∃ n, n = xs.length := ⟨_, rfl⟩
    rw [← hn] at HJ h2 hN hc ⊢
    have HN := Lib.hid hn
    clear hn
    go_enter Tryz.func30, Tryz.ntmps30
    go_wp2
    go_loop [11] (fun i => ∃ k : Nat, k ≤ n ∧ i = .int .i64 k ∧ ((bs xs).drop k).all Pm.comp = b) (fun i => n - (intOf i).toNat)
    case atStart => exact ⟨0, by omega, rfl, HA.out⟩
    case round =>
      obtain ⟨k, hkn, rfl, hall⟩ := hrel
      have HB := Lib.hid hall
      clear hall
      by_cases hlt : k < n
      · have hlx : k < xs.length := by rw [← HN.out]; exact hlt
        have hcell := HC.out k hlx
        have hsz : xs[k].size ≤ maxLen := HX.out _ (List.getElem_mem hlx)
        have HD := Lib.hid (bs_drop hlx)
        generalize xs[k] = x at hcell hsz HD
        have HCo := Lib.hid (fun w : World => comp_any x w hsz)
        clear hsz
        cases hv : Pm.comp x.data.toList with
        | true =>
          rw [hv] at HCo HD
          go_wp2_with fail
          with_reducible refine (HCo.out _).mono ?_
          rintro e w' ⟨rfl, rfl⟩
          go_wp2
          go_round
          case rel => exact ⟨k + 1, by omega, by go_num, by have := HD.out; rw [HB.out] at this; simpa using this.symm⟩
          case measure => simp [intOf]; omega
        | false =>
          rw [hv] at HCo HD
          have hb : b = false := by have := HD.out; rw [HB.out] at this; simpa using this
          subst hb
          go_wp2_with fail
          with_reducible refine (HCo.out _).mono ?_
          rintro e w' ⟨rfl, rfl⟩
          go_wp2
          go_ret2
          exact ⟨rfl, Below.refl _ _⟩
      · have hb : b = true := by
          rw [← HB.out, List.drop_of_length_le (by rw [bs_length, ← HN.out]; omega)]
          rfl
        subst hb
        go_wp2_with fail
        with_reducible refine HJ.out.mono ?_
        rintro e w1 ⟨rfl, hb⟩
        go_wp2
        go_ret2
        exact ⟨ret_str2 (slash2 l) rfl, hb⟩

theorem take_eq_succ {xs ys : List ByteArray} {k : Nat} (h1 : k < xs.length) (h2 : k < ys.length) (h : xs.take k = ys.take k) : xs.take (k + 1) = ys.take (k + 1) ↔ xs[k] = ys[k] := by
  rw [List.take_succ_eq_append_getElem h1, List.take_succ_eq_append_getElem h2, h]
  simp only [List.append_cancel_left_eq, List.cons.injEq, and_true]

end Go.Proofs.YtembmegllpkmfaaGreatDoor

namespace Go.Proofs.YtembmegllpkmfaaGreatDoor
open Go.RowKit

/-- A slice of strings of the call's own, new memory at most: its strings' bytes are l. -/
def Strs (w : World) (l : List (List UInt8)) (v : Value) (w' : World) : Prop :=
  ∃ (A : Option Addr) (xs : List ByteArray) (c : Nat), v = .slice A xs.length c ∧ bs xs = l ∧ xs.length ≤ c ∧ c ≤ maxLen ∧ RdS w' w'.heap.size A xs ∧ Below w.heap.size w w'
def GivesL (w : World) (l : List (List UInt8)) (e : Ending) (w' : World) : Prop := ∃ v, e = .returned v ∧ Strs w l v w'

theorem segs_le (l : List UInt8) : (Pm.segs l).length ≤ l.length + 1 := by
  induction l with
  | nil => simp [Pm.segs]
  | cons c r ih =>
    rw [Pm.segs]
    have := Pm.segs_length r
    split <;> simp <;> omega

theorem split_any (s sep : ByteArray) (w : World) (hsep : sep.data.toList = [47]) (hs : s.size < 4294967281) (hm : MaxL w) : Calls Tryz.prog 131 #[.string s, .string sep] w (GivesL w (Pm.segs s.data.toList)) := by
  obtain ⟨m, hm⟩ := hm
  have h1 : 1 ≤ sep.size := by rw [Lib.size_eq, hsep]; simp
  refine (Tryz.strings_Split s sep m w hs hm h1).mono ?_
  rintro e w' ⟨rfl, rfl⟩
  have hb : bs (Lib.splitB sep 0 (Lib.countB s sep) s) = Pm.segs s.data.toList := by
    show (Lib.splitB sep 0 (Lib.countB s sep) s).map (fun x => x.data.toList) = _
    rw [Lib.splitB_data, hsep]
    show Lib.splitK [47] 0 (Lib.count s.data.toList sep.data.toList) s.data.toList = _
    rw [hsep]
    exact Pm.splitK_segs _ _ (Nat.le_refl _)
  have hn : (Lib.splitB sep 0 (Lib.countB s sep) s).length = Lib.countB s sep + 1 := Lib.splitB_all sep h1 0 _ s rfl
  refine ⟨_, rfl, some ⟨w.heap.size, 0, none⟩, Lib.splitB sep 0 (Lib.countB s sep) s, Lib.countB s sep + 1, by rw [hn], hb, by omega, ?_, ?_, (Below.refl _ _).alloc (Nat.le_refl _) _⟩
  · have h2 := segs_le s.data.toList
    rw [← hb, bs_length, hn, ← Lib.size_eq] at h2
    unfold maxLen
    omega
  · refine .inr ⟨w.heap.size, 0, rfl, by simp, fun j hj => ?_⟩
    rw [cell_of_row _ _ _ _ _ (0, 0) (heap_alloc_new w _)]
    simp [List.getElem?_eq_getElem hj]

theorem hasp_any (s p : ByteArray) (w : World) : Calls Tryz.prog 177 #[.string s, .string p] w fun e w' => e = .returned (.bool (Lib.hasPrefix s.data.toList p.data.toList)) ∧ w = w' := by
  refine (Tryz.strings_HasPrefix s p w).mono ?_
  rintro e w' ⟨rfl, rfl⟩
  exact ⟨rfl, rfl⟩

/-- What Parts and Path of the reference hand back: the components, or none. -/
def GivesP (w : World) (o : Option (List (List UInt8))) (e : Ending) (w' : World) : Prop :=
  match o with
  | none => e = .returned (.tuple #[.slice none 0 0, .bool false]) ∧ Below w.heap.size w w'
  | some l => ∃ v, e = .returned (.tuple #[v, .bool true]) ∧ Strs w l v w'

theorem drop_two (s : ByteArray) : (s.extract 2 s.size).data.toList = s.data.toList.drop 2 := by
  rw [Lib.extract_data, List.take_of_length_le]
  rw [List.length_drop, ← Lib.size_eq]
  exact Nat.le_refl _
theorem prefix_le {s : ByteArray} (h : Lib.hasPrefix s.data.toList [47, 47] = true) : 2 ≤ s.size := by
  unfold Lib.hasPrefix at h
  have := (List.isPrefixOf_iff_prefix.1 h).length_le
  rw [Lib.size_eq]
  simpa using this

theorem segs_elem_le : ∀ (l : List UInt8), ∀ x ∈ Pm.segs l, x.length ≤ l.length
  | [], x, hx => by
    simp [Pm.segs] at hx
    subst hx
    simp
  | c :: r, x, hx => by
    rw [Pm.segs] at hx
    have ih := segs_elem_le r
    rw [Pm.segs_cons r] at ih
    split at hx
    · rcases List.mem_cons.1 hx with rfl | hx
      · simp
      · rw [Pm.segs_cons r] at hx
        have := ih x hx
        simp
        omega
    · rcases List.mem_cons.1 hx with rfl | hx
      · have := ih _ (List.mem_cons_self ..)
        rw [List.length_cons, List.length_cons]
        omega
      · have := ih x (List.mem_cons_of_mem _ hx)
        simp
        omega

theorem rparts_any (s : ByteArray) (w : World) (hs : s.size < 4294967281) (hm : MaxL w) : Calls Tryz.prog 158 #[.string s] w (GivesP w (Pm.parts s.data.toList)) := by
  have HH := Lib.hid (fun w : World => hasp_any s ⟨#[47, 47]⟩ w)
  have e0 : (ByteArray.mk #[47, 47]).data.toList = [47, 47] := rfl
  rw [e0] at HH
  clear e0
  have hp : Pm.parts s.data.toList = if Lib.hasPrefix s.data.toList [47, 47] && (Pm.segs (s.data.toList.drop 2)).all Pm.comp then some (Pm.segs (s.data.toList.drop 2)) else none := rfl
  generalize Pm.parts s.data.toList = o at hp
  cases hv : Lib.hasPrefix s.data.toList [47, 47] with
  | false =>
    rw [hv] at HH hp
    obtain rfl : o = none := by rw [hp]; rfl
    clear hv hp
    go_enter Tryz.func158, Tryz.ntmps158
    go_wp2_with fail
    with_reducible refine (HH.out _).mono ?_
    rintro e w' ⟨rfl, rfl⟩
    go_wp2
    go_ret2
    exact ⟨rfl, Below.refl _ _⟩
  | true =>
    have h2 := prefix_le hv
    rw [hv, Bool.true_and] at hp
    rw [hv] at HH
    have hsl : (s.extract 2 s.size).size < 4294967281 := by rw [ByteArray.size_extract]; omega
    have HS := Lib.hid (split_any (s.extract 2 s.size) ⟨#[47]⟩ w rfl hsl hm)
    rw [drop_two] at HS
    have HLE := Lib.hid (segs_le (s.data.toList.drop 2))
    rw [List.length_drop, ← Lib.size_eq] at HLE
    have HLEN := Lib.hid (segs_elem_le (s.data.toList.drop 2))
    rw [List.length_drop, ← Lib.size_eq] at HLEN
    generalize Pm.segs (s.data.toList.drop 2) = l at HS HLE HLEN hp
    have HP := Lib.hid hp
    have HSZ := Lib.hid hs
    clear hv hsl hp hs
    have h2i : (2 : Int) ≤ (s.size : Int) := by omega
    go_enter Tryz.func158, Tryz.ntmps158
    go_wp2_with fail
    with_reducible refine (HH.out _).mono ?_
    rintro e w' ⟨rfl, rfl⟩
    go_wp2_with fail
    with_reducible refine HS.out.mono ?_
    rintro e w1 ⟨v, rfl, A, xs, c, rfl, hbx, hc, hcm, hr, hb⟩
    have HBX := Lib.hid hbx
    have HR := Lib.hid hr
    have HB := Lib.hid hb
    have HCM := Lib.hid hcm
    have hn : xs.length = l.length := by rw [← hbx, bs_length]
    obtain ⟨n, hnn⟩ : ∃ n, n = xs.length := ⟨_, rfl⟩
    have hnl : (n : Int) ≤ 4294967300 := by have := HLE.out; have := HSZ.out; omega
    rw [← hnn] at hc ⊢
    have HN := Lib.hid hnn
    have hcell : 0 < n → ∃ g o, A = some ⟨g, o, none⟩ ∧ ∀ j (h : j < xs.length), w1.cell? ⟨g, o + j, none⟩ = some (.string xs[j]) := by
      intro h
      obtain ⟨g, o, h1, _, h2⟩ := HR.out.cells (by rw [← HN.out]; exact h)
      exact ⟨g, o, h1, h2⟩
    have HC := Lib.hid hcell
    have HX := Lib.hid (show ∀ j (h : j < xs.length), xs[j].size ≤ maxLen from by
      intro j h
      have := HLEN.out xs[j].data.toList (by rw [← HBX.out, ← bs_get xs j h]; exact List.getElem_mem _)
      rw [← Lib.size_eq] at this
      have := HSZ.out
      unfold maxLen
      omega)
    clear hbx hr hb hn hnn hcell hcm
    go_wp2
    go_loop [15] (fun i => ∃ k : Nat, k ≤ n ∧ i = .int .i64 k ∧ ((bs xs).drop k).all Pm.comp = l.all Pm.comp) (fun i => n - (intOf i).toNat)
    case atStart => exact ⟨0, by omega, rfl, by rw [HBX.out]; simp⟩
    case round =>
      obtain ⟨k, hkn, rfl, hall⟩ := hrel
      have HA := Lib.hid hall
      clear hall
      by_cases hlt : k < n
      · have hlx : k < xs.length := by rw [← HN.out]; exact hlt
        obtain ⟨g, o', rfl, hcell⟩ := HC.out (by omega)
        have hce := hcell k hlx
        have hsz := HX.out k hlx
        have HD := Lib.hid (bs_drop hlx)
        clear hcell
        generalize xs[k] = x at hce hsz HD
        have HCo := Lib.hid (fun w : World => rcomp_any x w hsz)
        clear hsz
        cases hv : Pm.comp x.data.toList with
        | true =>
          rw [hv] at HCo HD
          go_wp2_with fail
          with_reducible refine (HCo.out _).mono ?_
          rintro e w' ⟨rfl, rfl⟩
          go_wp2
          go_round
          case rel => exact ⟨k + 1, by omega, by go_num, by have := HD.out; rw [HA.out] at this; simpa using this.symm⟩
          case measure => simp [intOf]; omega
        | false =>
          rw [hv] at HCo HD
          have ho : o = none := by
            rw [HP.out, if_neg]
            rw [← HA.out, HD.out]
            simp
          subst ho
          go_wp2_with fail
          with_reducible refine (HCo.out _).mono ?_
          rintro e w' ⟨rfl, rfl⟩
          go_wp2
          go_ret2
          exact ⟨rfl, HB.out⟩
      · have ho : o = some l := by
          rw [HP.out, if_pos]
          rw [← HA.out, List.drop_of_length_le (by rw [bs_length, ← HN.out]; omega)]
          rfl
        subst ho
        go_wp2
        go_ret2
        refine ⟨.slice A n c, rfl, A, xs, c, ?_, HBX.out, by rw [← HN.out]; exact hc, HCM.out, HR.out, HB.out⟩
        exact congrArg (fun m => Value.slice A m c) HN.out
end Go.Proofs.YtembmegllpkmfaaGreatDoor

namespace Go.Proofs.YtembmegllpkmfaaGreatDoor
open Go.RowKit

/-- The components of a path, or none. -/
def pathO (p : List UInt8) : Option (List (List UInt8)) := if Pm.valid p then Pm.parts p else none
theorem pathO_none {p : List UInt8} (h : Pm.valid p = false) : pathO p = none := by unfold pathO; rw [h]; rfl
theorem pathO_some {p : List UInt8} (h : Pm.valid p = true) : pathO p = Pm.parts p := by unfold pathO; rw [h]; rfl

theorem rpath_any (s : ByteArray) (w : World) (hs : s.size < 4294967281) (hm : MaxL w) : Calls Tryz.prog 129 #[.string s] w (GivesP w (pathO s.data.toList)) := by
  have HP := Lib.hid (rparts_any s w hs hm)
  cases hp : Pm.parts s.data.toList with
  | none =>
    rw [pathO_none (Pm.valid_none hp)]
    rw [hp] at HP
    clear hp
    go_enter Tryz.func129, Tryz.ntmps129
    go_wp2_with fail
    with_reducible refine HP.out.mono ?_
    rintro e w1 ⟨rfl, hb⟩
    go_wp2
    go_ret2
    exact ⟨rfl, hb⟩
  | some l =>
    have hv := Pm.valid_some hp
    rw [hp] at HP
    by_cases h2 : 2 ≤ l.length
    · have ho : pathO s.data.toList = some l := by rw [pathO_some (by rw [hv]; simpa using h2), hp]
      rw [ho]
      clear ho hv hp
      go_enter Tryz.func129, Tryz.ntmps129
      go_wp2_with fail
      with_reducible refine HP.out.mono ?_
      rintro e w1 ⟨v, rfl, A, xs, c, rfl, hbx, hc, hcm, hr, hb⟩
      have hn : 2 ≤ xs.length := by rw [← bs_length, hbx]; exact h2
      have hni : ¬ ((xs.length : Int) < 2) := by omega
      have HS := Lib.hid (show Strs w l (.slice A xs.length c) w1 from ⟨A, xs, c, rfl, hbx, hc, hcm, hr, hb⟩)
      clear hbx hr hb hc hcm h2
      generalize xs.length = n at *
      go_wp2
      go_ret2
      exact ⟨_, rfl, HS.out⟩
    · have ho : pathO s.data.toList = none := pathO_none (by rw [hv]; simpa using h2)
      rw [ho]
      clear ho hv hp
      go_enter Tryz.func129, Tryz.ntmps129
      go_wp2_with fail
      with_reducible refine HP.out.mono ?_
      rintro e w1 ⟨v, rfl, A, xs, c, rfl, hbx, hc, hcm, hr, hb⟩
      have hn : xs.length < 2 := by rw [← bs_length, hbx]; omega
      have hni : ((xs.length : Int) < 2) := by omega
      have HB := Lib.hid hb
      clear hbx hr hb hc hcm h2
      generalize xs.length = n at *
      go_wp2
      go_ret2
      exact ⟨rfl, HB.out⟩

/-- What path.Split hands back. -/
def GivesSp (w : World) (o : Option (List (List UInt8))) (e : Ending) (w' : World) : Prop :=
  match o with
  | none => e = .returned (.tuple #[.slice none 0 0, .int .i64 20]) ∧ Below w.heap.size w w'
  | some l => ∃ v, e = .returned (.tuple #[v, .int .i64 0]) ∧ Strs w l v w'
theorem Strs.before {w w1 w2 : World} {l : List (List UInt8)} {v : Value} (h : Strs w1 l v w2) (hb : Below w.heap.size w w1) : Strs w l v w2 := by
  obtain ⟨A, xs, c, h1, h2, h3, h4, h5, h6⟩ := h
  exact ⟨A, xs, c, h1, h2, h3, h4, h5, hb.trans (h6.mono hb.size)⟩

theorem valid_segs {p : List UInt8} (h : Pm.valid p = true) : pathO p = some (Pm.segs (p.drop 2)) ∧ 2 ≤ p.length := by
  obtain ⟨l, n, h1, h2, h3, h4, h5⟩ := Pm.valid_parts h
  constructor
  · rw [pathO_some h]
    unfold Pm.parts at h4 ⊢
    split at h4
    · rename_i h6
      rw [if_pos h6]
    · cases h4
  · rw [h5]
    simp [Pm.join]

theorem split_path_any (s : ByteArray) (w : World) (hs : s.size < 4294967281) (hm : MaxL w) : Calls Tryz.prog 132 #[.string s] w (GivesSp w (pathO s.data.toList)) := by
  have HV := Lib.hid (valid_any s w hs hm)
  cases hv : Pm.valid s.data.toList with
  | false =>
    rw [pathO_none hv]
    rw [hv] at HV
    clear hv
    go_enter Tryz.func132, Tryz.ntmps132
    go_wp2_with fail
    with_reducible refine HV.out.mono ?_
    rintro e w1 ⟨rfl, hd⟩
    go_wp2
    go_ret2
    exact ⟨rfl, hd.below _⟩
  | true =>
    obtain ⟨ho, h2⟩ := valid_segs hv
    rw [ho]
    rw [hv] at HV
    have hsl : (s.extract 2 s.size).size < 4294967281 := by rw [ByteArray.size_extract]; omega
    have HS := Lib.hid (fun (w : World) (hm : MaxL w) => split_any (s.extract 2 s.size) ⟨#[47]⟩ w rfl hsl hm)
    rw [drop_two] at HS
    have h2i : (2 : Int) ≤ (s.size : Int) := by rw [Lib.size_eq]; omega
    generalize Pm.segs (s.data.toList.drop 2) = l at HS ⊢
    clear hv ho hsl h2
    go_enter Tryz.func132, Tryz.ntmps132
    go_wp2_with fail
    with_reducible refine HV.out.mono ?_
    rintro e w1 ⟨rfl, hd⟩
    go_wp2_with fail
    with_reducible refine (HS.out _ (hm.drew hd)).mono ?_
    rintro e w2 ⟨v, rfl, hst⟩
    have HST := Lib.hid hst
    clear hst
    go_wp2
    go_ret2
    exact ⟨_, rfl, HST.out.before (hd.below _)⟩

/-- A string, a number, and draws. -/
def GivesT (w : World) (l : List UInt8) (n : Nat) (e : Ending) (w' : World) : Prop := e = .returned (.tuple #[.string ⟨l.toArray⟩, .int .i64 (n : Int)]) ∧ Drew w w'
def dirOf (p : List UInt8) : List UInt8 := if Pm.valid p then p.take (p.length - 1 - (p.reverse.takeWhile (· != 47)).length) else []
theorem extract_take (s : ByteArray) (k : Nat) : (s.extract 0 k).data.toList = s.data.toList.take k := by rw [Lib.extract_data]; simp
theorem extract_drop (s : ByteArray) (k : Nat) : (s.extract k s.size).data.toList = s.data.toList.drop k := by
  rw [Lib.extract_data, List.take_of_length_le]
  rw [List.length_drop, ← Lib.size_eq]
  exact Nat.le_refl _

/-- The end of a name from its last "." on. -/
def extOf (n : List UInt8) : List UInt8 := if Lib.lastIndexByte ⟨n.toArray⟩ 46 < 0 then [] else n.drop (Lib.lastIndexByte ⟨n.toArray⟩ 46).toNat
theorem last_lt (s : ByteArray) (c : Int) : Lib.lastIndexByte s c = -1 ∨ ∃ i : Nat, Lib.lastIndexByte s c = i ∧ i < s.size := by
  rcases Lib.lastIndexByte_spec s c with ⟨h, _⟩ | ⟨i, h1, h2, _⟩
  · exact .inl h
  · exact .inr ⟨i, h2, h1⟩
end Go.Proofs.YtembmegllpkmfaaGreatDoor

namespace Go.Proofs.YtembmegllpkmfaaGreatDoor
open Go.RowKit

set_option maxRecDepth 1000000 in
theorem doorWrap {H : Type} {enc : TypeId × Value → H} {os : Os} {f : FuncId} {fn : Func} {s : ChangeSpec} {laid : List (String × DataW Unit)}
    (own : ownKnob Tryz.checked.prog.godebug = none) (started : os.Started) (noInit : Tryz.checked.prog.inits.idxOf? f = none) (hfn : Tryz.checked.prog.funcs[f]? = some fn)
    (witness : ∃ (w : World) (tape : Tape) (i : Input), w.os = os ∧ (w.forCall tape i).Shaped Tryz.checked.prog ∧ i.vars = [] ∧ Input.okWide Tryz.checked.prog (w.forCall tape i) .any w.heap.size f i ∧
      ((s.pre enc Tryz.checked.prog fn [] false (w.forCall tape i).memory i.args ∧ laidMetH Tryz.checked.prog laid (w.forCall tape i).memory) ∧ sizedMet enc Tryz.checked.prog fn (OpenSpec.ofChange s) false (w.forCall tape i).memory i.args) ∧
      ({} : Assume).holds Tryz.checked.prog (lone (Frame.enter Tryz.checked.prog f i.args .normal) [] (w.forCall tape i)))
    (walk : ∀ (W : World) (base : Nat) (args : Array Value) (ds gs : List (DataW H)) (before : List MemPlace),
      (∀ (j : Nat) t v, fn.params[j]? = some t → args[j]? = some v → Value.okWide Tryz.checked.prog W .any base t v) →
      DataW.Whole enc Tryz.checked.prog fn.params.toList s.vars false W args.toList ds gs before → W.ShapedOpen Tryz.checked.prog →
      Calls Tryz.checked.prog f args W fun e W' => ∃ v, e = .returned v ∧ s.post enc Tryz.checked.prog fn false true false false W args v W') :
    ReturnsInHanded {} Tryz.checked os f .any (fun w args => (s.pre enc Tryz.checked.prog fn [] false w args ∧ laidMetH Tryz.checked.prog laid w) ∧ sizedMet enc Tryz.checked.prog fn (OpenSpec.ofChange s) false w args) (s.post enc Tryz.checked.prog fn false true false false) := by
  refine returnsInHanded_of_calls own started noInit witness ?_
  intro w tape i _ hsh _ hok hpre _
  obtain ⟨_, _, _, g, hg, _, _, _, _, hval⟩ := hok
  obtain rfl : g = fn := Option.some.inj (hg.symm.trans hfn)
  obtain ⟨⟨⟨ds, gs, before, hw, _⟩, _⟩, _⟩ := hpre
  refine (walk (w.forCall tape i) w.heap.size i.args ds gs before hval (DataW.Whole.of_heap (w' := w.forCall tape i) (by rfl) hw) hsh).mono fun e W' ⟨v, he, hp⟩ => ?_
  subst he
  exact ChangeSpec.post_blind hp
end Go.Proofs.YtembmegllpkmfaaGreatDoor
