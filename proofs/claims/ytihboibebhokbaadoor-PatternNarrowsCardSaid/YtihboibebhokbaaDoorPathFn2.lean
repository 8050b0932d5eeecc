/- The contracts of depth, Valid, the reference's Component, cmp.Compare at bytes, order. -/
import Derived.Test.YtihboibebhokbaaDoorPathFn
import Derived.LoopTactic
namespace Go.Proofs.YtihboibebhokbaaDoor
open Go.RowKit

/-- The world as it was, but for so many draws. -/
def Drew (w w' : World) : Prop := ∃ n, w' = w.drewN n
theorem Drew.refl (w : World) : Drew w w := ⟨0, rfl⟩
theorem Drew.trans {a b c : World} (h : Drew a b) (k : Drew b c) : Drew a c := by
  obtain ⟨n, rfl⟩ := h
  obtain ⟨m, rfl⟩ := k
  exact ⟨n + m, World.drewN_drewN _ _ _⟩
theorem Drew.drew {a b : World} (h : Drew a b) : Drew a b.drew := h.trans ⟨1, rfl⟩
theorem Drew.below {w w' : World} (B : Nat) (h : Drew w w') : Below B w w' := by
  obtain ⟨n, rfl⟩ := h
  exact ⟨rfl, rfl, rfl, Nat.le_refl _, fun _ _ => rfl⟩
/-- internal/bytealg.MaxLen holds some number. -/
def MaxL (w : World) : Prop := ∃ m, w.cell? ⟨0, 0, none⟩ = some (.int .i64 m)
theorem MaxL.keep {w w' : World} {B : Nat} (h : MaxL w) (hb : Below B w w') (hB : 0 < B) : MaxL w' := by
  obtain ⟨m, hm⟩ := h
  exact ⟨m, (hb.cell (p := ⟨0, 0, none⟩) hB).trans hm⟩
theorem MaxL.drew {w w' : World} (h : MaxL w) (hb : Drew w w') : MaxL w' := h.keep (B := 0 + 1) (hb.below _) (by omega)
theorem MaxL.size {w : World} (h : MaxL w) : 0 < w.heap.size := by
  obtain ⟨m, hm⟩ := h
  rcases Nat.lt_or_ge 0 w.heap.size with h1 | h1
  · exact h1
  · exfalso
    simp [World.cell?, Array.getElem?_eq_none h1] at hm

theorem idx_any (s : ByteArray) (c : UInt8) (w : World) (hs : s.data.toList = Pm.letters) :
    Calls Tryd.prog 72 #[.string s, .int .u8 (c.toNat : Int)] w fun e w' => e = .returned (.int .i64 (Lib.indexByte Pm.letters c)) ∧ w = w' := by
  refine (Tryd.strings_IndexByte s (c.toNat : Int) w).mono ?_
  rintro e w' ⟨rfl, rfl⟩
  refine ⟨?_, rfl⟩
  rw [hs]
  have : ((c.toNat : Int)).toNat.toUInt8 = c := by
    rw [Int.toNat_natCast]
    exact UInt8.ofNat_toNat
  rw [this]

theorem rcomp_any (s : ByteArray) (w : World) (hs : s.size ≤ maxLen) : Calls Tryd.prog 71 #[.string s] w fun e w' => e = .returned (.bool (Pm.comp s.data.toList)) ∧ w = w' := by
  unfold maxLen at hs
  have HC := Lib.hid (comp_eq s)
  generalize Pm.comp s.data.toList = b at HC
  by_cases h0 : s.toList = []
  · have h0' : (!s.toList.isEmpty) = false := by rw [h0]; rfl
    have hb : b = false := by rw [HC.out, h0']; rfl
    subst hb
    go_enter Tryd.func71, Tryd.ntmps71
    go_wp2
    go_ret
    exact ⟨rfl, rfl⟩
  · have h0' : (!s.toList.isEmpty) = true := by
      cases h : s.toList with
      | nil => exact absurd h h0
      | cons _ _ => rfl
    have hp : 0 < s.size := by
      rw [Lib.size_eq, ← Lib.toList_data]
      exact List.length_pos_iff.2 h0
    have hh : s.data.toList.headD 0 = s[0] := by
      rw [← list_get s 0 hp]
      exact head_get _ _
    rw [h0', hh] at HC
    have h0'' : s.toList.isEmpty = false := by simpa using h0'
    by_cases h46 : s[0] = 46
    · have hb : b = false := by rw [HC.out, h46]; rfl
      subst hb
      have t1 : ((s[0].toNat : Int) == 46) = true := by rw [h46]; rfl
      have H46 := Lib.hid h46
      clear h46
      go_enter Tryd.func71, Tryd.ntmps71
      go_wp2
      go_ret
      exact ⟨rfl, rfl⟩
    · have hb : b = s.data.toList.all Pm.nb := by
        rw [HC.out]
        have : (s[0] != 46) = true := by simpa using h46
        rw [this]; rfl
      have t1 : ((s[0].toNat : Int) == 46) = false := by
        rw [beq_eq_false_iff_ne]
        intro h
        exact h46 (UInt8.toNat_inj.1 (by have : (46 : UInt8).toNat = 46 := rfl; omega))
      clear HC
      have HB := Lib.hid hb
      clear hb h46
      go_enter Tryd.func71, Tryd.ntmps71
      go_wp2
      go_loop [3] (fun i => ∃ k : Nat, k ≤ s.size ∧ i = .int .i64 k ∧ (s.data.toList.drop k).all Pm.nb = b) (fun i => s.size - (intOf i).toNat)
      case atStart => exact ⟨0, Nat.zero_le _, rfl, HB.out.symm⟩
      case round =>
        obtain ⟨k, hk, rfl, hall⟩ := hrel
        have HA := Lib.hid hall
        clear hall
        by_cases hlt : k < s.size
        · have hl : k < s.data.toList.length := by rw [← Lib.size_eq]; exact hlt
          have hd := all_drop hl
          rw [list_get s k hlt] at hd
          have HD := Lib.hid hd
          clear hd
          have hx := Pm.letters_nb s[k]
          cases hn : Pm.nb s[k] with
          | true =>
            rw [hn] at hx
            have hx' : 0 ≤ Lib.indexByte Pm.letters s[k] := by simpa using hx
            clear hx
            go_wp2_with fail
            with_reducible refine (idx_any _ _ _ rfl).mono ?_
            rintro e w' ⟨rfl, rfl⟩
            go_wp2
            go_round
            case rel => exact ⟨k + 1, by omega, by go_num, by have := HD.out; rw [hn, HA.out] at this; simpa using this.symm⟩
            case measure => simp [intOf]; omega
          | false =>
            have hb : b = false := by have := HD.out; rw [hn, HA.out] at this; simpa using this
            subst hb
            rw [hn] at hx
            have hx' : Lib.indexByte Pm.letters s[k] < 0 := by simpa using hx
            clear hx
            go_wp2_with fail
            with_reducible refine (idx_any _ _ _ rfl).mono ?_
            rintro e w' ⟨rfl, rfl⟩
            go_wp2
            go_ret
            exact ⟨rfl, rfl⟩
        · have hb : b = true := by
            rw [← HA.out, List.drop_of_length_le (by rw [← Lib.size_eq]; omega)]
            rfl
          subst hb
          go_wp2
          go_ret
          exact ⟨rfl, rfl⟩

/-- What strings.Cut at a separator hands back. -/
def CutRes (w : World) (l : List UInt8) (e : Ending) (w' : World) : Prop :=
  e = .returned (.tuple #[.string ⟨(Lib.cut l [47]).1.toArray⟩, .string ⟨(Lib.cut l [47]).2.1.toArray⟩, .bool (Lib.cut l [47]).2.2]) ∧ Drew w w'
theorem cut_any (s : ByteArray) (w : World) (sep : ByteArray) (hsep : sep.data.toList = [47]) (hs : s.size < 4294967281) (hm : MaxL w) : Calls Tryd.prog 116 #[.string s, .string sep] w (CutRes w s.data.toList) := by
  obtain ⟨m, hm⟩ := hm
  refine (Tryd.strings_Cut s sep m w hs hm).mono ?_
  rintro e w' ⟨rfl, h⟩
  rw [hsep]
  exact ⟨rfl, h⟩
theorem cutp_any (s p : ByteArray) (w : World) :
    Calls Tryd.prog 63 #[.string s, .string p] w fun e w' => e = .returned (.tuple #[.string ⟨(Lib.trimPrefix s.data.toList p.data.toList).toArray⟩, .bool (Lib.hasPrefix s.data.toList p.data.toList)]) ∧ w = w' := by
  refine (Tryd.strings_CutPrefix s p w).mono ?_
  rintro e w' ⟨rfl, rfl⟩
  exact ⟨rfl, rfl⟩

def strLen : Value → Nat | .string x => x.size | _ => 0
def boolNum : Value → Nat | .bool true => 1 | _ => 0
theorem size_mk (l : List UInt8) : (ByteArray.mk l.toArray).size = l.length := by simp [ByteArray.size]
def DepthRes (w : World) (l : List UInt8) (e : Ending) (w' : World) : Prop := e = .returned (.int .i64 (Pm.depth l)) ∧ Drew w w'
theorem trim_le (l p : List UInt8) : (Lib.trimPrefix l p).length ≤ l.length := by
  unfold Lib.trimPrefix
  split <;> simp
theorem depth_any (s : ByteArray) (w : World) (hs : s.size < 4294967281) (hm : MaxL w) : Calls Tryd.prog 100 #[.string s] w (DepthRes w s.data.toList) := by
  have HS := Lib.hid (Pm.goDepth_start s.data.toList)
  have hl : (Lib.trimPrefix s.data.toList [47, 47]).length ≤ s.size := by
    rw [Lib.size_eq]
    exact trim_le _ _
  unfold DepthRes
  generalize Pm.depth s.data.toList = D at HS
  go_enter Tryd.func100, Tryd.ntmps100
  go_wp2_with fail
  with_reducible refine (cutp_any _ _ _).mono ?_
  rintro e w' ⟨rfl, rfl⟩
  have e2 : (ByteArray.mk #[47, 47]).data.toList = [47, 47] := rfl
  rw [e2]
  clear e2
  generalize Lib.trimPrefix s.data.toList [47, 47] = r0 at HS hl
  generalize Lib.hasPrefix s.data.toList [47, 47] = b0 at HS
  go_wp2
  go_loopw [3, 4, 5] (fun rest more count wr => ∃ (r : List UInt8) (b : Bool) (c : Nat), rest = .string ⟨r.toArray⟩ ∧ more = .bool b ∧ count = .int .i64 c ∧ Pm.goDepth c r b = D ∧ c + r.length + (if b then 1 else 0) ≤ s.size + 1 ∧ Drew w wr)
    (fun rest more _ _ => strLen rest + boolNum more)
  case atStart => exact ⟨r0, b0, 0, rfl, rfl, rfl, HS.out, by split <;> omega, Drew.refl _⟩
  case round =>
    obtain ⟨r, b, c, rfl, rfl, rfl, hg, hc, hd⟩ := hrel
    have HG := Lib.hid hg
    clear hg
    cases b with
    | false =>
      have hD : c = D := HG.out
      subst hD
      go_wp2
      go_ret
      exact ⟨rfl, hd⟩
    | true =>
      have HC := Lib.hid (Pm.goDepth_cut c r)
      rw [HG.out] at HC
      have h1 := Pm.cut_less r
      have h2 := Pm.cut_le r
      simp only [if_true] at hc
      have hm2 := hm.drew hd
      go_wp2_with fail
      with_reducible refine (cut_any _ _ _ rfl ?_ hm2).mono ?_
      · rw [size_mk]; omega
      rintro e w1 ⟨rfl, hd1⟩
      have e2 : (ByteArray.mk r.toArray).data.toList = r := rfl
      rw [e2]
      clear e2 hm2
      generalize (Lib.cut r [47]).1 = x at HC h2
      generalize (Lib.cut r [47]).2.1 = r' at HC h1 h2
      generalize (Lib.cut r [47]).2.2 = b' at HC h1
      go_wp2_with fail
      with_reducible refine (comp_any _ _ ?_).mono ?_
      · rw [size_mk]; unfold maxLen; omega
      rintro e w' ⟨rfl, rfl⟩
      have e2 : (ByteArray.mk x.toArray).data.toList = x := rfl
      rw [e2]
      clear e2
      cases hx : Pm.comp x with
      | true =>
        rw [hx, if_pos rfl] at HC
        go_wp2
        go_roundw
        case rel => exact ⟨r', b', c + 1, rfl, rfl, by go_num, HC.out.symm, by cases b' <;> simp at h1 ⊢ <;> omega, hd.trans hd1⟩
        case measure =>
          show strLen (.string ⟨r'.toArray⟩) + boolNum (.bool b') < strLen (.string ⟨r.toArray⟩) + boolNum (.bool true)
          simp only [strLen, size_mk]
          cases b' <;> simp [boolNum] at h1 ⊢ <;> omega
      | false =>
        rw [hx] at HC
        have hD : D = 0 := HC.out
        subst hD
        go_wp2
        go_ret
        exact ⟨rfl, hd.trans hd1⟩

/-- A bool, and draws. -/
def GivesB (w : World) (b : Bool) (e : Ending) (w' : World) : Prop := e = .returned (.bool b) ∧ Drew w w'
theorem valid_any (s : ByteArray) (w : World) (hs : s.size < 4294967281) (hm : MaxL w) : Calls Tryd.prog 84 #[.string s] w (GivesB w (Pm.valid s.data.toList)) := by
  have hv : Pm.valid s.data.toList = decide (2 ≤ Pm.depth s.data.toList) := rfl
  have HD := Lib.hid (depth_any s w hs hm)
  unfold DepthRes at HD
  generalize Pm.valid s.data.toList = v at hv
  generalize Pm.depth s.data.toList = d at hv HD
  have HV := Lib.hid hv
  clear hv
  go_enter Tryd.func84, Tryd.ntmps84
  go_wp2_with fail
  with_reducible refine HD.out.mono ?_
  rintro e w1 ⟨rfl, hd1⟩
  go_wp2
  go_ret
  refine ⟨ret_bool ?_, hd1⟩
  rw [HV.out]
  rw [decide_eq_decide]
  omega

end Go.Proofs.YtihboibebhokbaaDoor
