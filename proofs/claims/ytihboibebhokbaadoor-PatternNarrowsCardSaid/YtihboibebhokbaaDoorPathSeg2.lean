/- The contracts of the reference's Path, and of path.Split, Parent, Name, Extension. -/
import Derived.Test.YtihboibebhokbaaDoorPathSeg
namespace Go.Proofs.YtihboibebhokbaaDoor
open Go.RowKit

/-- The components of a path, or none. -/
def pathO (p : List UInt8) : Option (List (List UInt8)) := if Pm.valid p then Pm.parts p else none
theorem pathO_none {p : List UInt8} (h : Pm.valid p = false) : pathO p = none := by unfold pathO; rw [h]; rfl
theorem pathO_some {p : List UInt8} (h : Pm.valid p = true) : pathO p = Pm.parts p := by unfold pathO; rw [h]; rfl

theorem rpath_any (s : ByteArray) (w : World) (hs : s.size < 4294967281) (hm : MaxL w) : Calls Tryd.prog 75 #[.string s] w (GivesP w (pathO s.data.toList)) := by
  have HP := Lib.hid (rparts_any s w hs hm)
  cases hp : Pm.parts s.data.toList with
  | none =>
    rw [pathO_none (Pm.valid_none hp)]
    rw [hp] at HP
    clear hp
    go_enter Tryd.func75, Tryd.ntmps75
    go_wp2_with fail
    with_reducible refine HP.out.mono ?_
    rintro e w1 ⟨rfl, hb⟩
    go_wp2
    go_ret2
    exact ⟨rfl, hb⟩
  | some l =>
    have hv := Pm.valid_some hp
    rw [hp] at HP
    by_cases h2 : 2 ≤ l.length
    · have ho : pathO s.data.toList = some l := by rw [pathO_some (by rw [hv]; simpa using h2), hp]
      rw [ho]
      clear ho hv hp
      go_enter Tryd.func75, Tryd.ntmps75
      go_wp2_with fail
      with_reducible refine HP.out.mono ?_
      rintro e w1 ⟨v, rfl, A, xs, c, rfl, hbx, hc, hcm, hr, hb⟩
      have hn : 2 ≤ xs.length := by rw [← bs_length, hbx]; exact h2
      have hni : ¬ ((xs.length : Int) < 2) := by omega
      have HS := Lib.hid (show Strs w l (.slice A xs.length c) w1 from ⟨A, xs, c, rfl, hbx, hc, hcm, hr, hb⟩)
      clear hbx hr hb hc hcm h2
      generalize xs.length = n at *
      go_wp2
      go_ret2
      exact ⟨_, rfl, HS.out⟩
    · have ho : pathO s.data.toList = none := pathO_none (by rw [hv]; simpa using h2)
      rw [ho]
      clear ho hv hp
      go_enter Tryd.func75, Tryd.ntmps75
      go_wp2_with fail
      with_reducible refine HP.out.mono ?_
      rintro e w1 ⟨v, rfl, A, xs, c, rfl, hbx, hc, hcm, hr, hb⟩
      have hn : xs.length < 2 := by rw [← bs_length, hbx]; omega
      have hni : ((xs.length : Int) < 2) := by omega
      have HB := Lib.hid hb
      clear hbx hr hb hc hcm h2
      generalize xs.length = n at *
      go_wp2
      go_ret2
      exact ⟨rfl, HB.out⟩

/-- What path.Split hands back. -/
def GivesSp (w : World) (o : Option (List (List UInt8))) (e : Ending) (w' : World) : Prop :=
  match o with
  | none => e = .returned (.tuple #[.slice none 0 0, .int .i64 20]) ∧ Below w.heap.size w w'
  | some l => ∃ v, e = .returned (.tuple #[v, .int .i64 0]) ∧ Strs w l v w'
theorem Strs.before {w w1 w2 : World} {l : List (List UInt8)} {v : Value} (h : Strs w1 l v w2) (hb : Below w.heap.size w w1) : Strs w l v w2 := by
  obtain ⟨A, xs, c, h1, h2, h3, h4, h5, h6⟩ := h
  exact ⟨A, xs, c, h1, h2, h3, h4, h5, hb.trans (h6.mono hb.size)⟩

theorem valid_segs {p : List UInt8} (h : Pm.valid p = true) : pathO p = some (Pm.segs (p.drop 2)) ∧ 2 ≤ p.length := by
  obtain ⟨l, n, h1, h2, h3, h4, h5⟩ := Pm.valid_parts h
  constructor
  · rw [pathO_some h]
    unfold Pm.parts at h4 ⊢
    split at h4
    · rename_i h6
      rw [if_pos h6]
    · cases h4
  · rw [h5]
    simp [Pm.join]

theorem split_path_any (s : ByteArray) (w : World) (hs : s.size < 4294967281) (hm : MaxL w) : Calls Tryd.prog 65 #[.string s] w (GivesSp w (pathO s.data.toList)) := by
  have HV := Lib.hid (valid_any s w hs hm)
  cases hv : Pm.valid s.data.toList with
  | false =>
    rw [pathO_none hv]
    rw [hv] at HV
    clear hv
    go_enter Tryd.func65, Tryd.ntmps65
    go_wp2_with fail
    with_reducible refine HV.out.mono ?_
    rintro e w1 ⟨rfl, hd⟩
    go_wp2
    go_ret2
    exact ⟨rfl, hd.below _⟩
  | true =>
    obtain ⟨ho, h2⟩ := valid_segs hv
    rw [ho]
    rw [hv] at HV
    have hsl : (s.extract 2 s.size).size < 4294967281 := by rw [ByteArray.size_extract]; omega
    have HS := Lib.hid (fun (w : World) (hm : MaxL w) => split_any (s.extract 2 s.size) ⟨#[47]⟩ w rfl hsl hm)
    rw [drop_two] at HS
    have h2i : (2 : Int) ≤ (s.size : Int) := by rw [Lib.size_eq]; omega
    generalize Pm.segs (s.data.toList.drop 2) = l at HS ⊢
    clear hv ho hsl h2
    go_enter Tryd.func65, Tryd.ntmps65
    go_wp2_with fail
    with_reducible refine HV.out.mono ?_
    rintro e w1 ⟨rfl, hd⟩
    go_wp2_with fail
    with_reducible refine (HS.out _ (hm.drew hd)).mono ?_
    rintro e w2 ⟨v, rfl, hst⟩
    have HST := Lib.hid hst
    clear hst
    go_wp2
    go_ret2
    exact ⟨_, rfl, HST.out.before (hd.below _)⟩

/-- A string, a number, and draws. -/
def GivesT (w : World) (l : List UInt8) (n : Nat) (e : Ending) (w' : World) : Prop := e = .returned (.tuple #[.string ⟨l.toArray⟩, .int .i64 (n : Int)]) ∧ Drew w w'
def dirOf (p : List UInt8) : List UInt8 := if Pm.valid p then p.take (p.length - 1 - (p.reverse.takeWhile (· != 47)).length) else []
theorem extract_take (s : ByteArray) (k : Nat) : (s.extract 0 k).data.toList = s.data.toList.take k := by rw [Lib.extract_data]; simp
theorem extract_drop (s : ByteArray) (k : Nat) : (s.extract k s.size).data.toList = s.data.toList.drop k := by
  rw [Lib.extract_data, List.take_of_length_le]
  rw [List.length_drop, ← Lib.size_eq]
  exact Nat.le_refl _

/-- The end of a name from its last "." on. -/
def extOf (n : List UInt8) : List UInt8 := if Lib.lastIndexByte ⟨n.toArray⟩ 46 < 0 then [] else n.drop (Lib.lastIndexByte ⟨n.toArray⟩ 46).toNat
theorem last_lt (s : ByteArray) (c : Int) : Lib.lastIndexByte s c = -1 ∨ ∃ i : Nat, Lib.lastIndexByte s c = i ∧ i < s.size := by
  rcases Lib.lastIndexByte_spec s c with ⟨h, _⟩ | ⟨i, h1, h2, _⟩
  · exact .inl h
  · exact .inr ⟨i, h2, h1⟩
end Go.Proofs.YtihboibebhokbaaDoor
