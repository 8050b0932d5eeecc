/- The contracts of what splits: strings.Split at a separator, the reference's Parts and Path, path.Split. -/
import Derived.Test.YtihboibebhokbaaDoorPathMem
namespace Go.Proofs.YtihboibebhokbaaDoor
open Go.RowKit

/-- A slice of strings of the call's own, new memory at most: its strings' bytes are l. -/
def Strs (w : World) (l : List (List UInt8)) (v : Value) (w' : World) : Prop :=
  ∃ (A : Option Addr) (xs : List ByteArray) (c : Nat), v = .slice A xs.length c ∧ bs xs = l ∧ xs.length ≤ c ∧ c ≤ maxLen ∧ RdS w' w'.heap.size A xs ∧ Below w.heap.size w w'
def GivesL (w : World) (l : List (List UInt8)) (e : Ending) (w' : World) : Prop := ∃ v, e = .returned v ∧ Strs w l v w'

theorem segs_le (l : List UInt8) : (Pm.segs l).length ≤ l.length + 1 := by
  induction l with
  | nil => simp [Pm.segs]
  | cons c r ih =>
    rw [Pm.segs]
    have := Pm.segs_length r
    split <;> simp <;> omega

theorem split_any (s sep : ByteArray) (w : World) (hsep : sep.data.toList = [47]) (hs : s.size < 4294967281) (hm : MaxL w) : Calls Tryd.prog 64 #[.string s, .string sep] w (GivesL w (Pm.segs s.data.toList)) := by
  obtain ⟨m, hm⟩ := hm
  have h1 : 1 ≤ sep.size := by rw [Lib.size_eq, hsep]; simp
  refine (Tryd.strings_Split s sep m w hs hm h1).mono ?_
  rintro e w' ⟨rfl, rfl⟩
  have hb : bs (Lib.splitB sep 0 (Lib.countB s sep) s) = Pm.segs s.data.toList := by
    show (Lib.splitB sep 0 (Lib.countB s sep) s).map (fun x => x.data.toList) = _
    rw [Lib.splitB_data, hsep]
    show Lib.splitK [47] 0 (Lib.count s.data.toList sep.data.toList) s.data.toList = _
    rw [hsep]
    exact Pm.splitK_segs _ _ (Nat.le_refl _)
  have hn : (Lib.splitB sep 0 (Lib.countB s sep) s).length = Lib.countB s sep + 1 := Lib.splitB_all sep h1 0 _ s rfl
  refine ⟨_, rfl, some ⟨w.heap.size, 0, none⟩, Lib.splitB sep 0 (Lib.countB s sep) s, Lib.countB s sep + 1, by rw [hn], hb, by omega, ?_, ?_, (Below.refl _ _).alloc (Nat.le_refl _) _⟩
  · have h2 := segs_le s.data.toList
    rw [← hb, bs_length, hn, ← Lib.size_eq] at h2
    unfold maxLen
    omega
  · refine .inr ⟨w.heap.size, 0, rfl, by simp, fun j hj => ?_⟩
    rw [cell_of_row _ _ _ _ _ (0, 0) (heap_alloc_new w _)]
    simp [List.getElem?_eq_getElem hj]

theorem hasp_any (s p : ByteArray) (w : World) : Calls Tryd.prog 110 #[.string s, .string p] w fun e w' => e = .returned (.bool (Lib.hasPrefix s.data.toList p.data.toList)) ∧ w = w' := by
  refine (Tryd.strings_HasPrefix s p w).mono ?_
  rintro e w' ⟨rfl, rfl⟩
  exact ⟨rfl, rfl⟩

/-- What Parts and Path of the reference hand back: the components, or none. -/
def GivesP (w : World) (o : Option (List (List UInt8))) (e : Ending) (w' : World) : Prop :=
  match o with
  | none => e = .returned (.tuple #[.slice none 0 0, .bool false]) ∧ Below w.heap.size w w'
  | some l => ∃ v, e = .returned (.tuple #[v, .bool true]) ∧ Strs w l v w'

theorem drop_two (s : ByteArray) : (s.extract 2 s.size).data.toList = s.data.toList.drop 2 := by
  rw [Lib.extract_data, List.take_of_length_le]
  rw [List.length_drop, ← Lib.size_eq]
  exact Nat.le_refl _
theorem prefix_le {s : ByteArray} (h : Lib.hasPrefix s.data.toList [47, 47] = true) : 2 ≤ s.size := by
  unfold Lib.hasPrefix at h
  have := (List.isPrefixOf_iff_prefix.1 h).length_le
  rw [Lib.size_eq]
  simpa using this

theorem segs_elem_le : ∀ (l : List UInt8), ∀ x ∈ Pm.segs l, x.length ≤ l.length
  | [], x, hx => by
    simp [Pm.segs] at hx
    subst hx
    simp
  | c :: r, x, hx => by
    rw [Pm.segs] at hx
    have ih := segs_elem_le r
    rw [Pm.segs_cons r] at ih
    split at hx
    · rcases List.mem_cons.1 hx with rfl | hx
      · simp
      · rw [Pm.segs_cons r] at hx
        have := ih x hx
        simp
        omega
    · rcases List.mem_cons.1 hx with rfl | hx
      · have := ih _ (List.mem_cons_self ..)
        rw [List.length_cons, List.length_cons]
        omega
      · have := ih x (List.mem_cons_of_mem _ hx)
        simp
        omega

theorem rparts_any (s : ByteArray) (w : World) (hs : s.size < 4294967281) (hm : MaxL w) : Calls Tryd.prog 93 #[.string s] w (GivesP w (Pm.parts s.data.toList)) := by
  have HH := Lib.hid (fun w : World => hasp_any s ⟨#[47, 47]⟩ w)
  have e0 : (ByteArray.mk #[47, 47]).data.toList = [47, 47] := rfl
  rw [e0] at HH
  clear e0
  have hp : Pm.parts s.data.toList = if Lib.hasPrefix s.data.toList [47, 47] && (Pm.segs (s.data.toList.drop 2)).all Pm.comp then some (Pm.segs (s.data.toList.drop 2)) else none := rfl
  generalize Pm.parts s.data.toList = o at hp
  cases hv : Lib.hasPrefix s.data.toList [47, 47] with
  | false =>
    rw [hv] at HH hp
    obtain rfl : o = none := by rw [hp]; rfl
    clear hv hp
    go_enter Tryd.func93, Tryd.ntmps93
    go_wp2_with fail
    with_reducible refine (HH.out _).mono ?_
    rintro e w' ⟨rfl, rfl⟩
    go_wp2
    go_ret2
    exact ⟨rfl, Below.refl _ _⟩
  | true =>
    have h2 := prefix_le hv
    rw [hv, Bool.true_and] at hp
    rw [hv] at HH
    have hsl : (s.extract 2 s.size).size < 4294967281 := by rw [ByteArray.size_extract]; omega
    have HS := Lib.hid (split_any (s.extract 2 s.size) ⟨#[47]⟩ w rfl hsl hm)
    rw [drop_two] at HS
    have HLE := Lib.hid (segs_le (s.data.toList.drop 2))
    rw [List.length_drop, ← Lib.size_eq] at HLE
    have HLEN := Lib.hid (segs_elem_le (s.data.toList.drop 2))
    rw [List.length_drop, ← Lib.size_eq] at HLEN
    generalize Pm.segs (s.data.toList.drop 2) = l at HS HLE HLEN hp
    have HP := Lib.hid hp
    have HSZ := Lib.hid hs
    clear hv hsl hp hs
    have h2i : (2 : Int) ≤ (s.size : Int) := by omega
    go_enter Tryd.func93, Tryd.ntmps93
    go_wp2_with fail
    with_reducible refine (HH.out _).mono ?_
    rintro e w' ⟨rfl, rfl⟩
    go_wp2_with fail
    with_reducible refine HS.out.mono ?_
    rintro e w1 ⟨v, rfl, A, xs, c, rfl, hbx, hc, hcm, hr, hb⟩
    have HBX := Lib.hid hbx
    have HR := Lib.hid hr
    have HB := Lib.hid hb
    have HCM := Lib.hid hcm
    have hn : xs.length = l.length := by rw [← hbx, bs_length]
    obtain ⟨n, hnn⟩ : ∃ n, n = xs.length := ⟨_, rfl⟩
    have hnl : (n : Int) ≤ 4294967300 := by have := HLE.out; have := HSZ.out; omega
    rw [← hnn] at hc ⊢
    have HN := Lib.hid hnn
    have hcell : 0 < n → ∃ g o, A = some ⟨g, o, none⟩ ∧ ∀ j (h : j < xs.length), w1.cell? ⟨g, o + j, none⟩ = some (.string xs[j]) := by
      intro h
      obtain ⟨g, o, h1, _, h2⟩ := HR.out.cells (by rw [← HN.out]; exact h)
      exact ⟨g, o, h1, h2⟩
    have HC := Lib.hid hcell
    have HX := Lib.hid (show ∀ j (h : j < xs.length), xs[j].size ≤ maxLen from by
      intro j h
      have := HLEN.out xs[j].data.toList (by rw [← HBX.out, ← bs_get xs j h]; exact List.getElem_mem _)
      rw [← Lib.size_eq] at this
      have := HSZ.out
      unfold maxLen
      omega)
    clear hbx hr hb hn hnn hcell hcm
    go_wp2
    go_loop [15] (fun i => ∃ k : Nat, k ≤ n ∧ i = .int .i64 k ∧ ((bs xs).drop k).all Pm.comp = l.all Pm.comp) (fun i => n - (intOf i).toNat)
    case atStart => exact ⟨0, by omega, rfl, by rw [HBX.out]; simp⟩
    case round =>
      obtain ⟨k, hkn, rfl, hall⟩ := hrel
      have HA := Lib.hid hall
      clear hall
      by_cases hlt : k < n
      · have hlx : k < xs.length := by rw [← HN.out]; exact hlt
        obtain ⟨g, o', rfl, hcell⟩ := HC.out (by omega)
        have hce := hcell k hlx
        have hsz := HX.out k hlx
        have HD := Lib.hid (bs_drop hlx)
        clear hcell
        generalize xs[k] = x at hce hsz HD
        have HCo := Lib.hid (fun w : World => rcomp_any x w hsz)
        clear hsz
        cases hv : Pm.comp x.data.toList with
        | true =>
          rw [hv] at HCo HD
          go_wp2_with fail
          with_reducible refine (HCo.out _).mono ?_
          rintro e w' ⟨rfl, rfl⟩
          go_wp2
          go_round
          case rel => exact ⟨k + 1, by omega, by go_num, by have := HD.out; rw [HA.out] at this; simpa using this.symm⟩
          case measure => simp [intOf]; omega
        | false =>
          rw [hv] at HCo HD
          have ho : o = none := by
            rw [HP.out, if_neg]
            rw [← HA.out, HD.out]
            simp
          subst ho
          go_wp2_with fail
          with_reducible refine (HCo.out _).mono ?_
          rintro e w' ⟨rfl, rfl⟩
          go_wp2
          go_ret2
          exact ⟨rfl, HB.out⟩
      · have ho : o = some l := by
          rw [HP.out, if_pos]
          rw [← HA.out, List.drop_of_length_le (by rw [bs_length, ← HN.out]; omega)]
          rfl
        subst ho
        go_wp2
        go_ret2
        refine ⟨.slice A n c, rfl, A, xs, c, ?_, HBX.out, by rw [← HN.out]; exact hc, HCM.out, HR.out, HB.out⟩
        exact congrArg (fun m => Value.slice A m c) HN.out
end Go.Proofs.YtihboibebhokbaaDoor
