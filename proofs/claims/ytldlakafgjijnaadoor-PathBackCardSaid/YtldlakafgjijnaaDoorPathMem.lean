/- Words for slices of strings in memory; the contracts of strings.Join, the reference's Join, path.Join, same. -/
import Derived.Test.YtldlakafgjijnaaDoorPathLaw
import Derived.WalkSpells
namespace Go.Proofs.YtldlakafgjijnaaDoor
open Go.RowKit

/-- The bytes of strings. -/
def bs (xs : List ByteArray) : List (List UInt8) := xs.map fun x => x.data.toList
theorem bs_length (xs : List ByteArray) : (bs xs).length = xs.length := by simp [bs]
theorem bs_get (xs : List ByteArray) (k : Nat) (h : k < xs.length) : (bs xs)[k]'(by rw [bs_length]; exact h) = xs[k].data.toList := by simp [bs]
theorem bs_inj {xs ys : List ByteArray} (h : bs xs = bs ys) : xs = ys := by
  apply List.ext_getElem
  · rw [← bs_length xs, h, bs_length]
  · intro i h1 h2
    apply ba_ext
    rw [← bs_get xs i h1, ← bs_get ys i h2]
    simp only [h]

/-- The cells from the address on are these strings, in a block ahead of block B. -/
def RdS (w : World) (B : Nat) (A : Option Addr) (xs : List ByteArray) : Prop :=
  xs = [] ∨ ∃ g o, A = some ⟨g, o, none⟩ ∧ g < B ∧ ∀ j (h : j < xs.length), w.cell? ⟨g, o + j, none⟩ = some (.string xs[j])
theorem RdS.keep {w w' : World} {B : Nat} {A : Option Addr} {xs : List ByteArray} (h : RdS w B A xs) (hb : Below B w w') : RdS w' B A xs := by
  rcases h with h | ⟨g, o, hA, hg, hc⟩
  · exact .inl h
  · exact .inr ⟨g, o, hA, hg, fun j hj => (hb.cell (p := ⟨g, o + j, none⟩) hg).trans (hc j hj)⟩
theorem RdS.more {w : World} {B B' : Nat} {A : Option Addr} {xs : List ByteArray} (h : RdS w B A xs) (hB : B ≤ B') : RdS w B' A xs := by
  rcases h with h | ⟨g, o, hA, hg, hc⟩
  · exact .inl h
  · exact .inr ⟨g, o, hA, by omega, hc⟩
theorem RdS.take {w : World} {B : Nat} {A : Option Addr} {xs : List ByteArray} (h : RdS w B A xs) (k : Nat) : RdS w B A (xs.take k) := by
  rcases h with rfl | ⟨g, o, hA, hg, hc⟩
  · left; simp
  · refine .inr ⟨g, o, hA, hg, fun j hj => ?_⟩
    simp only [List.length_take] at hj
    rw [List.getElem_take]
    exact hc j (by omega)
theorem RdS.cells {w : World} {B : Nat} {A : Option Addr} {xs : List ByteArray} (h : RdS w B A xs) (hl : 0 < xs.length) : ∃ g o, A = some ⟨g, o, none⟩ ∧ g < B ∧ ∀ j (h : j < xs.length), w.cell? ⟨g, o + j, none⟩ = some (.string xs[j]) := by
  rcases h with rfl | h
  · simp at hl
  · exact h

/-- A string, and new memory at most. -/
def GivesS (w : World) (l : List UInt8) (e : Ending) (w' : World) : Prop := e = .returned (.string ⟨l.toArray⟩) ∧ Below w.heap.size w w'
def GivesS2 (w : World) (l : List UInt8) (n : Nat) (e : Ending) (w' : World) : Prop := e = .returned (.tuple #[.string ⟨l.toArray⟩, .int .i64 (n : Int)]) ∧ Below w.heap.size w w'

theorem sjoin_any (A : Option Addr) (xs : List ByteArray) (c : Nat) (sep : ByteArray) (w : World) (hr : RdS w w.heap.size A xs) (hc : xs.length ≤ c) (hsep : sep.data.toList = [47])
    (hlen : (Lib.join (bs xs) [47]).length ≤ 140737488355328) (hN : xs.length ≤ 140737488355328) :
    Calls Tryd.prog 33 #[.slice A xs.length c, .string sep] w (GivesS w (Lib.join (bs xs) [47])) := by
  rcases hr with rfl | ⟨g, o, rfl, hg, hcell⟩
  · refine (Tryd.strings_Join_none A c sep w).mono ?_
    rintro e w' ⟨rfl, rfl⟩
    exact ⟨rfl, Below.refl _ _⟩
  · refine (Tryd.strings_Join g o c xs sep w ?_ hg hN hc (by rw [hsep]; exact hlen)).mono ?_
    · intro j x hx
      obtain ⟨hj, rfl⟩ := List.getElem?_eq_some_iff.1 hx
      exact hcell j hj
    · rintro e w' ⟨rfl, hb⟩
      rw [hsep]
      exact ⟨rfl, hb⟩

theorem slash2 (l : List UInt8) : (ByteArray.mk #[47, 47]) ++ (ByteArray.mk l.toArray) = ⟨(47 :: 47 :: l).toArray⟩ := by
  apply ba_ext
  simp [ByteArray.data_append]
theorem ret_str {a b : ByteArray} (h : a = b) : Ending.returned (.string a) = .returned (.string b) := by rw [h]
theorem ret_str2 {a b : ByteArray} {x y : Int} (h : a = b) (h2 : x = y) : Ending.returned (.tuple #[.string a, .int .i64 x]) = .returned (.tuple #[.string b, .int .i64 y]) := by rw [h, h2]

theorem rjoin_any (A : Option Addr) (xs : List ByteArray) (c : Nat) (w : World) (hr : RdS w w.heap.size A xs) (hc : xs.length ≤ c) (hlen : (Lib.join (bs xs) [47]).length ≤ 140737488355000) (hN : xs.length ≤ 140737488355328) :
    Calls Tryd.prog 20 #[.slice A xs.length c] w (GivesS w (Pm.join (bs xs))) := by
  have HJ := Lib.hid (sjoin_any A xs c ⟨#[47]⟩ w hr hc rfl (by omega) hN)
  have hj : Pm.join (bs xs) = 47 :: 47 :: Lib.join (bs xs) [47] := rfl
  rw [hj]
  clear hj hr hc
  generalize Lib.join (bs xs) [47] = l at HJ hlen
  generalize xs.length = n at HJ hN
  go_enter Tryd.func20, Tryd.ntmps20
  go_wp2_with fail
  with_reducible refine HJ.out.mono ?_
  rintro e w1 ⟨rfl, hb⟩
  go_wp2
  go_ret
  exact ⟨ret_str (slash2 l), hb⟩

def joinOk (l : List (List UInt8)) : Bool := decide (2 ≤ l.length) && l.all Pm.comp
/-- .. and path.Join: no path. -/
def NoPath (w : World) (n : Nat) (e : Ending) (w' : World) : Prop := e = .returned (.tuple #[.string ⟨#[]⟩, .int .i64 (n : Int)]) ∧ w = w'
theorem bs_drop {xs : List ByteArray} {k : Nat} (h : k < xs.length) : ((bs xs).drop k).all Pm.comp = (Pm.comp xs[k].data.toList && ((bs xs).drop (k + 1)).all Pm.comp) := by
  rw [List.drop_eq_getElem_cons (by rw [bs_length]; exact h), List.all_cons, bs_get xs k h]

/-- What path.Join hands back. -/
def JoinRes (w : World) (ok : Bool) (l : List UInt8) (e : Ending) (w' : World) : Prop :=
  e = .returned (.tuple #[.string (if ok then ⟨l.toArray⟩ else ⟨#[]⟩), .int .i64 ((if ok then 0 else 21 : Nat) : Int)]) ∧ Below w.heap.size w w'

theorem pjoin_any (A : Option Addr) (xs : List ByteArray) (c : Nat) (w : World) (hr : RdS w w.heap.size A xs) (hc : xs.length ≤ c) (hlen : (Lib.join (bs xs) [47]).length ≤ 140737488355000) (hN : xs.length ≤ 140737488355328)
    (hx : ∀ x ∈ xs, x.size ≤ maxLen) : Calls Tryd.prog 27 #[.slice A xs.length c] w (JoinRes w (joinOk (bs xs)) (Pm.join (bs xs))) := by
  have HJ := Lib.hid (sjoin_any A xs c ⟨#[47]⟩ w hr hc rfl (by omega) hN)
  have hj : Pm.join (bs xs) = 47 :: 47 :: Lib.join (bs xs) [47] := rfl
  rw [hj]
  clear hj
  generalize Lib.join (bs xs) [47] = l at HJ hlen
  unfold JoinRes
  by_cases h2 : xs.length < 2
  · have hk : joinOk (bs xs) = false := by
      unfold joinOk
      rw [decide_eq_false (by rw [bs_length]; omega)]
      rfl
    rw [hk]
    generalize xs.length = n at *
    go_enter Tryd.func27, Tryd.ntmps27
    go_wp2
    go_ret2
    exact ⟨rfl, Below.refl _ _⟩
  · have hk : joinOk (bs xs) = (bs xs).all Pm.comp := by
      unfold joinOk
      rw [decide_eq_true (by rw [bs_length]; omega)]
      rfl
    obtain ⟨g, o, rfl, hg, hcell⟩ := hr.cells (by omega)
    rw [hk]
    have HA := Lib.hid (show ((bs xs).drop 0).all Pm.comp = (bs xs).all Pm.comp by simp)
    clear hk
    generalize (bs xs).all Pm.comp = b at HA
    have HX := Lib.hid hx
    have HC := Lib.hid hcell
    clear hx hcell hr
    obtain ⟨n, hn⟩ : ∃ n, n = xs.length := ⟨_, rfl⟩
    rw [← hn] at HJ h2 hN hc ⊢
    have HN := Lib.hid hn
    clear hn
    go_enter Tryd.func27, Tryd.ntmps27
    go_wp2
    go_loop [11] (fun i => ∃ k : Nat, k ≤ n ∧ i = .int .i64 k ∧ ((bs xs).drop k).all Pm.comp = b) (fun i => n - (intOf i).toNat)
    case atStart => exact ⟨0, by omega, rfl, HA.out⟩
    case round =>
      obtain ⟨k, hkn, rfl, hall⟩ := hrel
      have HB := Lib.hid hall
      clear hall
      by_cases hlt : k < n
      · have hlx : k < xs.length := by rw [← HN.out]; exact hlt
        have hcell := HC.out k hlx
        have hsz : xs[k].size ≤ maxLen := HX.out _ (List.getElem_mem hlx)
        have HD := Lib.hid (bs_drop hlx)
        generalize xs[k] = x at hcell hsz HD
        have HCo := Lib.hid (fun w : World => comp_any x w hsz)
        clear hsz
        cases hv : Pm.comp x.data.toList with
        | true =>
          rw [hv] at HCo HD
          go_wp2_with fail
          with_reducible refine (HCo.out _).mono ?_
          rintro e w' ⟨rfl, rfl⟩
          go_wp2
          go_round
          case rel => exact ⟨k + 1, by omega, by go_num, by have := HD.out; rw [HB.out] at this; simpa using this.symm⟩
          case measure => simp [intOf]; omega
        | false =>
          rw [hv] at HCo HD
          have hb : b = false := by have := HD.out; rw [HB.out] at this; simpa using this
          subst hb
          go_wp2_with fail
          with_reducible refine (HCo.out _).mono ?_
          rintro e w' ⟨rfl, rfl⟩
          go_wp2
          go_ret2
          exact ⟨rfl, Below.refl _ _⟩
      · have hb : b = true := by
          rw [← HB.out, List.drop_of_length_le (by rw [bs_length, ← HN.out]; omega)]
          rfl
        subst hb
        go_wp2_with fail
        with_reducible refine HJ.out.mono ?_
        rintro e w1 ⟨rfl, hb⟩
        go_wp2
        go_ret2
        exact ⟨ret_str2 (slash2 l) rfl, hb⟩

theorem take_eq_succ {xs ys : List ByteArray} {k : Nat} (h1 : k < xs.length) (h2 : k < ys.length) (h : xs.take k = ys.take k) : xs.take (k + 1) = ys.take (k + 1) ↔ xs[k] = ys[k] := by
  rw [List.take_succ_eq_append_getElem h1, List.take_succ_eq_append_getElem h2, h]
  simp only [List.append_cancel_left_eq, List.cons.injEq, and_true]

theorem same_any (A B : Option Addr) (xs ys : List ByteArray) (c d BA BB : Nat) (w : World) (ha : RdS w BA A xs) (hb : RdS w BB B ys) (h1 : xs.length ≤ maxLen) (hc : xs.length ≤ c) (hd : ys.length ≤ d) (h2 : ys.length ≤ maxLen) :
    Calls Tryd.prog 16 #[.slice A xs.length c, .slice B ys.length d] w (GivesB w (decide (xs = ys))) := by
  unfold maxLen at h1 h2
  by_cases hl : xs.length = ys.length
  · by_cases h0 : xs.length = 0
    · have e1 : xs = [] := List.eq_nil_of_length_eq_zero h0
      have e2 : ys = [] := List.eq_nil_of_length_eq_zero (by omega)
      subst e1 e2
      clear ha hb hl h0
      go_enter Tryd.func16, Tryd.ntmps16
      go_wp2
      go_loop [13] (fun i => i = .int .i64 (0 : Nat)) (fun _ => 0)
      case atStart => rfl
      case round =>
        obtain rfl := hrel
        go_wp2
        go_ret
        exact ⟨rfl, Drew.refl _⟩
    · obtain ⟨g, o, rfl, hg, hca⟩ := ha.cells (by omega)
      obtain ⟨g', o', rfl, hg', hcb⟩ := hb.cells (by omega)
      have HA := Lib.hid hca
      have HB := Lib.hid hcb
      have HL := Lib.hid hl
      obtain ⟨n, hn⟩ : ∃ n, n = xs.length := ⟨_, rfl⟩
      have hn2 : ys.length = n := by omega
      rw [hn2] at hd h2 ⊢
      rw [← hn] at hc h1 ⊢
      have HN := Lib.hid hn
      have HN2 := Lib.hid hn2
      have HE := Lib.hid (show decide (xs = ys) = decide (xs = ys) from rfl)
      generalize hv : decide (xs = ys) = v
      have HV := Lib.hid hv
      clear hca hcb ha hb hl h0 hn hn2 HE hv
      go_enter Tryd.func16, Tryd.ntmps16
      go_wp2
      go_loopw [13] (fun i wr => ∃ k : Nat, k ≤ n ∧ i = .int .i64 k ∧ xs.take k = ys.take k ∧ Drew w wr) (fun i _ => n - (intOf i).toNat)
      case atStart => exact ⟨0, by omega, rfl, by simp, Drew.refl _⟩
      case round =>
        obtain ⟨k, hkn, rfl, htk, hdr⟩ := hrel
        have HT := Lib.hid htk
        clear htk
        by_cases hlt : k < n
        · have l1 : k < xs.length := by rw [← HN.out]; exact hlt
          have l2 : k < ys.length := by rw [HN2.out]; exact hlt
          have c1 : wr.cell? ⟨g, o + k, none⟩ = some (.string xs[k]) := ((hdr.below (g + 1)).cell (p := ⟨g, o + k, none⟩) (by simp)).trans (HA.out k l1)
          have c2 : wr.cell? ⟨g', o' + k, none⟩ = some (.string ys[k]) := ((hdr.below (g' + 1)).cell (p := ⟨g', o' + k, none⟩) (by simp)).trans (HB.out k l2)
          have HS := Lib.hid (take_eq_succ l1 l2 HT.out)
          by_cases he : xs[k] = ys[k]
          · have HT2 := Lib.hid (HS.out.2 he)
            have t1 : (xs[k].toList == ys[k].toList) = true := by rw [he]; simp
            have t2 : (xs[k].toList != ys[k].toList) = false := by rw [he]; simp
            clear HS
            have HE := Lib.hid he
            clear he
            generalize xs[k] = x at *
            generalize ys[k] = y at *
            go_wp2
            go_quiet (fail)
            go_wp2
            go_roundw
            case rel => exact ⟨k + 1, by omega, by go_num, HT2.out, hdr.trans ⟨_, rfl⟩⟩
            case measure => simp [intOf]; omega
          · have hv : v = false := by
              rw [← HV.out, decide_eq_false_iff_not]
              rintro rfl
              exact he rfl
            subst hv
            have hne : xs[k].toList ≠ ys[k].toList := by
              rw [Lib.toList_data, Lib.toList_data]
              exact fun h => he (ba_ext h)
            have t1 : (xs[k].toList == ys[k].toList) = false := by rw [beq_eq_false_iff_ne]; exact hne
            have t2 : (xs[k].toList != ys[k].toList) = true := by simpa using hne
            clear HS he hne
            generalize xs[k] = x at *
            generalize ys[k] = y at *
            go_wp2
            go_quiet (fail)
            go_wp2
            go_ret
            exact ⟨rfl, hdr.trans ⟨_, rfl⟩⟩
        · have hv : v = true := by
            rw [← HV.out, decide_eq_true_iff]
            have := HT.out
            rwa [List.take_of_length_le (by rw [← HN.out]; omega), List.take_of_length_le (by rw [HN2.out]; omega)] at this
          subst hv
          go_wp2
          go_ret
          exact ⟨rfl, hdr⟩
  · have hv : decide (xs = ys) = false := by
      rw [decide_eq_false_iff_not]
      rintro rfl
      exact hl rfl
    rw [hv]
    have t1 : ((xs.length : Int) == (ys.length : Int)) = false := by rw [beq_eq_false_iff_ne]; omega
    have t2 : ((xs.length : Int) != (ys.length : Int)) = true := by simpa using (show (xs.length : Int) ≠ ys.length by omega)
    clear hv hl ha hb
    generalize xs.length = n at *
    generalize ys.length = m at *
    go_enter Tryd.func16, Tryd.ntmps16
    go_wp2
    go_ret
    exact ⟨rfl, Drew.refl _⟩
end Go.Proofs.YtldlakafgjijnaaDoor
