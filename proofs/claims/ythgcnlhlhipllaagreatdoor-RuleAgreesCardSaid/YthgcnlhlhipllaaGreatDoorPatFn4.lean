/- The contracts of small, of the reference's Kinds, wildcards, Same. -/
import Derived.Test.YthgcnlhlhipllaaGreatDoorPatFn3
namespace Go.Proofs.YthgcnlhlhipllaaGreatDoor
open Go.RowKit

/-- A bool, and new memory at most. -/
def GivesBB (w : World) (v : Bool) (e : Ending) (w' : World) : Prop := e = .returned (.bool v) ∧ Below w.heap.size w w'
def GivesNB (w : World) (n : Nat) (b : Bool) (e : Ending) (w' : World) : Prop := e = .returned (.tuple #[.int .i64 (n : Int), .bool b]) ∧ Below w.heap.size w w'
theorem stars_take {l : List (List UInt8)} {k : Nat} (h : k < l.length) : Pt.stars (l.take (k + 1)) = Pt.stars (l.take k) + if (Pt.star l[k]).isSome then 1 else 0 := by
  unfold Pt.stars
  rw [List.take_succ_eq_append_getElem h, List.filter_append, List.length_append]
  show _ = (List.filter Pt.isStar (List.take k l)).length + if Pt.isStar l[k] = true then 1 else 0
  by_cases hs : Pt.isStar l[k] = true
  · rw [List.filter_cons_of_pos hs, if_pos hs]; rfl
  · rw [List.filter_cons_of_neg hs, if_neg hs]; rfl
theorem stars_le (l : List (List UInt8)) : Pt.stars l ≤ l.length := List.length_filter_le _ _
theorem rkinds_any (A : Option Addr) (xs : List ByteArray) (c : Nat) (b : Bool) (p : Pt.Pat) (w : World) (hp : PatR w A xs c b p) : Calls Tryz.prog 86 #[patV A xs.length c b] w (GivesNB w (Pt.stars p.parts) p.rest) := by
  have halloc : Below w.heap.size w (w.alloc (.cells #[.slice A xs.length c, .bool b] 24)) := (Below.refl _ _).alloc (Nat.le_refl _) _
  have hcm := hp.cm
  have hle := hp.le
  unfold maxLen at hcm
  rw [← hp.parts, ← hp.rest]
  have HCE := Lib.hid (fun h => hp.rd.cells h)
  have HSZ := Lib.hid hp.sz
  have HST := Lib.hid (fun k => stars_le ((bs xs).take k))
  obtain ⟨n, hn⟩ : ∃ n, n = xs.length := ⟨_, rfl⟩
  rw [← hn] at hle halloc ⊢
  have HN := Lib.hid hn
  have hnn : (n : Int) ≤ 9223372036854775807 := by omega
  have HAL := Lib.hid halloc
  have hcb : (w.alloc (.cells #[.slice A n c, .bool b] 24)).cell? ⟨w.heap.size, 1, none⟩ = some (.bool b) := by
    rw [cell_of_row _ _ _ _ _ (0, 0) (heap_alloc_new w _)]
    rfl
  clear hp hn halloc
  go_enter Tryz.func86, Tryz.ntmps86
  go_wp2
  go_loop [4, 12] (fun t i => ∃ k : Nat, k ≤ n ∧ i = .int .i64 k ∧ t = .int .i64 (Pt.stars ((bs xs).take k) : Nat)) (fun _ i => n - (intOf i).toNat)
  case atStart => exact ⟨0, by omega, rfl, rfl⟩
  case round =>
    obtain ⟨k, hkn, rfl, rfl⟩ := hrel
    have hst := HST.out k
    rw [List.length_take, bs_length, ← HN.out] at hst
    have hst2 : Pt.stars ((bs xs).take k) ≤ k := by omega
    by_cases hlt : k < n
    · have hlx : k < xs.length := by rw [← HN.out]; exact hlt
      obtain ⟨g, o, rfl, hg, hcell⟩ := HCE.out (by omega)
      have hce := hcell k hlx
      have hsz := HSZ.out _ (List.getElem_mem hlx)
      have HT := Lib.hid (stars_take (l := bs xs) (k := k) (by rw [bs_length]; exact hlx))
      rw [bs_get xs k hlx] at HT
      clear hcell hst
      generalize xs[k] = x at hce hsz HT
      have HS := Lib.hid (fun w : World => rstar_any x w hsz)
      generalize Pt.stars ((bs xs).take k) = t at *
      have ht9 : (t : Int) ≤ (k : Int) := by omega
      have hk9 : (k : Int) + 1 ≤ 9223372036854775807 := by omega
      cases ho : Pt.star x.data.toList with
      | none =>
        rw [ho] at HS HT
        go_wp2_with fail
        with_reducible refine (HS.out _).mono ?_
        rintro e w' ⟨rfl, rfl⟩
        go_wp2
        go_round
        case rel => exact ⟨k + 1, by omega, by go_num, by rw [HT.out]; rfl⟩
        case measure => simp [intOf]; omega
      | some s =>
        rw [ho] at HS HT
        go_wp2_with fail
        with_reducible refine (HS.out _).mono ?_
        rintro e w' ⟨rfl, rfl⟩
        go_wp2
        go_round
        case rel => exact ⟨k + 1, by omega, by go_num, by rw [HT.out]; simp⟩
        case measure => simp [intOf]; omega
    · obtain rfl : k = n := by omega
      have hv : (bs xs).take k = bs xs := List.take_of_length_le (by rw [bs_length, ← HN.out]; omega)
      rw [hv]
      clear hv hst hst2
      generalize Pt.stars (bs xs) = t at *
      go_wp2
      go_quiet (fail)
      go_wp2
      go_ret2
      exact ⟨rfl, below_drewN HAL.out _⟩
theorem rwild_any (A : Option Addr) (xs : List ByteArray) (c : Nat) (b : Bool) (p : Pt.Pat) (w : World) (hp : PatR w A xs c b p) (hN : xs.length ≤ 1000000) : Calls Tryz.prog 140 #[patV A xs.length c b] w (GivesN w (Pt.wilds p)) := by
  have halloc : Below w.heap.size w (w.alloc (.cells #[.slice A xs.length c, .bool b] 24)) := (Below.refl _ _).alloc (Nat.le_refl _) _
  have HK := Lib.hid (rkinds_any A xs c b p (w.alloc (.cells #[.slice A xs.length c, .bool b] 24)) (hp.keep halloc))
  have hst := stars_le p.parts
  rw [hp.len] at hst
  have hw : Pt.wilds p = Pt.stars p.parts + if p.rest then 1 else 0 := rfl
  have hsl : Pt.stars p.parts ≤ 1000000 := by omega
  rw [hw]
  generalize Pt.stars p.parts = t at *
  generalize p.rest = r at *
  generalize xs.length = n at *
  have HAL := Lib.hid halloc
  clear hp hw halloc
  cases r with
  | false =>
    simp only [Bool.false_eq_true, if_false, Nat.add_zero]
    go_enter Tryz.func140, Tryz.ntmps140
    go_wp2_with fail
    with_reducible refine HK.out.mono ?_
    rintro e w1 ⟨rfl, hb⟩
    have HB := Lib.hid hb
    clear hb
    go_wp2
    go_ret
    exact ⟨rfl, HAL.out.trans (HB.out.mono (by simp))⟩
  | true =>
    simp only [if_true]
    have ht9 : (t : Int) + 1 ≤ 9223372036854775807 := by omega
    go_enter Tryz.func140, Tryz.ntmps140
    go_wp2_with fail
    with_reducible refine HK.out.mono ?_
    rintro e w1 ⟨rfl, hb⟩
    have HB := Lib.hid hb
    clear hb
    go_wp2
    go_ret
    exact ⟨rfl, HAL.out.trans (HB.out.mono (by simp))⟩
end Go.Proofs.YthgcnlhlhipllaaGreatDoor
