/- The contracts of the program's textOf, Format, Kinds, Literal. -/
import Derived.Test.YthgcnlhlhipllaaGreatDoorPatGo5
import Derived.Test.YthgcnlhlhipllaaGreatDoorPatFn9
namespace Go.Proofs.YthgcnlhlhipllaaGreatDoor
open Go.RowKit

theorem textOf_any (A : Option Addr) (xs : List ByteArray) (c : Nat) (w : World) (hr : RdS w w.heap.size A xs) (hc : xs.length ≤ c) (hlen : (Lib.join (bs xs) [47]).length ≤ 140737488355000) (hN : xs.length ≤ 140737488355328) :
    Calls Tryz.prog 135 #[.slice A xs.length c] w (GivesS w (Pm.join (bs xs))) := by
  have HJ := Lib.hid (sjoin_any A xs c ⟨#[47]⟩ w hr hc rfl (by omega) hN)
  have hj : Pm.join (bs xs) = 47 :: 47 :: Lib.join (bs xs) [47] := rfl
  rw [hj]
  clear hj hr hc
  generalize Lib.join (bs xs) [47] = l at HJ hlen
  generalize xs.length = n at HJ hN
  go_enter Tryz.func135, Tryz.ntmps135
  go_wp2_with fail
  with_reducible refine HJ.out.mono ?_
  rintro e w1 ⟨rfl, hb⟩
  go_wp2
  go_ret
  exact ⟨ret_str (slash2 l), hb⟩

theorem dots3 (l : List UInt8) : (ByteArray.mk l.toArray) ++ (ByteArray.mk #[47, 46, 46, 46]) = ⟨(l ++ [47, 46, 46, 46]).toArray⟩ := by
  apply ba_ext
  simp [ByteArray.data_append]
def formatted (p : Pt.Pat) : List UInt8 := if Pt.check p = 0 then Pt.text p else []
theorem format_any (A : Option Addr) (xs : List ByteArray) (c : Nat) (b : Bool) (p : Pt.Pat) (w : World) (hp : PatR w A xs c b p) (hlen : (Lib.join p.parts [47]).length ≤ 140737488350000) (hN : xs.length ≤ 140737488355328) :
    Calls Tryz.prog 148 #[patV A xs.length c b] w (GivesS2 w (formatted p) (Pt.check p)) := by
  have halloc : Below w.heap.size w (w.alloc (.cells #[.slice A xs.length c, .bool b] 24)) := (Below.refl _ _).alloc (Nat.le_refl _) _
  have HCk := Lib.hid (check_any A xs c b p _ (hp.keep halloc))
  have HT := Lib.hid (fun (w' : World) (hb : Below w.heap.size w w') => textOf_any A xs c w' ((hp.keep hb).rd) hp.le (by rw [hp.parts]; omega) hN)
  rw [hp.parts] at HT
  have ht : Pt.text p = Pm.join p.parts ++ (if b then [47, 46, 46, 46] else []) := by rw [hp.rest]; rfl
  have hjl : (Pm.join p.parts).length ≤ 140737488350100 := by unfold Pm.join; simp only [List.length_cons]; omega
  unfold formatted
  rw [ht]
  have HAL := Lib.hid halloc
  generalize Pm.join p.parts = l at HT hjl
  by_cases hk : Pt.check p = 0
  · rw [if_pos hk, hk]
    rw [hk] at HCk
    generalize xs.length = n at *
    clear hp hlen hN halloc ht hk
    cases b with
    | false =>
      simp only [Bool.false_eq_true, if_false, List.append_nil]
      go_enter Tryz.func148, Tryz.ntmps148
      go_wp2_with fail
      with_reducible refine HCk.out.mono ?_
      rintro e w1 ⟨rfl, hb⟩
      obtain ⟨c0, c1⟩ := box_cells hb
      have HB := Lib.hid (HAL.out.trans (hb.mono HAL.out.size))
      clear hb
      go_wp2_with fail
      with_reducible refine (HT.out _ HB.out).mono ?_
      rintro e w2 ⟨rfl, hb2⟩
      have HB2 := Lib.hid (HB.out.trans (hb2.mono HB.out.size))
      have d1 := (hb2.cell (p := ⟨w.heap.size, 1, none⟩) (by have := World.block_lt_of_cell? w1 _ c1; exact this)).trans c1
      clear hb2 c0 c1
      go_wp2
      go_ret2
      exact ⟨rfl, HB2.out⟩
    | true =>
      simp only [if_true]
      go_enter Tryz.func148, Tryz.ntmps148
      go_wp2_with fail
      with_reducible refine HCk.out.mono ?_
      rintro e w1 ⟨rfl, hb⟩
      obtain ⟨c0, c1⟩ := box_cells hb
      have HB := Lib.hid (HAL.out.trans (hb.mono HAL.out.size))
      clear hb
      go_wp2_with fail
      with_reducible refine (HT.out _ HB.out).mono ?_
      rintro e w2 ⟨rfl, hb2⟩
      have HB2 := Lib.hid (HB.out.trans (hb2.mono HB.out.size))
      have d1 := (hb2.cell (p := ⟨w.heap.size, 1, none⟩) (by have := World.block_lt_of_cell? w1 _ c1; exact this)).trans c1
      clear hb2 c0 c1
      go_wp2
      go_ret2
      exact ⟨ret_str2 (dots3 l) rfl, HB2.out⟩
  · rw [if_neg hk]
    have u1 : ((Pt.check p : Int) == 0) = false := by rw [beq_eq_false_iff_ne]; omega
    have u2 : ((Pt.check p : Int) != 0) = true := by rw [bne, u1]; rfl
    generalize Pt.check p = k1 at *
    generalize xs.length = n at *
    clear hp hlen hN halloc ht hk
    go_enter Tryz.func148, Tryz.ntmps148
    go_wp2_with fail
    with_reducible refine HCk.out.mono ?_
    rintro e w1 ⟨rfl, hb⟩
    have HB := Lib.hid (HAL.out.trans (hb.mono HAL.out.size))
    clear hb
    go_wp2
    go_ret2
    exact ⟨rfl, HB.out⟩

def GivesK (w : World) (n : Nat) (r : Bool) (k : Nat) (e : Ending) (w' : World) : Prop := e = .returned (.tuple #[.int .i64 (n : Int), .bool r, .int .i64 (k : Int)]) ∧ Below w.heap.size w w'
def kindsN (p : Pt.Pat) : Nat := if Pt.check p = 0 then Pt.stars p.parts else 0
def kindsR (p : Pt.Pat) : Bool := if Pt.check p = 0 then p.rest else false
theorem star_formN (x : List UInt8) : (((Pt.formN x : Int) == 2) = (Pt.star x).isSome) := by
  cases hs : Pt.star x with
  | none =>
    have : Pt.formN x ≠ 2 := fun h => by
      obtain ⟨s, h2⟩ := Pt.form_two_iff.1 h
      rw [hs] at h2
      cases h2
    rw [Option.isSome_none, beq_eq_false_iff_ne]
    omega
  | some s => rw [Pt.form_two_iff.2 ⟨s, hs⟩]; rfl
set_option maxHeartbeats 1000000 in
theorem kinds_any (A : Option Addr) (xs : List ByteArray) (c : Nat) (b : Bool) (p : Pt.Pat) (w : World) (hp : PatR w A xs c b p) : Calls Tryz.prog 82 #[patV A xs.length c b] w (GivesK w (kindsN p) (kindsR p) (Pt.check p)) := by
  have halloc : Below w.heap.size w (w.alloc (.cells #[.slice A xs.length c, .bool b] 24)) := (Below.refl _ _).alloc (Nat.le_refl _) _
  have HCk := Lib.hid (check_any A xs c b p _ (hp.keep halloc))
  have hcm := hp.cm
  have hle := hp.le
  unfold maxLen at hcm
  unfold kindsN kindsR
  by_cases hk : Pt.check p = 0
  · rw [if_pos hk, if_pos hk, hk]
    rw [hk] at HCk
    rw [← hp.parts, ← hp.rest]
    have HCE := Lib.hid (fun h => hp.rd.cells h)
    have HSZ := Lib.hid hp.sz
    have HST := Lib.hid (fun k => stars_le ((bs xs).take k))
    obtain ⟨n, hn⟩ : ∃ n, n = xs.length := ⟨_, rfl⟩
    rw [← hn] at hle halloc HCk ⊢
    have HN := Lib.hid hn
    have hnn : (n : Int) ≤ 9223372036854775807 := by omega
    have HAL := Lib.hid halloc
    clear hp hn halloc hk
    go_enter Tryz.func82, Tryz.ntmps82
    go_wp2_with fail
    with_reducible refine HCk.out.mono ?_
    rintro e w1 ⟨rfl, hb⟩
    obtain ⟨c0, c1⟩ := box_cells hb
    have HB := Lib.hid (HAL.out.trans (hb.mono HAL.out.size))
    clear hb
    go_wp2
    go_loop [2, 16] (fun t i => ∃ k : Nat, k ≤ n ∧ i = .int .i64 k ∧ t = .int .i64 (Pt.stars ((bs xs).take k) : Nat)) (fun _ i => n - (intOf i).toNat)
    case atStart => exact ⟨0, by omega, rfl, rfl⟩
    case round =>
      obtain ⟨k, hkn, rfl, rfl⟩ := hrel
      have hst := HST.out k
      rw [List.length_take, bs_length, ← HN.out] at hst
      have hst2 : Pt.stars ((bs xs).take k) ≤ k := by omega
      by_cases hlt : k < n
      · have hlx : k < xs.length := by rw [← HN.out]; exact hlt
        obtain ⟨g, o, rfl, hg, hcell⟩ := HCE.out (by omega)
        have hce := (HB.out.cell (p := ⟨g, o + k, none⟩) hg).trans (hcell k hlx)
        have hsz := HSZ.out _ (List.getElem_mem hlx)
        have HT := Lib.hid (stars_take (l := bs xs) (k := k) (by rw [bs_length]; exact hlx))
        rw [bs_get xs k hlx] at HT
        clear hcell hst
        generalize xs[k] = x at hce hsz HT
        have HS := Lib.hid (fun w : World => formOf_any x w hsz)
        have hf := star_formN x.data.toList
        generalize Pt.stars ((bs xs).take k) = t at *
        generalize Pt.formN x.data.toList = f at *
        have ht9 : (t : Int) ≤ (k : Int) := by omega
        have hk9 : (k : Int) + 1 ≤ 9223372036854775807 := by omega
        cases ho : Pt.star x.data.toList with
        | none =>
          rw [ho] at HT hf
          go_wp2_with fail
          with_reducible refine (HS.out _).mono ?_
          rintro e w' ⟨rfl, rfl⟩
          go_wp2
          go_round
          case rel => exact ⟨k + 1, by omega, by go_num, by rw [HT.out]; rfl⟩
          case measure => simp [intOf]; omega
        | some s =>
          rw [ho] at HT hf
          go_wp2_with fail
          with_reducible refine (HS.out _).mono ?_
          rintro e w' ⟨rfl, rfl⟩
          go_wp2
          go_round
          case rel => exact ⟨k + 1, by omega, by go_num, by rw [HT.out]; simp⟩
          case measure => simp [intOf]; omega
      · obtain rfl : k = n := by omega
        have hv : (bs xs).take k = bs xs := List.take_of_length_le (by rw [bs_length, ← HN.out]; omega)
        rw [hv]
        clear hv hst hst2
        generalize Pt.stars (bs xs) = t at *
        go_wp2
        go_quiet (fail)
        go_wp2
        refine bodyPost_ret (v := .tuple #[.int .i64 t, .bool b, .int .i64 0]) (by simp [results, Tryz.results82, go_sem]) rfl ⟨rfl, ?_⟩
        exact below_drewN HB.out _
  · rw [if_neg hk, if_neg hk]
    have u1 : ((Pt.check p : Int) == 0) = false := by rw [beq_eq_false_iff_ne]; omega
    have u2 : ((Pt.check p : Int) != 0) = true := by rw [bne, u1]; rfl
    generalize Pt.check p = k1 at *
    generalize xs.length = n at *
    have HAL := Lib.hid halloc
    clear hp halloc hk
    go_enter Tryz.func82, Tryz.ntmps82
    go_wp2_with fail
    with_reducible refine HCk.out.mono ?_
    rintro e w1 ⟨rfl, hb⟩
    have HB := Lib.hid (HAL.out.trans (hb.mono HAL.out.size))
    clear hb
    go_wp2
    refine bodyPost_ret (v := .tuple #[.int .i64 (0 : Nat), .bool false, .int .i64 k1]) (by simp [results, Tryz.results82, go_sem]) rfl ⟨rfl, HB.out⟩

/-- What Literal hands back. -/
def litOk (p : Pt.Pat) : Bool := decide (Pt.check p = 0) && decide (Pt.stars p.parts = 0) && !p.rest
def GivesLit (w : World) (p : Pt.Pat) (e : Ending) (w' : World) : Prop := e = .returned (.tuple #[.string ⟨(if litOk p then Pm.join p.parts else []).toArray⟩, .bool (litOk p)]) ∧ Below w.heap.size w w'
end Go.Proofs.YthgcnlhlhipllaaGreatDoor
