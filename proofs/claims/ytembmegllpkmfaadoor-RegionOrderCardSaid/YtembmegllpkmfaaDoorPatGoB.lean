/- The contracts of the program's starsIn, Within, Match. The contracts of the program's textOf, Format, Kinds, Literal. The contracts of the program's areComponents, wildcards, areCaptures, filled. -/
import Derived.Test.YtembmegllpkmfaaDoorPatGoA
import Derived.Test.YtembmegllpkmfaaDoorPatFnB
import Derived.Test.YtembmegllpkmfaaDoorPatFnC
namespace Go.Proofs.YtembmegllpkmfaaDoor
open Go.RowKit

set_option maxHeartbeats 2000000 in
theorem starsIn_any (A B : Option Addr) (xs ys : List ByteArray) (c d : Nat) (b b' : Bool) (p q : Pt.Pat) (w : World) (hp : PatR w A xs c b p) (hq : PatR w B ys d b' q) :
    Calls Tryd.prog 44 #[patV A xs.length c b, patV B ys.length d b'] w (GivesNr w (if Pt.check p = 0 ∧ Pt.check q = 0 then Pt.narr p q else none)) := by
  obtain ⟨W0, hW0⟩ : ∃ W0, W0 = (w.alloc (.cells #[.slice A xs.length c, .bool b] 24)).alloc (.cells #[.slice B ys.length d, .bool b'] 24) := ⟨_, rfl⟩
  have halloc : Below w.heap.size w W0 := by rw [hW0]; exact ((Below.refl _ _).alloc (Nat.le_refl _) _).alloc (by simp) _
  have hp0 := hp.keep halloc
  have hq0 := hq.keep halloc
  have HCp := Lib.hid (fun (w' : World) (hb : Below W0.heap.size W0 w') => check_any A xs c b p w' (hp0.keep hb))
  have HCq := Lib.hid (fun (w' : World) (hb : Below W0.heap.size W0 w') => check_any B ys d b' q w' (hq0.keep hb))
  have hqe : (⟨bs ys, b'⟩ : Pt.Pat) = q := Pt.Pat.ext' hq.parts hq.rest
  by_cases hk1 : Pt.check p = 0
  · have hn12 : xs.length ≤ 12 := by rw [← hp.len]; exact (Pt.check_ok.1 hk1).2
    rw [hk1] at HCp
    by_cases hk2 : Pt.check q = 0
    · rw [if_pos ⟨hk1, hk2⟩]
      rw [hk2] at HCq
      have HNr := Lib.hid (fun (w' : World) (hb : Below W0.heap.size W0 w') => narrowings_any A xs c b p B ys d b' w' (hp0.keep hb) ((hq0.keep hb).rd) hq.le hq.cm hq.sz (by omega))
      rw [hqe] at HNr
      generalize Pt.narr p q = o at HNr ⊢
      generalize xs.length = n at *
      generalize ys.length = m at *
      subst hW0
      have HAL := Lib.hid halloc
      clear hp hq hp0 hq0 hqe halloc hk1 hk2 hn12
      cases o with
      | none =>
        go_enter Tryd.func44, Tryd.ntmps44
        go_wp2_with fail
        with_reducible refine (HCp.out _ (Below.refl _ _)).mono ?_
        rintro e w1 ⟨rfl, hb1⟩
        obtain ⟨c0, c1, c2, c3⟩ := box2_cells hb1
        have HB1 := Lib.hid hb1
        have hz1 := hb1.size
        clear hb1
        simp at hz1
        go_wp2_with fail
        with_reducible refine (HCq.out _ HB1.out).mono ?_
        rintro e w2 ⟨rfl, hb2⟩
        have hb3 := HB1.out.trans (hb2.mono HB1.out.size)
        obtain ⟨d0, d1, d2, d3⟩ := box2_cells hb3
        have HB2 := Lib.hid hb3
        have hz2 := hb3.size
        clear hb2 hb3 c0 c1 c2 c3
        simp at hz2
        go_wp2_with fail
        with_reducible refine (HNr.out _ HB2.out).mono ?_
        rintro e w3 ⟨rfl, hb3⟩
        have HB3 := Lib.hid hb3
        clear hb3
        go_wp2
        go_ret2
        exact ⟨rfl, (HAL.out.trans (HB2.out.mono (by simp; omega))).trans (HB3.out.mono (by omega))⟩
      | some l =>
        go_enter Tryd.func44, Tryd.ntmps44
        go_wp2_with fail
        with_reducible refine (HCp.out _ (Below.refl _ _)).mono ?_
        rintro e w1 ⟨rfl, hb1⟩
        obtain ⟨c0, c1, c2, c3⟩ := box2_cells hb1
        have HB1 := Lib.hid hb1
        have hz1 := hb1.size
        clear hb1
        simp at hz1
        go_wp2_with fail
        with_reducible refine (HCq.out _ HB1.out).mono ?_
        rintro e w2 ⟨rfl, hb2⟩
        have hb3 := HB1.out.trans (hb2.mono HB1.out.size)
        obtain ⟨d0, d1, d2, d3⟩ := box2_cells hb3
        have HB2 := Lib.hid hb3
        have hz2 := hb3.size
        clear hb2 hb3 c0 c1 c2 c3
        simp at hz2
        go_wp2_with fail
        with_reducible refine (HNr.out _ HB2.out).mono ?_
        rintro e w3 ⟨v, zs, rfl, hown, hbz, hb3⟩
        have HB3 := Lib.hid hb3
        have HOWN := Lib.hid hown
        have HBZ := Lib.hid hbz
        clear hb3 hown hbz
        go_wp2
        go_ret2
        exact ⟨v, zs, rfl, HOWN.out.more (by omega), HBZ.out, (HAL.out.trans (HB2.out.mono (by simp; omega))).trans (HB3.out.mono (by omega))⟩
    · rw [if_neg (fun h => hk2 h.2)]
      have u1 : ((Pt.check q : Int) == 0) = false := by rw [beq_eq_false_iff_ne]; omega
      have u2 : ((Pt.check q : Int) != 0) = true := by rw [bne, u1]; rfl
      generalize Pt.check q = k2 at *
      generalize xs.length = n at *
      generalize ys.length = m at *
      subst hW0
      have HAL := Lib.hid halloc
      clear hp hq hp0 hq0 hqe halloc hk1 hk2 hn12
      go_enter Tryd.func44, Tryd.ntmps44
      go_wp2_with fail
      with_reducible refine (HCp.out _ (Below.refl _ _)).mono ?_
      rintro e w1 ⟨rfl, hb1⟩
      obtain ⟨c0, c1, c2, c3⟩ := box2_cells hb1
      have HB1 := Lib.hid hb1
      have hz1 := hb1.size
      clear hb1
      simp at hz1
      go_wp2_with fail
      with_reducible refine (HCq.out _ HB1.out).mono ?_
      rintro e w2 ⟨rfl, hb2⟩
      have HB2 := Lib.hid hb2
      clear hb2
      go_wp2
      go_ret2
      exact ⟨rfl, (HAL.out.trans (HB1.out.mono (by simp; omega))).trans (HB2.out.mono (by omega))⟩
  · rw [if_neg (fun h => hk1 h.1)]
    have u1 : ((Pt.check p : Int) == 0) = false := by rw [beq_eq_false_iff_ne]; omega
    have u2 : ((Pt.check p : Int) != 0) = true := by rw [bne, u1]; rfl
    generalize Pt.check p = k1 at *
    generalize xs.length = n at *
    generalize ys.length = m at *
    subst hW0
    have HAL := Lib.hid halloc
    clear hp hq hp0 hq0 hqe halloc hk1
    go_enter Tryd.func44, Tryd.ntmps44
    go_wp2_with fail
    with_reducible refine (HCp.out _ (Below.refl _ _)).mono ?_
    rintro e w1 ⟨rfl, hb1⟩
    have HB1 := Lib.hid hb1
    clear hb1
    go_wp2
    go_ret2
    exact ⟨rfl, HAL.out.trans (HB1.out.mono (by simp; omega))⟩

theorem within_stars (p q : Pt.Pat) : Pt.within p q = (if Pt.check q = 0 ∧ Pt.check p = 0 then Pt.narr q p else none).isSome := by
  by_cases h : Pt.check q = 0 ∧ Pt.check p = 0
  · rw [if_pos h, Pt.within_narr h.1 h.2]
  · rw [if_neg h]
    cases hw : Pt.within p q with
    | false => rfl
    | true =>
      obtain ⟨h1, h2, _⟩ := Pt.within_parts hw
      exact absurd ⟨h2, h1⟩ h
theorem within_any (A B : Option Addr) (xs ys : List ByteArray) (c d : Nat) (b b' : Bool) (p q : Pt.Pat) (w : World) (hp : PatR w A xs c b p) (hq : PatR w B ys d b' q) :
    Calls Tryd.prog 19 #[patV A xs.length c b, patV B ys.length d b'] w (GivesBB w (Pt.within p q)) := by
  obtain ⟨W0, hW0⟩ : ∃ W0, W0 = (w.alloc (.cells #[.slice A xs.length c, .bool b] 24)).alloc (.cells #[.slice B ys.length d, .bool b'] 24) := ⟨_, rfl⟩
  have halloc : Below w.heap.size w W0 := by rw [hW0]; exact ((Below.refl _ _).alloc (Nat.le_refl _) _).alloc (by simp) _
  have HS := Lib.hid (starsIn_any B A ys xs d c b' b q p W0 (hq.keep halloc) (hp.keep halloc))
  rw [within_stars]
  generalize (if Pt.check q = 0 ∧ Pt.check p = 0 then Pt.narr q p else none) = o at HS ⊢
  generalize xs.length = n at *
  generalize ys.length = m at *
  subst hW0
  have HAL := Lib.hid halloc
  clear hp hq halloc
  cases o with
  | none =>
    go_enter Tryd.func19, Tryd.ntmps19
    go_wp2_with fail
    with_reducible refine HS.out.mono ?_
    rintro e w1 ⟨rfl, hb1⟩
    have HB1 := Lib.hid hb1
    clear hb1
    go_wp2
    go_ret
    exact ⟨rfl, HAL.out.trans (HB1.out.mono (by simp; omega))⟩
  | some l =>
    go_enter Tryd.func19, Tryd.ntmps19
    go_wp2_with fail
    with_reducible refine HS.out.mono ?_
    rintro e w1 ⟨v, zs, rfl, _, _, hb1⟩
    have HB1 := Lib.hid hb1
    clear hb1
    go_wp2
    go_ret
    exact ⟨rfl, HAL.out.trans (HB1.out.mono (by simp; omega))⟩

theorem narr_some {p : Pt.Pat} {l r : List (List UInt8)} (h : Pt.narr p ⟨l, false⟩ = some r) : if p.rest then p.parts.length < l.length else l.length = p.parts.length := by
  unfold Pt.narr at h
  split at h
  · rename_i hc
    rw [Pt.counts_path] at hc
    unfold Pt.fits at hc
    cases hr : p.rest <;> rw [hr] at hc <;> simpa using hc
  · cases h
theorem narrsOf_len : ∀ {ps qs r : List (List UInt8)}, Pt.narrsOf ps qs = some r → r.length ≤ ps.length
  | [], _, r, h => by
    simp only [Pt.narrsOf, Option.some.injEq] at h
    subst h
    simp
  | _ :: _, [], r, h => by cases h
  | x :: ps, y :: qs, r, h => by
    rw [Pt.narrsOf_cons] at h
    cases hn : Pt.narrO x y with
    | none => rw [hn] at h; cases h
    | some u =>
      rw [hn] at h
      simp only [Option.map_eq_some_iff] at h
      obtain ⟨r', hr, rfl⟩ := h
      have := narrsOf_len hr
      split <;> simp <;> omega
theorem narr_len {p q : Pt.Pat} {r : List (List UInt8)} (h : Pt.narr p q = some r) : r.length ≤ p.parts.length := by
  unfold Pt.narr at h
  split at h
  · exact narrsOf_len h
  · cases h

end Go.Proofs.YtembmegllpkmfaaDoor

namespace Go.Proofs.YtembmegllpkmfaaDoor
open Go.RowKit

theorem textOf_any (A : Option Addr) (xs : List ByteArray) (c : Nat) (w : World) (hr : RdS w w.heap.size A xs) (hc : xs.length ≤ c) (hlen : (Lib.join (bs xs) [47]).length ≤ 140737488355000) (hN : xs.length ≤ 140737488355328) :
    Calls Tryd.prog 68 #[.slice A xs.length c] w (GivesS w (Pm.join (bs xs))) := by
  have HJ := Lib.hid (sjoin_any A xs c ⟨#[47]⟩ w hr hc rfl (by omega) hN)
  have hj : Pm.join (bs xs) = 47 :: 47 :: Lib.join (bs xs) [47] := rfl
  rw [hj]
  clear hj hr hc
  generalize Lib.join (bs xs) [47] = l at HJ hlen
  generalize xs.length = n at HJ hN
  go_enter Tryd.func68, Tryd.ntmps68
  go_wp2_with fail
  with_reducible refine HJ.out.mono ?_
  rintro e w1 ⟨rfl, hb⟩
  go_wp2
  go_ret
  exact ⟨ret_str (slash2 l), hb⟩

theorem dots3 (l : List UInt8) : (ByteArray.mk l.toArray) ++ (ByteArray.mk #[47, 46, 46, 46]) = ⟨(l ++ [47, 46, 46, 46]).toArray⟩ := by
  apply ba_ext
  simp [ByteArray.data_append]
def formatted (p : Pt.Pat) : List UInt8 := if Pt.check p = 0 then Pt.text p else []
theorem format_any (A : Option Addr) (xs : List ByteArray) (c : Nat) (b : Bool) (p : Pt.Pat) (w : World) (hp : PatR w A xs c b p) (hlen : (Lib.join p.parts [47]).length ≤ 140737488350000) (hN : xs.length ≤ 140737488355328) :
    Calls Tryd.prog 48 #[patV A xs.length c b] w (GivesS2 w (formatted p) (Pt.check p)) := by
  have halloc : Below w.heap.size w (w.alloc (.cells #[.slice A xs.length c, .bool b] 24)) := (Below.refl _ _).alloc (Nat.le_refl _) _
  have HCk := Lib.hid (check_any A xs c b p _ (hp.keep halloc))
  have HT := Lib.hid (fun (w' : World) (hb : Below w.heap.size w w') => textOf_any A xs c w' ((hp.keep hb).rd) hp.le (by rw [hp.parts]; omega) hN)
  rw [hp.parts] at HT
  have ht : Pt.text p = Pm.join p.parts ++ (if b then [47, 46, 46, 46] else []) := by rw [hp.rest]; rfl
  have hjl : (Pm.join p.parts).length ≤ 140737488350100 := by unfold Pm.join; simp only [List.length_cons]; omega
  unfold formatted
  rw [ht]
  have HAL := Lib.hid halloc
  generalize Pm.join p.parts = l at HT hjl
  by_cases hk : Pt.check p = 0
  · rw [if_pos hk, hk]
    rw [hk] at HCk
    generalize xs.length = n at *
    clear hp hlen hN halloc ht hk
    cases b with
    | false =>
      simp only [Bool.false_eq_true, if_false, List.append_nil]
      go_enter Tryd.func48, Tryd.ntmps48
      go_wp2_with fail
      with_reducible refine HCk.out.mono ?_
      rintro e w1 ⟨rfl, hb⟩
      obtain ⟨c0, c1⟩ := box_cells hb
      have HB := Lib.hid (HAL.out.trans (hb.mono HAL.out.size))
      clear hb
      go_wp2_with fail
      with_reducible refine (HT.out _ HB.out).mono ?_
      rintro e w2 ⟨rfl, hb2⟩
      have HB2 := Lib.hid (HB.out.trans (hb2.mono HB.out.size))
      have d1 := (hb2.cell (p := ⟨w.heap.size, 1, none⟩) (by have := World.block_lt_of_cell? w1 _ c1; exact this)).trans c1
      clear hb2 c0 c1
      go_wp2
      go_ret2
      exact ⟨rfl, HB2.out⟩
    | true =>
      simp only [if_true]
      go_enter Tryd.func48, Tryd.ntmps48
      go_wp2_with fail
      with_reducible refine HCk.out.mono ?_
      rintro e w1 ⟨rfl, hb⟩
      obtain ⟨c0, c1⟩ := box_cells hb
      have HB := Lib.hid (HAL.out.trans (hb.mono HAL.out.size))
      clear hb
      go_wp2_with fail
      with_reducible refine (HT.out _ HB.out).mono ?_
      rintro e w2 ⟨rfl, hb2⟩
      have HB2 := Lib.hid (HB.out.trans (hb2.mono HB.out.size))
      have d1 := (hb2.cell (p := ⟨w.heap.size, 1, none⟩) (by have := World.block_lt_of_cell? w1 _ c1; exact this)).trans c1
      clear hb2 c0 c1
      go_wp2
      go_ret2
      exact ⟨ret_str2 (dots3 l) rfl, HB2.out⟩
  · rw [if_neg hk]
    have u1 : ((Pt.check p : Int) == 0) = false := by rw [beq_eq_false_iff_ne]; omega
    have u2 : ((Pt.check p : Int) != 0) = true := by rw [bne, u1]; rfl
    generalize Pt.check p = k1 at *
    generalize xs.length = n at *
    clear hp hlen hN halloc ht hk
    go_enter Tryd.func48, Tryd.ntmps48
    go_wp2_with fail
    with_reducible refine HCk.out.mono ?_
    rintro e w1 ⟨rfl, hb⟩
    have HB := Lib.hid (HAL.out.trans (hb.mono HAL.out.size))
    clear hb
    go_wp2
    go_ret2
    exact ⟨rfl, HB.out⟩

def GivesK (w : World) (n : Nat) (r : Bool) (k : Nat) (e : Ending) (w' : World) : Prop := e = .returned (.tuple #[.int .i64 (n : Int), .bool r, .int .i64 (k : Int)]) ∧ Below w.heap.size w w'
def kindsN (p : Pt.Pat) : Nat := if Pt.check p = 0 then Pt.stars p.parts else 0
def kindsR (p : Pt.Pat) : Bool := if Pt.check p = 0 then p.rest else false
theorem star_formN (x : List UInt8) : (((Pt.formN x : Int) == 2) = (Pt.star x).isSome) := by
  cases hs : Pt.star x with
  | none =>
    have : Pt.formN x ≠ 2 := fun h => by
      obtain ⟨s, h2⟩ := Pt.form_two_iff.1 h
      rw [hs] at h2
      cases h2
    rw [Option.isSome_none, beq_eq_false_iff_ne]
    omega
  | some s => rw [Pt.form_two_iff.2 ⟨s, hs⟩]; rfl
/-- What Literal hands back. -/
def litOk (p : Pt.Pat) : Bool := decide (Pt.check p = 0) && decide (Pt.stars p.parts = 0) && !p.rest
def GivesLit (w : World) (p : Pt.Pat) (e : Ending) (w' : World) : Prop := e = .returned (.tuple #[.string ⟨(if litOk p then Pm.join p.parts else []).toArray⟩, .bool (litOk p)]) ∧ Below w.heap.size w w'
end Go.Proofs.YtembmegllpkmfaaDoor

namespace Go.Proofs.YtembmegllpkmfaaDoor
open Go.RowKit

def capsOkN (s : Nat) (r : Bool) (caps : List (List UInt8)) : Bool := decide (caps.length = s + if r then 1 else 0) && (caps.take s).all Pm.comp && (!r || (Pm.segs (caps.getD s [])).all Pm.comp)
theorem strs_sizes {l : List UInt8} {ys : List ByteArray} (h : bs ys = Pm.segs l) (hl : l.length ≤ 9000000000) : ∀ y ∈ ys, y.size ≤ maxLen := by
  intro y hy
  have h5 := segs_elem_le l y.data.toList (by rw [← h]; exact List.mem_map_of_mem hy)
  rw [← Lib.size_eq] at h5
  unfold maxLen
  omega
end Go.Proofs.YtembmegllpkmfaaDoor
