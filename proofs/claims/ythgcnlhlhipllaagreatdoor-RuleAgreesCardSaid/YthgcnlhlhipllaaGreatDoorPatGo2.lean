/- The contracts of the program's Check, Kinds, wildcards, textOf, Format, Literal. -/
import Derived.Test.YthgcnlhlhipllaaGreatDoorPatGo
import Derived.Test.YthgcnlhlhipllaaGreatDoorPatFn4
namespace Go.Proofs.YthgcnlhlhipllaaGreatDoor
open Go.RowKit

theorem check_any (A : Option Addr) (xs : List ByteArray) (c : Nat) (b : Bool) (p : Pt.Pat) (w : World) (hp : PatR w A xs c b p) : Calls Tryz.prog 58 #[patV A xs.length c b] w (GivesN w (Pt.check p)) := by
  have hform : Pt.check p = if Pt.form p then (if p.parts.length ≤ 12 then 0 else 31) else 30 := rfl
  have hf : Pt.form p = ((decide (2 ≤ p.parts.length) || (decide (p.parts.length = 1) && p.rest)) && Pm.comp (p.parts.headD []) && p.parts.tail.all Pt.part) := rfl
  rw [hp.len, ← hp.rest, ← hp.parts] at hf
  rw [hp.len] at hform
  generalize Pt.check p = ck at hform
  generalize Pt.form p = fm at hf hform
  have hcm := hp.cm
  have hle := hp.le
  have hcmi : (c : Int) ≤ 9223372036854775807 := by unfold maxLen at hcm; omega
  have halloc : Below w.heap.size w (w.alloc (.cells #[.slice A xs.length c, .bool b] 24)) := (Below.refl _ _).alloc (Nat.le_refl _) _
  by_cases h0 : xs.length = 0
  · have hfm : fm = false := by rw [hf, h0]; simp
    subst hfm
    have hck : ck = 30 := by rw [hform]; rfl
    subst hck
    rw [h0]
    clear hf hform hp h0 hle halloc
    go_enter Tryz.func58, Tryz.ntmps58
    go_wp2
    go_ret
    exact ⟨rfl, (Below.refl _ _).alloc (Nat.le_refl _) _⟩
  · by_cases h1 : xs.length = 1 ∧ b = false
    · obtain ⟨h1, rfl⟩ := h1
      have hfm : fm = false := by rw [hf, h1]; simp
      subst hfm
      have hck : ck = 30 := by rw [hform]; rfl
      subst hck
      rw [h1]
      clear hf hform hp h0 h1 hle halloc
      go_enter Tryz.func58, Tryz.ntmps58
      go_wp2
      go_ret
      exact ⟨rfl, (Below.refl _ _).alloc (Nat.le_refl _) _⟩
    · have hcase : (xs.length = 1 ∧ b = true) ∨ ((xs.length : Int) == 1) = false := by
        by_cases h2 : xs.length = 1
        · left
          refine ⟨h2, ?_⟩
          cases b with
          | true => rfl
          | false => exact absurd ⟨h2, rfl⟩ h1
        · right
          rw [beq_eq_false_iff_ne]
          omega
      have HPA := Lib.hid (areParts_any A xs c (w.alloc (.cells #[.slice A xs.length c, .bool b] 24)) ((hp.rd.keep halloc).more halloc.size) hp.le hp.cm hp.sz)
      obtain ⟨g, o, hA, hg, hcell⟩ := hp.rd.cells (by omega)
      subst hA
      have hc0 := hcell 0 (by omega)
      rw [Nat.add_zero] at hc0
      have hsz0 := hp.sz _ (List.getElem_mem (show 0 < xs.length by omega))
      have HF0 := Lib.hid (fun w : World => formOf_any xs[0] w hsz0)
      rw [bs_head (by omega)] at hf
      have hlen2 : (decide (2 ≤ xs.length) || (decide (xs.length = 1) && b)) = true := by
        rcases hcase with ⟨h2, h3⟩ | h2
        · rw [h2, h3]
          rfl
        · rw [beq_eq_false_iff_ne] at h2
          rw [decide_eq_true (by omega : 2 ≤ xs.length)]
          rfl
      rw [hlen2, Bool.true_and] at hf
      have hall : (bs xs).all Pt.part = (Pt.part xs[0].data.toList && (bs xs).tail.all Pt.part) := by
        have := part_drop (xs := xs) (k := 0) (by omega)
        simpa using this
      generalize hb0 : xs[0] = x0 at *
      obtain ⟨n, hn⟩ : ∃ n, n = xs.length := ⟨_, rfl⟩
      rw [← hn] at h0 hform hle hcase HPA halloc ⊢
      have hn1 : ((n : Int) == 0) = false := by rw [beq_eq_false_iff_ne]; omega
      have hnc : (n : Int) ≤ (c : Int) := by omega
      have hn0 : (0 : Int) < (n : Int) := by omega
      have HAL := Lib.hid halloc
      clear hcell hp hsz0 hlen2 hn hb0 halloc h1 h0 hcm
      cases hcx : Pm.comp x0.data.toList with
      | false =>
        rw [hcx] at hf
        have hfm : fm = false := by rw [hf]; rfl
        subst hfm
        have hck : ck = 30 := by rw [hform]; rfl
        subst hck
        have hne : ((Pt.formN x0.data.toList : Int) == 1) = false := by
          rw [beq_eq_false_iff_ne]
          intro h
          have := Pt.form_one_iff.1 (show Pt.formN x0.data.toList = 1 by omega)
          rw [hcx] at this
          cases this
        have hne2 : ((Pt.formN x0.data.toList : Int) != 1) = true := by rw [bne, hne]; rfl
        generalize Pt.formN x0.data.toList = f at *
        clear hf hform hcx hall HPA
        rcases hcase with ⟨rfl, rfl⟩ | h1n
        all_goals
          go_enter Tryz.func58, Tryz.ntmps58
          go_wp2_with fail
          with_reducible refine (HF0.out _).mono ?_
          rintro e w' ⟨rfl, rfl⟩
          go_wp2
          go_ret
          exact ⟨rfl, HAL.out⟩
      | true =>
        rw [hcx, Bool.true_and] at hf
        rw [Pt.part_comp hcx, Bool.true_and] at hall
        rw [hall, ← hf] at HPA
        rw [Pt.form_one_iff.2 hcx] at HF0
        clear hcx hall hf
        cases fm with
        | false =>
          have hck : ck = 30 := by rw [hform]; rfl
          subst hck
          clear hform
          rcases hcase with ⟨rfl, rfl⟩ | h1n
          all_goals
            go_enter Tryz.func58, Tryz.ntmps58
            go_wp2_with fail
            with_reducible refine (HF0.out _).mono ?_
            rintro e w' ⟨rfl, rfl⟩
            go_wp2_with fail
            with_reducible refine HPA.out.mono ?_
            rintro e w' ⟨rfl, rfl⟩
            go_wp2
            go_ret
            exact ⟨rfl, HAL.out⟩
        | true =>
          by_cases h12 : n ≤ 12
          · have hck : ck = 0 := by rw [hform, if_pos h12]; rfl
            subst hck
            have h12i : ¬ (12 : Int) < (n : Int) := by omega
            clear hform
            rcases hcase with ⟨rfl, rfl⟩ | h1n
            all_goals
              go_enter Tryz.func58, Tryz.ntmps58
              go_wp2_with fail
              with_reducible refine (HF0.out _).mono ?_
              rintro e w' ⟨rfl, rfl⟩
              go_wp2_with fail
              with_reducible refine HPA.out.mono ?_
              rintro e w' ⟨rfl, rfl⟩
              go_wp2
              go_ret
              exact ⟨rfl, HAL.out⟩
          · have hck : ck = 31 := by rw [hform, if_neg h12]; rfl
            subst hck
            have h12i : (12 : Int) < (n : Int) := by omega
            clear hform
            rcases hcase with ⟨rfl, rfl⟩ | h1n
            · omega
            · go_enter Tryz.func58, Tryz.ntmps58
              go_wp2_with fail
              with_reducible refine (HF0.out _).mono ?_
              rintro e w' ⟨rfl, rfl⟩
              go_wp2_with fail
              with_reducible refine HPA.out.mono ?_
              rintro e w' ⟨rfl, rfl⟩
              go_wp2
              go_ret
              exact ⟨rfl, HAL.out⟩
end Go.Proofs.YthgcnlhlhipllaaGreatDoor
