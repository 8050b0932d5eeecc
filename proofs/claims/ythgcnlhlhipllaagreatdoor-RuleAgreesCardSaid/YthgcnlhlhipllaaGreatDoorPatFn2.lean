/- Words for patterns in memory; the contracts of the reference's Check and Text. -/
import Derived.Test.YthgcnlhlhipllaaGreatDoorPatFn
namespace Go.Proofs.YthgcnlhlhipllaaGreatDoor
open Go.RowKit

/-- The value of a pattern. -/
abbrev patV (A : Option Addr) (n c : Nat) (b : Bool) : Value := .agg #[.slice A n c, .bool b]
/-- A pattern in memory: its parts are these strings. -/
structure PatR (w : World) (A : Option Addr) (xs : List ByteArray) (c : Nat) (b : Bool) (p : Pt.Pat) : Prop where
  rd : RdS w w.heap.size A xs
  parts : bs xs = p.parts
  rest : b = p.rest
  le : xs.length ≤ c
  cm : c ≤ maxLen
  nil : A = none → c = 0
  sz : ∀ x ∈ xs, x.size ≤ maxLen
theorem PatR.keep {w w' : World} {A : Option Addr} {xs : List ByteArray} {c : Nat} {b : Bool} {p : Pt.Pat} (h : PatR w A xs c b p) (hb : Below w.heap.size w w') : PatR w' A xs c b p :=
  ⟨(h.rd.keep hb).more hb.size, h.parts, h.rest, h.le, h.cm, h.nil, h.sz⟩
theorem PatR.len {w : World} {A : Option Addr} {xs : List ByteArray} {c : Nat} {b : Bool} {p : Pt.Pat} (h : PatR w A xs c b p) : p.parts.length = xs.length := by rw [← h.parts, bs_length]
def GivesN (w : World) (n : Nat) (e : Ending) (w' : World) : Prop := e = .returned (.int .i64 (n : Int)) ∧ Below w.heap.size w w'

theorem tail_all (xs : List ByteArray) : ((bs xs).drop 1).all Pt.part = ((bs xs).tail).all Pt.part := by simp
theorem part_drop {xs : List ByteArray} {k : Nat} (h : k < xs.length) : ((bs xs).drop k).all Pt.part = (Pt.part xs[k].data.toList && ((bs xs).drop (k + 1)).all Pt.part) := by
  rw [List.drop_eq_getElem_cons (by rw [bs_length]; exact h), List.all_cons, bs_get xs k h]
theorem bs_head {xs : List ByteArray} (h : 0 < xs.length) : (bs xs).headD [] = xs[0].data.toList := by
  cases xs with
  | nil => simp at h
  | cons x r => rfl

theorem rcheck_any (A : Option Addr) (xs : List ByteArray) (c : Nat) (b : Bool) (p : Pt.Pat) (w : World) (hp : PatR w A xs c b p) : Calls Tryz.prog 57 #[patV A xs.length c b] w (GivesN w (Pt.check p)) := by
  have hform : Pt.check p = if Pt.form p then (if p.parts.length ≤ 12 then 0 else 31) else 30 := rfl
  have hf : Pt.form p = ((decide (2 ≤ p.parts.length) || (decide (p.parts.length = 1) && p.rest)) && Pm.comp (p.parts.headD []) && p.parts.tail.all Pt.part) := rfl
  rw [hp.len, ← hp.rest, ← hp.parts] at hf
  rw [hp.len] at hform
  generalize Pt.check p = ck at hform
  generalize Pt.form p = fm at hf hform
  have hcm := hp.cm
  have hle := hp.le
  unfold maxLen at hcm
  by_cases h0 : xs.length = 0
  · have hfm : fm = false := by rw [hf, h0]; simp
    subst hfm
    have hck : ck = 30 := by rw [hform]; rfl
    subst hck
    rw [h0]
    clear hf hform hp h0 hle
    go_enter Tryz.func57, Tryz.ntmps57
    go_wp2
    go_ret
    exact ⟨rfl, (Below.refl _ _).alloc (Nat.le_refl _) _⟩
  · by_cases h1 : xs.length = 1 ∧ b = false
    · obtain ⟨h1, rfl⟩ := h1
      have hfm : fm = false := by rw [hf, h1]; simp
      subst hfm
      have hck : ck = 30 := by rw [hform]; rfl
      subst hck
      rw [h1]
      clear hf hform hp h0 h1 hle
      go_enter Tryz.func57, Tryz.ntmps57
      go_wp2
      go_ret
      exact ⟨rfl, (Below.refl _ _).alloc (Nat.le_refl _) _⟩
    · obtain ⟨g, o, hA, hg, hcell⟩ := hp.rd.cells (by omega)
      subst hA
      have hc0 := hcell 0 (by omega)
      rw [Nat.add_zero] at hc0
      have hsz0 := hp.sz _ (List.getElem_mem (show 0 < xs.length by omega))
      have HC0 := Lib.hid (fun w : World => rcomp_any xs[0] w hsz0)
      rw [bs_head (by omega)] at hf
      have hlen2 : (decide (2 ≤ xs.length) || (decide (xs.length = 1) && b)) = true := by
        by_cases h2 : 2 ≤ xs.length
        · rw [decide_eq_true h2]; rfl
        · have h3 : xs.length = 1 := by omega
          have h4 : b = true := by
            cases b with
            | true => rfl
            | false => exact absurd ⟨h3, rfl⟩ h1
          rw [h3, h4]
          rfl
      rw [hlen2, Bool.true_and] at hf
      have HCE := Lib.hid hcell
      have HSZ := Lib.hid hp.sz
      obtain ⟨n, hn⟩ : ∃ n, n = xs.length := ⟨_, rfl⟩
      rw [← hn] at h0 h1 hform hle ⊢
      have HN := Lib.hid hn
      have hn1 : ((n : Int) == 0) = false := by rw [beq_eq_false_iff_ne]; omega
      have hlt1 : (1 : Int) ≤ (n : Int) := by omega
      have hnc : (n : Int) ≤ (c : Int) := by omega
      clear hcell hp hsz0 hlen2 hn
      generalize xs[0] = x0 at *
      cases hcx : Pm.comp x0.data.toList with
      | false =>
        rw [hcx] at hf HC0
        have hfm : fm = false := by rw [hf]; rfl
        subst hfm
        have hck : ck = 30 := by rw [hform]; rfl
        subst hck
        clear hf hform hcx
        by_cases hn2 : n = 1
        · subst hn2
          have hb : b = true := by
            cases b with
            | true => rfl
            | false => exact absurd ⟨rfl, rfl⟩ h1
          subst hb
          clear h1
          go_enter Tryz.func57, Tryz.ntmps57
          go_wp2_with fail
          with_reducible refine (HC0.out _).mono ?_
          rintro e w' ⟨rfl, rfl⟩
          go_wp2
          go_ret
          exact ⟨rfl, (Below.refl _ _).alloc (Nat.le_refl _) _⟩
        · have hn3 : ((n : Int) == 1) = false := by rw [beq_eq_false_iff_ne]; omega
          clear h1
          go_enter Tryz.func57, Tryz.ntmps57
          go_wp2_with fail
          with_reducible refine (HC0.out _).mono ?_
          rintro e w' ⟨rfl, rfl⟩
          go_wp2
          go_ret
          exact ⟨rfl, (Below.refl _ _).alloc (Nat.le_refl _) _⟩
      | true =>
        rw [hcx, Bool.true_and, ← tail_all] at hf
        rw [hcx] at HC0
        have HF := Lib.hid hf
        have HFO := Lib.hid hform
        clear hcx hf hform
        have halloc : Below w.heap.size w (w.alloc (.cells #[.slice (some ⟨g, o, none⟩) n c, .bool b] 24)) := (Below.refl _ _).alloc (Nat.le_refl _) _
        by_cases hn2 : n = 1
        · subst hn2
          have hb : b = true := by
            cases b with
            | true => rfl
            | false => exact absurd ⟨rfl, rfl⟩ h1
          subst hb
          have hck : ck = 0 := by
            have h3 : ((bs xs).drop 1).all Pt.part = true := by
              rw [List.drop_of_length_le (by rw [bs_length, ← HN.out]; omega)]
              rfl
            rw [HFO.out, HF.out, h3]
            rfl
          subst hck
          clear h1
          by_cases hc1 : c = 1
          · subst hc1
            go_enter Tryz.func57, Tryz.ntmps57
            go_wp2_with fail
            with_reducible refine (HC0.out _).mono ?_
            rintro e w' ⟨rfl, rfl⟩
            go_wp2
            go_loop [32] (fun i => i = .int .i64 (0 : Nat)) (fun _ => 0)
            case atStart => rfl
            case round =>
              obtain rfl := hrel
              go_wp2
              go_ret
              exact ⟨rfl, halloc⟩
          · go_enter Tryz.func57, Tryz.ntmps57
            go_wp2_with fail
            with_reducible refine (HC0.out _).mono ?_
            rintro e w' ⟨rfl, rfl⟩
            go_wp2
            go_loop [32] (fun i => i = .int .i64 (0 : Nat)) (fun _ => 0)
            case atStart => rfl
            case round =>
              obtain rfl := hrel
              go_wp2
              go_ret
              exact ⟨rfl, halloc⟩
        · obtain ⟨m, rfl⟩ : ∃ m, n = m + 1 := ⟨n - 1, by omega⟩
          have hm1 : 1 ≤ m := by omega
          have hn3 : (((m + 1 : Nat) : Int) == 1) = false := by rw [beq_eq_false_iff_ne]; omega
          have hn4 : (((m : Int) + 1) == 1) = false := by rw [beq_eq_false_iff_ne]; omega
          have hn5 : (((m : Int) + 1) == 0) = false := by rw [beq_eq_false_iff_ne]; omega
          have hcn : ¬ c = 1 := by omega
          have hmc : (m : Int) + 1 ≤ (c : Int) := by omega
          have hcx9 : (c : Int) ≤ 9223372036854775807 := by omega
          have HALL := Lib.hid halloc
          have HH1 := Lib.hid h1
          clear h1 hn2 h0 halloc hle hn1 hlt1 hnc hcm
          go_enter Tryz.func57, Tryz.ntmps57
          go_wp2_with fail
          with_reducible refine (HC0.out _).mono ?_
          rintro e w' ⟨rfl, rfl⟩
          go_wp2
          go_loop [32] (fun i => ∃ k : Nat, k ≤ m ∧ i = .int .i64 k ∧ ((bs xs).drop (k + 1)).all Pt.part = ((bs xs).drop 1).all Pt.part) (fun i => m - (intOf i).toNat)
          case atStart => exact ⟨0, by omega, rfl, rfl⟩
          case round =>
            obtain ⟨k, hkm, rfl, hall⟩ := hrel
            have HA := Lib.hid hall
            clear hall
            by_cases hlt : k < m
            · have hlx : k + 1 < xs.length := by rw [← HN.out]; omega
              have hce := HCE.out (k + 1) hlx
              rw [show o + (k + 1) = o + 1 + k by omega] at hce
              have hsz := HSZ.out _ (List.getElem_mem hlx)
              have HD := Lib.hid (part_drop hlx)
              generalize xs[k + 1] = x at hce hsz HD
              have HP := Lib.hid (fun w : World => rpart_any x w hsz)
              clear hsz
              cases hv : Pt.part x.data.toList with
              | true =>
                rw [hv] at HP HD
                go_wp2_with fail
                with_reducible refine (HP.out _).mono ?_
                rintro e w' ⟨rfl, rfl⟩
                go_wp2
                go_round
                case rel => exact ⟨k + 1, by omega, by go_num, by have := HD.out; rw [HA.out] at this; simpa using this.symm⟩
                case measure => simp [intOf]; omega
              | false =>
                rw [hv] at HP HD
                have hck : ck = 30 := by
                  have := HD.out
                  rw [HA.out, Bool.false_and] at this
                  rw [HFO.out, HF.out, this]
                  rfl
                subst hck
                go_wp2_with fail
                with_reducible refine (HP.out _).mono ?_
                rintro e w' ⟨rfl, rfl⟩
                go_wp2
                go_ret
                exact ⟨rfl, HALL.out⟩
            · have hck : ck = if m + 1 ≤ 12 then 0 else 31 := by
                have := HA.out
                rw [List.drop_of_length_le (by rw [bs_length, ← HN.out]; omega)] at this
                rw [HFO.out, HF.out, ← this]
                rfl
              by_cases h12 : m + 1 ≤ 12
              · rw [if_pos h12] at hck
                subst hck
                have h12i : (m : Int) + 1 ≤ 12 := by omega
                go_wp2
                go_ret
                exact ⟨rfl, HALL.out⟩
              · rw [if_neg h12] at hck
                subst hck
                have h12i : ¬ (m : Int) + 1 ≤ 12 := by omega
                have h12j : (12 : Int) < (m : Int) + 1 := by omega
                go_wp2
                go_ret
                exact ⟨rfl, HALL.out⟩
end Go.Proofs.YthgcnlhlhipllaaGreatDoor
