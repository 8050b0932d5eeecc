/- Least paths once more: of a single path as a region; empty regions have none. -/
import Derived.Test.YtembmegllpkmfaaGreatDoorRegShort
namespace Go.Proofs.YtembmegllpkmfaaGreatDoor
open Go.RowKit
set_option linter.unusedVariables false
theorem allPm_lit : ∀ {l m : List (List UInt8)}, (∀ x ∈ l, Pm.comp x = true) → m.length = l.length → (Pt.allPm l m = true ↔ m = l)
  | [], [], _, _ => by simp [Pt.allPm]
  | x :: l, y :: m, h, hl => by
    rw [Pt.allPm, Bool.and_eq_true, Pt.pm_comp (Pt.comp_star (h x (by simp))), allPm_lit (fun z hz => h z (List.mem_cons_of_mem _ hz)) (by simpa using hl)]
    simp
  | [], _ :: _, _, h => by simp at h
  | _ :: _, [], _, h => by simp at h
theorem join_back {l m : List (List UInt8)} (hc : ∀ x ∈ m, Pm.comp x = true) (h : Pt.pathO (Pm.join m) = some l) : m = l := by
  cases m with
  | nil =>
    have h0 : Pt.pathO (Pm.join []) = none := by decide
    rw [h0] at h
    cases h
  | cons a m =>
    have hp := Pm.parts_join (l := a :: m) (by simp) hc
    unfold Pt.pathO at h
    split at h
    · rw [hp] at h
      exact Option.some.inj h
    · cases h
theorem point_least {l : List (List UInt8)} {H : List Pt.Pat} {s : List UInt8} (hs : Pt.pathO s = some l) (hk : Pt.Rg.gcheck ⟨⟨l, false⟩, H⟩ = 0) :
    leastR ⟨⟨l, false⟩, H⟩ = if (H.any fun h => (Pt.matchP h s).isSome) = true then none else some l := by
  obtain ⟨kB, kH, k64⟩ := Pt.Rg.gcheck_zero.1 hk
  obtain ⟨e, h2, hc⟩ := Pt.pathO_some.1 hs
  obtain ⟨sB, sH, s64⟩ := Pt.Rg.gcheck_zero.1 (simp_check hk)
  have h1 := Pt.Rg.leastO_is sB sH s64
  have hm : ∀ t, (Pt.matchP ⟨l, false⟩ t).isSome = true ↔ Pt.pathO t = some l := fun t => by
    rw [Pt.matchP_isSome]
    constructor
    · rintro ⟨_, m, q1, q2, q3⟩
      have hlen : m.length = l.length := by simpa [Pt.fits] using q2
      rw [q1, (allPm_lit hc hlen).1 q3]
    · intro q
      exact ⟨kB, l, q, by simp [Pt.fits], (allPm_lit hc rfl).2 rfl⟩
  have hone : ∀ t, Pt.pathO t = some l → t = s := fun t q => by rw [(Pt.pathO_some.1 q).1, e]
  unfold leastR
  rw [if_pos hk]
  refine h1.one (H' := H) ?_ (fun t => Pt.Rg.Reg.simp_has ⟨⟨l, false⟩, H⟩ t)
  by_cases hin : (H.any fun h => (Pt.matchP h s).isSome) = true
  · rw [if_pos hin]
    refine ⟨fun l' q => (by cases q), fun _ t => ?_⟩
    show Pt.Rg.has ⟨l, false⟩ H t = false
    unfold Pt.Rg.has
    cases hmt : (Pt.matchP ⟨l, false⟩ t).isSome with
    | false => rfl
    | true => rw [hone t ((hm t).1 hmt), hin]; rfl
  · rw [if_neg hin]
    refine ⟨fun l' q => ?_, fun q => (by cases q)⟩
    obtain rfl := Option.some.inj q
    refine ⟨h2, hc, ?_, fun m hcm q => ?_⟩
    · show Pt.Rg.has ⟨l, false⟩ H (Pm.join l) = true
      unfold Pt.Rg.has
      rw [← e, (hm s).2 hs, Bool.eq_false_iff.2 hin]
      rfl
    · have q1 : (Pt.matchP ⟨l, false⟩ (Pm.join m)).isSome = true := by
        unfold Pt.Rg.has at q
        rw [Bool.and_eq_true] at q
        exact q.1
      rw [join_back hcm ((hm _).1 q1)]
      unfold Pt.Rg.ordP
      rw [if_neg (by simp)]
      have h := Pt.Rg.ordL_neg l l
      omega
theorem point_str {l : List (List UInt8)} {s : ByteArray} (hs : Pt.pathO s.data.toList = some l) : leastS (some l) = s := by
  show (⟨(Pm.join l).toArray⟩ : ByteArray) = s
  rw [← (Pt.pathO_some.1 hs).1]
/-- What region.Empty says, by the least path. -/
theorem empty_val {g : Pt.Rg.Reg} (hk : Pt.Rg.gcheck g = 0) : (Pt.Rg.lenN g.simp.base g.simp.holes).isNone = !(leastR g).isSome := by
  obtain ⟨sB, sH, s64⟩ := Pt.Rg.gcheck_zero.1 (simp_check hk)
  have h := Pt.Rg.lenN_some sB sH s64
  unfold leastR
  rw [if_pos hk, ← h]
  cases Pt.Rg.lenN g.simp.base g.simp.holes <;> rfl
theorem least_is {g : Pt.Rg.Reg} (hk : Pt.Rg.gcheck g = 0) : Pt.Rg.IsLeast g.base g.simp.holes (leastR g) := by
  obtain ⟨sB, sH, s64⟩ := Pt.Rg.gcheck_zero.1 (simp_check hk)
  have h1 := Pt.Rg.leastO_is sB sH s64
  unfold leastR
  rw [if_pos hk]
  exact h1
theorem least_has {g : Pt.Rg.Reg} (hk : Pt.Rg.gcheck g = 0) {l : List (List UInt8)} (h : leastR g = some l) : g.has (Pm.join l) = true ∧ 2 ≤ l.length ∧ (∀ c ∈ l, Pm.comp c = true) ∧ ∀ s m, Pt.pathO s = some m → g.has s = true → Pt.Rg.ordP l m ≤ 0 := by
  obtain ⟨a, b, c, d⟩ := (least_is hk).1 l h
  refine ⟨(Pt.Rg.Reg.simp_has g _).symm.trans c, a, b, fun s m hs hh => ?_⟩
  obtain ⟨e, _, hc⟩ := Pt.pathO_some.1 hs
  exact d m hc (by rw [← e]; exact (Pt.Rg.Reg.simp_has g s).trans hh)
theorem least_none {g : Pt.Rg.Reg} (hk : Pt.Rg.gcheck g = 0) (h : leastR g = none) (s : List UInt8) : g.has s = false := (Pt.Rg.Reg.simp_has g s).symm.trans ((least_is hk).2 h s)
theorem least_len {g : Pt.Rg.Reg} (hk : Pt.Rg.gcheck g = 0) (hz : SzG 60 g) {l : List (List UInt8)} (h : leastR g = some l) : (Pm.join l).length ≤ 1000 := by
  obtain ⟨sB, sH, s64⟩ := Pt.Rg.gcheck_zero.1 (simp_check hk)
  have h1 := Pt.Rg.lenN_some sB sH s64
  unfold leastR at h
  rw [if_pos hk] at h
  rw [h] at h1
  cases hn : Pt.Rg.lenN g.simp.base g.simp.holes with
  | none => rw [hn] at h1; cases h1
  | some n =>
    obtain ⟨l', _, e, hl, _, h13, _, hx⟩ := Pt.Rg.names_least sB (fun x hh => ⟨sH x hh, simp_holes x hh⟩) s64 (K := 60) hz.1 (by decide) hn
    rw [h] at e
    obtain rfl := Option.some.inj e
    have h2 := lib_join_len 61 l hx
    have h3 : l.length * (61 + 1) ≤ 13 * 62 := Nat.mul_le_mul (by omega) (Nat.le_refl _)
    unfold Pm.join
    simp only [List.length_cons]
    omega
theorem leastS_size {g : Pt.Rg.Reg} (hk : Pt.Rg.gcheck g = 0) (hz : SzG 60 g) {l : List (List UInt8)} (h : leastR g = some l) : (leastS (some l)).size ≤ 1000 := by
  have h1 := least_len hk hz h
  rw [Lib.size_eq]
  unfold leastS
  simpa using h1
theorem leastS_text (l : List (List UInt8)) : (leastS (some l)).data.toList = Pm.join l := by
  unfold leastS
  simp
theorem has_pathO {g : Pt.Rg.Reg} {s : List UInt8} (h : g.has s = true) : ∃ m, Pt.pathO s = some m := by
  have h1 : (Pt.matchP g.base s).isSome = true := by
    have h2 : Pt.Rg.has g.base g.holes s = true := h
    unfold Pt.Rg.has at h2
    rw [Bool.and_eq_true] at h2
    exact h2.1
  obtain ⟨_, m, h3, _⟩ := Pt.matchP_isSome.1 h1
  exact ⟨m, h3⟩
end Go.Proofs.YtembmegllpkmfaaGreatDoor
