/- region.Meet: what it means; the other way round; of a region with itself. -/
import Derived.Test.YtembmegllpkmfaaGreatDoorRegMeet
namespace Go.Proofs.YtembmegllpkmfaaGreatDoor
open Go.RowKit
set_option linter.unusedVariables false
theorem SzG.more {K M : Nat} {g : Pt.Rg.Reg} (h : SzG K g) (hm : K ≤ M) : SzG M g := ⟨h.1.more hm, fun x hx => (h.2 x hx).more hm⟩
def zeroG : Pt.Rg.Reg := ⟨Pt.none_, []⟩
/-- A region or the zero one, and whether there is one. -/
def GivesM1 (w : World) (o : Option Pt.Rg.Reg) (n : Nat) (e : Ending) (w' : World) : Prop :=
  ∃ A xs c b H bl f, e = .returned (.tuple #[regV A (List.length xs) c b H (List.length bl) f, .bool o.isSome, .int .i64 (n : Int)]) ∧ RegR w' A xs c b H bl f (o.getD zeroG) ∧ Below w.heap.size w w'
/-- The same, by its parts. -/
def GivesMJ (w : World) (x : Pt.Rg.Reg) (j : Bool) (n : Nat) (e : Ending) (w' : World) : Prop :=
  ∃ A xs c b H bl f, e = .returned (.tuple #[regV A (List.length xs) c b H (List.length bl) f, .bool j, .int .i64 (n : Int)]) ∧ RegR w' A xs c b H bl f x ∧ Below w.heap.size w w'
theorem meet1_any (A B : Option Addr) (xs ys : List ByteArray) (c d : Nat) (b f : Bool) (H K : Option Addr) (bl cl : List BindV) (e m : Nat) (g h : Pt.Rg.Reg) (w : World) (hg : RegR w A xs c b H bl e g) (hh : RegR w B ys d f K cl m h) (sg : SzG 100000 g) (sh : SzG 100000 h) :
    Calls Tryz.prog 15 #[regV A xs.length c b H bl.length e, regV B ys.length d f K cl.length m] w (GivesM1 w (Pt.Rg.meetR g h).1 (Pt.Rg.meetR g h).2) := by
  refine (meet5_any A B xs ys c d b f H K bl cl e m g h w hg hh sg sh).mono ?_
  intro en w' hh
  unfold GivesMt at hh
  cases ho : (Pt.Rg.meetR g h).1 with
  | none =>
    rw [ho] at hh
    obtain ⟨rfl, hb⟩ := hh
    exact ⟨none, [], 0, false, none, [], 0, rfl, RdB_nil_reg w', hb⟩
  | some x =>
    rw [ho] at hh
    obtain ⟨A', xs', c', b', H', bl', f', rfl, hr, hb, _⟩ := hh
    exact ⟨A', xs', c', b', H', bl', f', rfl, hr, hb⟩
theorem meetR_form {a b : Pt.Rg.Reg} (ha : Pt.Rg.gcheck a = 0) (hb : Pt.Rg.gcheck b = 0) : Pt.Rg.meetR a b = match Pt.meet a.base b.base with
    | none => (none, 0)
    | some C => if (⟨C, a.holes ++ b.holes⟩ : Pt.Rg.Reg).simp.holes.length ≤ 64 then (if (⟨C, a.holes ++ b.holes⟩ : Pt.Rg.Reg).simp.empty then none else some (⟨C, a.holes ++ b.holes⟩ : Pt.Rg.Reg).simp, 0) else (none, 52) := by
  unfold Pt.Rg.meetR
  rw [if_pos ha, if_pos hb]
  cases Pt.meet a.base b.base with
  | none => rfl
  | some C =>
    simp only
    by_cases h : (⟨C, a.holes ++ b.holes⟩ : Pt.Rg.Reg).simp.holes.length ≤ 64
    · rw [if_pos h, withP_one h]
      cases (⟨C, a.holes ++ b.holes⟩ : Pt.Rg.Reg).simp.empty <;> rfl
    · rw [if_neg h, withP_bad h]
theorem meetR_zero {a b : Pt.Rg.Reg} (h : (Pt.Rg.meetR a b).2 = 0) : Pt.Rg.gcheck a = 0 ∧ Pt.Rg.gcheck b = 0 := by
  unfold Pt.Rg.meetR at h
  by_cases h1 : Pt.Rg.gcheck a = 0
  · rw [if_pos h1] at h
    by_cases h2 : Pt.Rg.gcheck b = 0
    · exact ⟨h1, h2⟩
    · rw [if_neg h2] at h
      exact absurd h h2
  · rw [if_neg h1] at h
    exact absurd h h1
theorem meetR_some {a b x : Pt.Rg.Reg} (h : (Pt.Rg.meetR a b).1 = some x) : (Pt.Rg.meetR a b).2 = 0 ∧ Pt.Rg.gcheck x = 0 ∧ ∀ s, x.has s = (a.has s && b.has s) := by
  have hz : Pt.Rg.gcheck a = 0 ∧ Pt.Rg.gcheck b = 0 := by
    unfold Pt.Rg.meetR at h
    by_cases h1 : Pt.Rg.gcheck a = 0
    · rw [if_pos h1] at h
      by_cases h2 : Pt.Rg.gcheck b = 0
      · exact ⟨h1, h2⟩
      · rw [if_neg h2] at h; cases h
    · rw [if_neg h1] at h; cases h
  have hf := meetR_form hz.1 hz.2
  have h2 : (Pt.Rg.meetR a b).2 = 0 ∧ Pt.Rg.gcheck x = 0 := by
    cases hm : Pt.meet a.base b.base with
    | none => rw [hf, hm] at h; cases h
    | some C =>
      rw [hm] at hf
      simp only at hf
      by_cases h64 : (⟨C, a.holes ++ b.holes⟩ : Pt.Rg.Reg).simp.holes.length ≤ 64
      · rw [if_pos h64] at hf
        refine ⟨by rw [hf], ?_⟩
        rw [hf] at h
        simp only at h
        split at h
        · cases h
        · obtain rfl := Option.some.inj h
          exact Pt.Rg.simp_gcheck (Pt.meet_ok hm) h64
      · rw [if_neg h64] at hf
        rw [hf] at h
        cases h
  refine ⟨h2.1, h2.2, fun s => ?_⟩
  have h3 := Pt.Rg.meetR_has h2.1 hz.1 hz.2 s
  rw [h] at h3
  simpa using h3
theorem meetR_no {a b : Pt.Rg.Reg} (h0 : (Pt.Rg.meetR a b).2 = 0) (h : (Pt.Rg.meetR a b).1 = none) (s : List UInt8) : (a.has s && b.has s) = false := by
  obtain ⟨ha, hb⟩ := meetR_zero h0
  have h3 := Pt.Rg.meetR_has h0 ha hb s
  rw [h] at h3
  simpa using h3.symm
theorem simp_swap (B : Pt.Pat) (H K : List Pt.Pat) : (⟨B, H ++ K⟩ : Pt.Rg.Reg).simp = (⟨B, K ++ H⟩ : Pt.Rg.Reg).simp := by
  have h := ((Pt.Rg.simpL_is B (H ++ K)).same (H' := K ++ H) (fun y => by rw [List.mem_append, List.mem_append]; exact Or.comm)).eq
  show (⟨B, Pt.Rg.simpL B (H ++ K)⟩ : Pt.Rg.Reg) = ⟨B, Pt.Rg.simpL B (K ++ H)⟩
  rw [h]
theorem simp_double (B : Pt.Pat) (H : List Pt.Pat) : (⟨B, H ++ H⟩ : Pt.Rg.Reg).simp = (⟨B, H⟩ : Pt.Rg.Reg).simp := by
  have h := ((Pt.Rg.simpL_is B (H ++ H)).same (H' := H) (fun y => by rw [List.mem_append]; exact or_self_iff)).eq
  show (⟨B, Pt.Rg.simpL B (H ++ H)⟩ : Pt.Rg.Reg) = ⟨B, Pt.Rg.simpL B H⟩
  rw [h]
theorem meetR_comm (a b : Pt.Rg.Reg) : (Pt.Rg.meetR b a).1 = (Pt.Rg.meetR a b).1 ∧ ((Pt.Rg.meetR b a).2 = 0 ↔ (Pt.Rg.meetR a b).2 = 0) := by
  by_cases ha : Pt.Rg.gcheck a = 0
  · by_cases hb : Pt.Rg.gcheck b = 0
    · rw [meetR_form ha hb, meetR_form hb ha, Pt.meet_comm (p := b.base)]
      cases Pt.meet a.base b.base with
      | none => exact ⟨rfl, Iff.rfl⟩
      | some C =>
        simp only
        rw [simp_swap C b.holes a.holes]
        exact ⟨rfl, Iff.rfl⟩
    · simp [Pt.Rg.meetR, ha, hb]
  · by_cases hb : Pt.Rg.gcheck b = 0
    · simp [Pt.Rg.meetR, ha, hb]
    · simp [Pt.Rg.meetR, ha, hb]
theorem meetR_self (a : Pt.Rg.Reg) : (Pt.Rg.meetR a a).2 = Pt.Rg.gcheck a ∧ ((Pt.Rg.meetR a a).1.isSome = true → (Pt.Rg.meetR a a).1.getD zeroG = if Pt.Rg.gcheck a = 0 then a.simp else zeroG) := by
  by_cases ha : Pt.Rg.gcheck a = 0
  · obtain ⟨kB, kH, k64⟩ := Pt.Rg.gcheck_zero.1 ha
    have h64 : a.simp.holes.length ≤ 64 := Nat.le_trans (simp_holes_len a) k64
    rw [meetR_form ha ha, Pt.meet_self (Pt.Rg.within_refl kB)]
    simp only
    have hs : (⟨a.base, a.holes ++ a.holes⟩ : Pt.Rg.Reg).simp = a.simp := simp_double a.base a.holes
    rw [hs, if_pos h64, if_pos ha]
    refine ⟨ha.symm, fun h => ?_⟩
    simp only at h ⊢
    cases he : a.simp.empty with
    | true => rw [he] at h; cases h
    | false => rfl
  · unfold Pt.Rg.meetR
    rw [if_neg ha]
    exact ⟨rfl, fun h => by cases h⟩
theorem meet_pure (a b : Pt.Rg.Reg) (s : List UInt8) (h0 : (Pt.Rg.meetR a b).2 = 0) : ((Pt.Rg.meetR a b).1.isSome && (decide (Pt.Rg.gcheck ((Pt.Rg.meetR a b).1.getD zeroG) = 0) && ((Pt.Rg.meetR a b).1.getD zeroG).has s)) = ((decide (Pt.Rg.gcheck a = 0) && a.has s) && (decide (Pt.Rg.gcheck b = 0) && b.has s)) := by
  obtain ⟨z0, z1⟩ := meetR_zero h0
  rw [z0, z1]
  cases hx : (Pt.Rg.meetR a b).1 with
  | none =>
    have y := meetR_no h0 hx s
    simp [y]
  | some x =>
    obtain ⟨_, y1, y2⟩ := meetR_some hx
    simp [y1, y2]
end Go.Proofs.YtembmegllpkmfaaGreatDoor
