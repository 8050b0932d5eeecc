/- What the law of parts asks of the answers of Meet and Minus. -/
import Derived.Test.YtembmegllpkmfaaGreatDoorRegMinusL
import Derived.Test.YtembmegllpkmfaaGreatDoorRegMeetL
namespace Go.Proofs.YtembmegllpkmfaaGreatDoor
open Go.RowKit
set_option linter.unusedVariables false
theorem two_count {α : Type} (l : List α) (f : α → Bool) (i k : Nat) (hi : i < l.length) (hk : k < i) (h : (l.filter f).length ≤ 1) (h1 : f l[i] = true) : f (l[k]'(Nat.lt_trans hk hi)) = false := by
  cases h2 : f (l[k]'(Nat.lt_trans hk hi)) with
  | false => rfl
  | true =>
    exfalso
    have e : l = l.take i ++ (l[i] :: l.drop (i + 1)) := by
      rw [← List.drop_eq_getElem_cons hi, List.take_append_drop]
    have hm : l[k]'(Nat.lt_trans hk hi) ∈ (l.take i).filter f := by
      rw [List.mem_filter]
      refine ⟨?_, h2⟩
      have h3 : k < (l.take i).length := by rw [List.length_take]; omega
      have h4 : (l.take i)[k] = l[k]'(Nat.lt_trans hk hi) := List.getElem_take
      rw [← h4]
      exact List.getElem_mem h3
    have h5 : 0 < ((l.take i).filter f).length := List.length_pos_of_mem hm
    rw [e, List.filter_append, List.length_append, List.filter_cons_of_pos h1, List.length_cons] at h
    omega
theorem meetR_full {a b x : Pt.Rg.Reg} (h : (Pt.Rg.meetR a b).1 = some x) : x.empty = false ∧ ∃ C, Pt.meet a.base b.base = some C ∧ x = (⟨C, a.holes ++ b.holes⟩ : Pt.Rg.Reg).simp := by
  have hz : Pt.Rg.gcheck a = 0 ∧ Pt.Rg.gcheck b = 0 := meetR_zero (meetR_some h).1
  have hf := meetR_form hz.1 hz.2
  cases hm : Pt.meet a.base b.base with
  | none => rw [hf, hm] at h; cases h
  | some C =>
    rw [hm] at hf
    simp only at hf
    by_cases h64 : (⟨C, a.holes ++ b.holes⟩ : Pt.Rg.Reg).simp.holes.length ≤ 64
    · rw [if_pos h64] at hf
      rw [hf] at h
      simp only at h
      split at h
      · cases h
      · rename_i he
        obtain rfl := Option.some.inj h
        exact ⟨by simpa using he, C, rfl, rfl⟩
    · rw [if_neg h64] at hf
      rw [hf] at h
      cases h
theorem parts_meet {l : List Pt.Rg.Reg} (h : ∀ s, (l.filter fun g => g.has s).length ≤ 1) {i k : Nat} (hi : i < l.length) (hk : k < i) : (Pt.Rg.meetR l[i] (l[k]'(Nat.lt_trans hk hi))).1 = none := by
  cases hx : (Pt.Rg.meetR l[i] (l[k]'(Nat.lt_trans hk hi))).1 with
  | none => rfl
  | some x =>
    exfalso
    obtain ⟨_, y1, y2⟩ := meetR_some hx
    have he := (meetR_full hx).1
    have hne : ¬ ∀ s, x.has s = false := fun hh => by
      rw [(Pt.Rg.empty_iff y1).2 hh] at he
      cases he
    apply hne
    intro s
    rw [y2 s]
    cases h1 : l[i].has s with
    | false => rfl
    | true =>
      rw [Bool.true_and]
      exact two_count l (fun g => g.has s) i k hi hk (h s) h1
/-- The list of the law: what is left, and the intersection behind it. -/
def partsL (a b : Pt.Rg.Reg) (r : List Pt.Rg.Reg) : List Pt.Rg.Reg := r ++ (Pt.Rg.meetR a b).1.toList
theorem withP_len : ∀ {l r : List Pt.Rg.Reg}, Pt.Rg.withP l = some r → r.length ≤ l.length
  | [], r, h => by
    unfold Pt.Rg.withP at h
    rw [← Option.some.inj h]
    exact Nat.le_refl _
  | g :: l, r, h => by
    unfold Pt.Rg.withP at h
    split at h
    · cases hw : Pt.Rg.withP l with
      | none => rw [hw] at h; cases h
      | some r' =>
        rw [hw] at h
        have ih := withP_len hw
        rw [Option.map_some] at h
        rw [← Option.some.inj h]
        split
        · simp; omega
        · simp; omega
    · cases h
theorem minusGo_len (a : Pt.Rg.Reg) : ∀ (l pre : List Pt.Pat), (Pt.Rg.minusGo a pre l).length ≤ l.length
  | [], pre => Nat.le_refl _
  | h :: l, pre => by
    unfold Pt.Rg.minusGo
    have ih := minusGo_len a l (pre ++ [h])
    rw [List.length_append, List.length_cons]
    cases Pt.meet a.base h <;> simp <;> omega
theorem minusR_len {a b : Pt.Rg.Reg} {r : List Pt.Rg.Reg} {n : Nat} (h : Pt.Rg.minusR a b = (some r, n)) : r.length ≤ 65 := by
  unfold Pt.Rg.minusR at h
  split at h
  · split at h
    · rename_i h1 h2
      cases hw : Pt.Rg.withP (Pt.Rg.minusL a b) with
      | none => rw [hw] at h; cases h
      | some r' =>
        rw [hw] at h
        injection h with h3 h4
        injection h3 with h3
        subst h3
        have e1 := withP_len hw
        have e2 := minusGo_len a b.simp.holes []
        have e3 := simp_holes_len b
        have e4 := (Pt.Rg.gcheck_zero.1 h2).2.2
        unfold Pt.Rg.minusL at e1
        rw [List.length_cons] at e1
        omega
    · cases h
  · cases h
theorem parts_pure (a b : Pt.Rg.Reg) (ha : SzG 60 a) (hb : SzG 60 b) (h0 : (Pt.Rg.meetR a b).2 = 0) :
    (∃ n, Pt.Rg.minusR a b = (none, n) ∧ n ≠ 0) ∨ ∃ r, Pt.Rg.minusR a b = (some r, 0) ∧ Pt.Rg.gcheck a = 0 ∧ (∀ x ∈ partsL a b r, SzG 100000 x) ∧ (∀ (i k : Nat) (hi : i < (partsL a b r).length) (hk : k < i), (Pt.Rg.meetR (partsL a b r)[i] ((partsL a b r)[k]'(Nat.lt_trans hk hi))).1 = none) ∧
      (decide (Pt.Rg.gcheck a = 0) && (Pt.Rg.lenN a.simp.base a.simp.holes).isNone) = decide (partsL a b r = []) := by
  obtain ⟨h1, h2⟩ := meetR_zero h0
  have hm : Pt.Rg.minusR a b = match Pt.Rg.withP (Pt.Rg.minusL a b) with
    | none => (none, 52)
    | some l => (some l, 0) := by
    unfold Pt.Rg.minusR
    rw [if_pos h1, if_pos h2]
    cases Pt.Rg.withP (Pt.Rg.minusL a b) <;> rfl
  have hsz := minusL_sz ha hb (Pt.Rg.gcheck_zero.1 h1).1
  cases hw : Pt.Rg.withP (Pt.Rg.minusL a b) with
  | none =>
    rw [hw] at hm
    exact .inl ⟨52, hm, by decide⟩
  | some r =>
    rw [hw] at hm
    have hmem := Pt.Rg.withP_mem hw (fun g hg => (hsz g hg).2)
    have hcnt : ∀ s, ((partsL a b r).filter fun g => g.has s).length = if a.has s then 1 else 0 := by
      intro s
      have e1 : (r.filter fun g => g.has s).length = if a.has s && !b.has s then 1 else 0 := by
        have h := Pt.Rg.withP_count hw (fun g hg => (hsz g hg).2) s
        rw [Pt.Rg.minusL_count] at h
        exact h
      have e2 := Pt.Rg.meetR_has h0 h1 h2 s
      unfold partsL
      rw [List.filter_append, List.length_append, e1]
      cases hx : (Pt.Rg.meetR a b).1 with
      | none =>
        rw [hx] at e2
        simp only [Option.any_none] at e2
        simp only [Option.toList_none, List.filter_nil, List.length_nil]
        clear hw hm hsz hmem e1 hx
        revert e2
        cases a.has s <;> cases b.has s <;> simp
      | some x =>
        rw [hx] at e2
        simp only [Option.any_some] at e2
        simp only [Option.toList_some, List.filter_cons, List.filter_nil]
        rw [e2]
        clear hw hm hsz hmem e1 hx e2
        cases a.has s <;> cases b.has s <;> simp
    have hall : ∀ x ∈ partsL a b r, Pt.Rg.gcheck x = 0 ∧ x.empty = false := by
      intro x hx
      rcases List.mem_append.1 hx with hx | hx
      · obtain ⟨x1, x2, _, _⟩ := hmem x hx
        exact ⟨x1, x2⟩
      · have hx2 : (Pt.Rg.meetR a b).1 = some x := by
          cases ho : (Pt.Rg.meetR a b).1 with
          | none => rw [ho] at hx; cases hx
          | some y => rw [ho] at hx; simp at hx; rw [hx]
        exact ⟨(meetR_some hx2).2.1, (meetR_full hx2).1⟩
    refine .inr ⟨r, hm, h1, fun x hx => ?_, fun i k hi hk => parts_meet (fun s => by rw [hcnt s]; split <;> omega) hi hk, ?_⟩
    · rcases List.mem_append.1 hx with hx | hx
      · obtain ⟨_, _, _, y, hy, x4⟩ := hmem x hx
        rw [x4]
        exact (hsz y hy).1.simp.more (by decide)
      · have hx2 : (Pt.Rg.meetR a b).1 = some x := by
          cases ho : (Pt.Rg.meetR a b).1 with
          | none => rw [ho] at hx; cases hx
          | some y => rw [ho] at hx; simp at hx; rw [hx]
        obtain ⟨_, C, hC, rfl⟩ := meetR_full hx2
        exact (szG_two ha hb hC).simp.more (by decide)
    · rw [h1, decide_eq_true rfl, Bool.true_and]
      show a.simp.empty = _
      rw [Pt.Rg.empty_simp h1]
      cases hp : partsL a b r with
      | nil =>
        rw [decide_eq_true rfl]
        refine (Pt.Rg.empty_iff h1).2 fun s => ?_
        have h := hcnt s
        rw [hp] at h
        cases hs : a.has s with
        | false => rfl
        | true => rw [hs] at h; simp at h
      | cons x xs =>
        rw [decide_eq_false (by simp)]
        obtain ⟨x1, x2⟩ := hall x (by rw [hp]; simp)
        cases he : a.empty with
        | false => rfl
        | true =>
          exfalso
          have hne : ¬ ∀ s, x.has s = false := fun hh => by
            rw [(Pt.Rg.empty_iff x1).2 hh] at x2
            cases x2
          apply hne
          intro s
          have h := hcnt s
          rw [(Pt.Rg.empty_iff h1).1 he s, hp] at h
          cases hs : x.has s with
          | false => rfl
          | true => rw [List.filter_cons_of_pos (by simpa using hs)] at h; simp at h
/-- Minus's answer, whatever it is. -/
def GivesMnW (w : World) (e : Ending) (w' : World) : Prop := ∃ A n c z, e = .returned (.tuple #[.slice A n c, .int .i64 z]) ∧ Below w.heap.size w w'
theorem GivesMn.weak {w w' : World} {o : Option (List Pt.Rg.Reg) × Nat} {e : Ending} (h : GivesMn w o e w') : GivesMnW w e w' := by
  unfold GivesMn at h
  cases ho : o.1 with
  | none =>
    rw [ho] at h
    obtain ⟨rfl, hb⟩ := h
    exact ⟨none, 0, 0, _, rfl, hb⟩
  | some r =>
    rw [ho] at h
    obtain ⟨A, ol, c, rfl, _, _, hb, _⟩ := h
    exact ⟨A, _, c, _, rfl, hb⟩
/-- Meet tells that there is none. -/
def GivesNo (w : World) (e : Ending) (w' : World) : Prop := ∃ A n c b H m f z, e = .returned (.tuple #[regV A n c b H m f, .bool false, .int .i64 z]) ∧ Below w.heap.size w w'
theorem parts_call {ol : List RegV} {L : List Pt.Rg.Reg} (hol : ol.map RegV.reg = L) (hall : ∀ x ∈ L, SzG 100000 x) (hno : ∀ (i k : Nat) (hi : i < L.length) (hk : k < i), (Pt.Rg.meetR L[i] (L[k]'(Nat.lt_trans hk hi))).1 = none)
    {A : Option Addr} {c : Nat} {U w' : World} (hrd : RdG U A ol c) (hb : Below U.heap.size U w') {i k : Nat} (hi : i < ol.length) (hk : k < ol.length) (hik : k < i) :
    Calls Tryz.prog 15 #[regV ol[i].A ol[i].xs.length ol[i].c ol[i].b ol[i].H ol[i].bl.length ol[i].e, regV ol[k].A ol[k].xs.length ol[k].c ol[k].b ol[k].H ol[k].bl.length ol[k].e] w' (GivesNo w') := by
  subst hol
  have h1 := hno i k (by rw [List.length_map]; exact hi) hik
  rw [List.getElem_map, List.getElem_map] at h1
  have hm := meet1_any ol[i].A ol[k].A ol[i].xs ol[k].xs ol[i].c ol[k].c ol[i].b ol[k].b ol[i].H ol[k].H ol[i].bl ol[k].bl ol[i].e ol[k].e ol[i].reg ol[k].reg w' ((hrd.parts _ (List.getElem_mem hi)).keep hb) ((hrd.parts _ (List.getElem_mem hk)).keep hb) (hall _ (List.mem_map_of_mem (List.getElem_mem hi))) (hall _ (List.mem_map_of_mem (List.getElem_mem hk)))
  refine hm.mono fun e w'' h => ?_
  obtain ⟨A', xs', c', b', H', bl', f', he, _, hb'⟩ := h
  rw [h1] at he
  exact ⟨A', _, c', b', H', _, f', _, he, hb'⟩
theorem parts_none {a b : Pt.Rg.Reg} {r : List Pt.Rg.Reg} (h : false = (Pt.Rg.meetR a b).1.isSome) : partsL a b r = r := by
  unfold partsL
  cases hx : (Pt.Rg.meetR a b).1 with
  | none => simp
  | some x => rw [hx] at h; cases h
theorem parts_some {a b : Pt.Rg.Reg} {r : List Pt.Rg.Reg} (h : true = (Pt.Rg.meetR a b).1.isSome) : partsL a b r = r ++ [(Pt.Rg.meetR a b).1.getD zeroG] := by
  unfold partsL
  cases hx : (Pt.Rg.meetR a b).1 with
  | none => rw [hx] at h; cases h
  | some x => rfl
theorem parts_len {ol : List RegV} {L : List Pt.Rg.Reg} (h : ol.map RegV.reg = L) : (decide (L = [])) = decide (ol.length = 0) := by
  rw [← h]
  cases ol <;> simp
end Go.Proofs.YtembmegllpkmfaaGreatDoor
