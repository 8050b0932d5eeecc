/- The mathematics of views: what the program's Forward and the reference's tell, one-to-one, one more line at either end. No program. -/
import Derived.Test.YtipljgkhooeeiaaGreatDoorMathAll
namespace Go.Proofs.YtipljgkhooeeiaaGreatDoor.Pt.Vw
open Go

def lm (r : Rul) (p : List UInt8) : Bool := (matchP r.left p).isSome
def rm (r : Rul) (c : List UInt8) : Bool := (matchP r.right c).isSome
theorem lm_turn (r : Rul) (p : List UInt8) : lm (turnR r) p = rm r p := rfl
theorem rm_turn (r : Rul) (p : List UInt8) : rm (turnR r) p = lm r p := rfl
/-- The last index of which f is true. -/
def lastI (f : Rul → Bool) : List Rul → Option Nat
  | [] => none
  | r :: t => match lastI f t with
    | some i => some (i + 1)
    | none => if f r then some 0 else none
def lastZ (f : Rul → Bool) (v : List Rul) : Int := match lastI f v with
  | some i => (i : Int)
  | none => -1
theorem lastI_some {f : Rul → Bool} : ∀ {v : List Rul} {i : Nat}, lastI f v = some i ↔ ∃ h : i < v.length, f v[i] = true ∧ ∀ j (hj : j < v.length), i < j → f v[j] = false
  | [], i => by simp [lastI]
  | r :: t, i => by
    unfold lastI
    cases ho : lastI f t with
    | some k =>
      obtain ⟨hk, h1, h2⟩ := lastI_some.1 ho
      simp only [Option.some.injEq]
      constructor
      · rintro rfl
        refine ⟨by simp; omega, by simpa using h1, fun j hj hij => ?_⟩
        match j, hj with
        | j + 1, hj => simpa using h2 j (by simpa using hj) (by omega)
      · rintro ⟨hi, h3, h4⟩
        match i, hi with
        | 0, hi =>
          have := h4 (k + 1) (by simp; omega) (by omega)
          simp only [List.getElem_cons_succ] at this
          rw [h1] at this
          cases this
        | i + 1, hi =>
          have hi' : i < t.length := by simpa using hi
          simp only [List.getElem_cons_succ] at h3
          by_cases h : i < k
          · have := h4 (k + 1) (by simp; omega) (by omega)
            simp only [List.getElem_cons_succ] at this
            rw [h1] at this
            cases this
          · by_cases h' : k < i
            · rw [h2 i hi' h'] at h3
              cases h3
            · omega
    | none =>
      have hn : ∀ j (hj : j < t.length), f t[j] = false := by
        intro j hj
        cases hf : f t[j] with
        | false => rfl
        | true =>
          exfalso
          -- the last such index
          have : ∀ n, ∀ i (hi : i < t.length), t.length - i ≤ n → f t[i] = true → ∃ k, lastI f t = some k := by
            intro n
            induction n with
            | zero => intro i hi h; omega
            | succ n ih =>
              intro i hi h hfi
              by_cases hx : ∃ j, ∃ hj : j < t.length, i < j ∧ f t[j] = true
              · obtain ⟨j, hj, h1, h2⟩ := hx
                exact ih j hj (by omega) h2
              · refine ⟨i, lastI_some.2 ⟨hi, hfi, fun j hj hij => ?_⟩⟩
                cases hfj : f t[j] with
                | false => rfl
                | true => exact absurd ⟨j, hj, hij, hfj⟩ hx
          obtain ⟨k, hk⟩ := this _ j hj (Nat.le_refl _) hf
          rw [ho] at hk
          cases hk
      simp only
      constructor
      · intro h
        cases hf : f r with
        | true =>
          rw [hf, if_pos rfl] at h
          injection h with h
          subst h
          refine ⟨by simp, by simpa using hf, fun j hj hij => ?_⟩
          match j, hj with
          | j + 1, hj => simpa using hn j (by simpa using hj)
        | false => rw [hf] at h; simp at h
      · rintro ⟨hi, h1, h2⟩
        match i, hi with
        | 0, hi => simp only [List.getElem_cons_zero] at h1; rw [if_pos h1]
        | i + 1, hi =>
          simp only [List.getElem_cons_succ] at h1
          rw [hn i (by simpa using hi)] at h1
          cases h1
theorem lastI_none {f : Rul → Bool} {v : List Rul} : lastI f v = none ↔ ∀ j (hj : j < v.length), f v[j] = false := by
  constructor
  · intro h
    induction v with
    | nil => intro j hj; simp at hj
    | cons r t ih =>
      unfold lastI at h
      cases ho : lastI f t with
      | some k => rw [ho] at h; cases h
      | none =>
        rw [ho] at h
        simp only at h
        intro j hj
        match j, hj with
        | 0, _ =>
          cases hf : f r with
          | true => rw [hf] at h; simp at h
          | false => simpa using hf
        | j + 1, hj => simpa using ih ho j (by simpa using hj)
  · intro h
    cases ho : lastI f v with
    | none => rfl
    | some i =>
      obtain ⟨hi, h1, _⟩ := lastI_some.1 ho
      rw [h i hi] at h1
      cases h1
theorem lastI_lt {f : Rul → Bool} {v : List Rul} {i : Nat} (h : lastI f v = some i) : i < v.length := (lastI_some.1 h).1
theorem lastI_snoc (f : Rul → Bool) : ∀ (l : List Rul) (r : Rul), lastI f (l ++ [r]) = if f r then some l.length else lastI f l
  | [], r => by simp [lastI]
  | x :: l, r => by
    rw [List.cons_append, lastI, lastI_snoc f l r]
    by_cases h : f r = true
    · rw [if_pos h, if_pos h]
      rfl
    · rw [if_neg h, if_neg h]
      rfl
/-- The reference's way: upwards. -/
theorem lastZ_take (f : Rul → Bool) (v : List Rul) (k : Nat) (hk : k < v.length) : lastZ f (v.take (k + 1)) = if f v[k] then (k : Int) else lastZ f (v.take k) := by
  rw [List.take_succ_eq_append_getElem hk]
  unfold lastZ
  rw [lastI_snoc, List.length_take, Nat.min_eq_left (by omega)]
  cases f v[k] <;> simp
theorem lastZ_at {f : Rul → Bool} {v : List Rul} {i : Nat} (hi : i < v.length) (h : f v[i] = true) (hn : ∀ j (hj : j < v.length), i < j → f v[j] = false) : lastZ f v = i := by
  unfold lastZ
  rw [lastI_some.2 ⟨hi, h, hn⟩]
theorem lastZ_none {f : Rul → Bool} {v : List Rul} (hn : ∀ j (hj : j < v.length), f v[j] = false) : lastZ f v = -1 := by
  unfold lastZ
  rw [lastI_none.2 hn]
theorem lastZ_neg {f : Rul → Bool} {v : List Rul} : lastZ f v < 0 ↔ lastI f v = none := by
  unfold lastZ
  cases lastI f v with
  | none => simp
  | some i => simp

/-- What is wrong with a view: the index, the error. -/
def vcheck (v : List Rul) : Nat × Nat := match v.findIdx? (fun r => decide (rcheck r ≠ 0)) with
  | some i => (i, 60)
  | none => if v.length ≤ 16 then (0, 0) else (0, 61)
theorem vcheck_bad {v : List Rul} {k : Nat} (hk : k < v.length) (h : rcheck v[k] ≠ 0) (hn : ∀ j (hj : j < v.length), j < k → rcheck v[j] = 0) : vcheck v = (k, 60) := by
  unfold vcheck
  have : v.findIdx? (fun r => decide (rcheck r ≠ 0)) = some k := by
    rw [List.findIdx?_eq_some_iff_getElem]
    refine ⟨hk, decide_eq_true h, fun j hj => ?_⟩
    simp [hn j (by omega) hj]
  rw [this]
theorem vcheck_all {v : List Rul} (hn : ∀ j (hj : j < v.length), rcheck v[j] = 0) : vcheck v = if v.length ≤ 16 then (0, 0) else (0, 61) := by
  unfold vcheck
  have : v.findIdx? (fun r => decide (rcheck r ≠ 0)) = none := by
    rw [List.findIdx?_eq_none_iff]
    intro x hx
    obtain ⟨k, hk, rfl⟩ := List.mem_iff_getElem.1 hx
    simp [hn k hk]
  rw [this]
theorem vcheck_ok {v : List Rul} : (vcheck v).2 = 0 ↔ (∀ r ∈ v, rcheck r = 0) ∧ v.length ≤ 16 := by
  constructor
  · intro h
    have hall : ∀ r ∈ v, rcheck r = 0 := by
      cases ho : v.findIdx? (fun r => decide (rcheck r ≠ 0)) with
      | some i =>
        unfold vcheck at h
        rw [ho] at h
        cases h
      | none =>
        intro r hr
        have := List.findIdx?_eq_none_iff.1 ho r hr
        simpa using this
    refine ⟨hall, ?_⟩
    rw [vcheck_all fun j hj => hall _ (List.getElem_mem hj)] at h
    split at h
    · assumption
    · cases h
  · rintro ⟨h1, h2⟩
    rw [vcheck_all fun j hj => h1 _ (List.getElem_mem hj), if_pos h2]
theorem vcheck_zero {v : List Rul} (h : (vcheck v).2 = 0) : vcheck v = (0, 0) := by
  obtain ⟨h1, h2⟩ := vcheck_ok.1 h
  rw [vcheck_all fun j hj => h1 _ (List.getElem_mem hj), if_pos h2]
def turnV (v : List Rul) : List Rul := v.map turnR
theorem turnV_turn (v : List Rul) : turnV (turnV v) = v := by
  unfold turnV
  rw [List.map_map]
  have : turnR ∘ turnR = id := by funext r; rfl
  rw [this, List.map_id]
theorem turnV_ok {v : List Rul} (h : (vcheck v).2 = 0) : (vcheck (turnV v)).2 = 0 := by
  obtain ⟨h1, h2⟩ := vcheck_ok.1 h
  refine vcheck_ok.2 ⟨fun r hr => ?_, by unfold turnV; rw [List.length_map]; exact h2⟩
  obtain ⟨x, hx, rfl⟩ := List.mem_map.1 hr
  exact turn_check (h1 x hx)
theorem turnV_ok_iff {v : List Rul} : (vcheck (turnV v)).2 = 0 ↔ (vcheck v).2 = 0 := ⟨fun h => by have := turnV_ok h; rwa [turnV_turn] at this, turnV_ok⟩

/-- The right path, by the program's way, of a list that is checked. -/
def vbody (v : List Rul) (p : List UInt8) : Option (List UInt8) :=
  (lastI (fun r => lm r p) v).elim none fun i => if (v.getD i zeroR).ex then none else (fwd (v.getD i zeroR) p).elim none fun c => if (lastI (fun r => rm r c) (v.drop (i + 1))).isSome then none else some c
def vfwd (v : List Rul) (p : List UInt8) : Option (List UInt8) := if (vcheck v).2 = 0 then vbody v p else none
/-- The same from the strongest line on. -/
def prevR : List Rul → List UInt8 → Option (List UInt8)
  | [], _ => none
  | r :: t, p => if lm r p then (if r.ex then none else fwd r p) else (prevR t p).elim none fun c => if rm r c then none else some c
def relR : List Rul → List UInt8 → List UInt8 → Bool
  | [], _, _ => false
  | r :: t, p, c => if fwd r p = some c ∧ r.ex = false then true else if lm r p = true ∨ rm r c = true then false else relR t p c
theorem vbody_prev : ∀ (L : List Rul) (p : List UInt8), vbody L.reverse p = prevR L p
  | [], p => rfl
  | r :: t, p => by
    have ih := vbody_prev t p
    rw [List.reverse_cons]
    unfold vbody
    rw [lastI_snoc, prevR]
    cases hl : lm r p with
    | true =>
      have hd : (t.reverse ++ [r]).drop (t.reverse.length + 1) = [] := List.drop_eq_nil_of_le (by simp)
      have hg : (t.reverse ++ [r]).getD t.reverse.length zeroR = r := by simp [List.getD]
      simp only [if_true, Option.elim_some]
      rw [hg, hd]
      simp only [lastI, Option.isSome_none, Bool.false_eq_true, if_false]
      cases r.ex with
      | true => rfl
      | false => simp only [Bool.false_eq_true, if_false]; cases fwd r p <;> rfl
    | false =>
      simp only [Bool.false_eq_true, if_false]
      rw [← ih]
      unfold vbody
      cases ho : lastI (fun r => lm r p) t.reverse with
      | none => rfl
      | some i =>
        have hi := lastI_lt ho
        have hg : (t.reverse ++ [r]).getD i zeroR = t.reverse.getD i zeroR := by
          simp only [List.getD]
          rw [List.getElem?_append_left hi]
        simp only [Option.elim_some]
        rw [hg]
        cases (t.reverse.getD i zeroR).ex with
        | true => rfl
        | false =>
          simp only [Bool.false_eq_true, if_false]
          cases hf : fwd (t.reverse.getD i zeroR) p with
          | none => rfl
          | some c =>
            simp only [Option.elim_some]
            rw [List.drop_append_of_le_length (by omega), lastI_snoc]
            cases hr : rm r c with
            | true =>
              simp only [if_true, Option.isSome_some]
              cases (lastI (fun r => rm r c) (t.reverse.drop (i + 1))).isSome <;> simp [hr]
            | false =>
              simp only [Bool.false_eq_true, if_false]
              cases (lastI (fun r => rm r c) (t.reverse.drop (i + 1))).isSome <;> simp [hr]
theorem vbody_eq (v : List Rul) (p : List UInt8) : vbody v p = prevR v.reverse p := by
  have := vbody_prev v.reverse p
  rwa [List.reverse_reverse] at this
theorem rel_prev : ∀ (L : List Rul) (p c : List UInt8), relR L p c = true ↔ prevR L p = some c
  | [], p, c => by simp [relR, prevR]
  | r :: t, p, c => by
    have ih := rel_prev t p c
    unfold relR prevR
    cases hl : lm r p with
    | true =>
      simp only [if_true, true_or]
      cases r.ex with
      | true => simp
      | false =>
        simp only [and_true, Bool.false_eq_true, if_false]
        split <;> simp_all
    | false =>
      have hn : fwd r p = none := by
        cases hf : fwd r p with
        | none => rfl
        | some c => unfold lm at hl; rw [(fwd_back hf).1] at hl; cases hl
      rw [hn, if_neg (by rintro ⟨h, _⟩; cases h)]
      simp only [Bool.false_eq_true, if_false, false_or]
      cases hp : prevR t p with
      | none =>
        simp only [Option.elim_none]
        rw [hp] at ih
        have : relR t p c = false := by cases h : relR t p c with
          | false => rfl
          | true => cases ih.1 h
        rw [this]
        simp
      | some d =>
        simp only [Option.elim_some]
        rw [hp] at ih
        by_cases hdc : d = c
        · subst hdc
          have : relR t p d = true := ih.2 rfl
          rw [this]
          cases rm r d <;> simp
        · have : relR t p c = false := by cases h : relR t p c with
            | false => rfl
            | true => exact absurd (Option.some.inj (ih.1 h)) hdc
          rw [this]
          cases rm r d <;> cases rm r c <;> simp [hdc]
theorem rel_turn : ∀ (L : List Rul) (p c : List UInt8), relR (L.map turnR) c p = relR L p c
  | [], _, _ => rfl
  | r :: t, p, c => by
    rw [List.map_cons, relR, relR, rel_turn t p c]
    have h1 : (fwd (turnR r) c = some p) ↔ (fwd r p = some c) := fwd_turn.symm
    have h2 : (turnR r).ex = r.ex := rfl
    rw [lm_turn, rm_turn]
    simp only [h1, h2, Or.comm]
theorem vfwd_turn {v : List Rul} {p c : List UInt8} : vfwd v p = some c ↔ vfwd (turnV v) c = some p := by
  unfold vfwd
  by_cases h : (vcheck v).2 = 0
  · rw [if_pos h, if_pos (turnV_ok h), vbody_eq, vbody_eq, ← rel_prev, ← rel_prev]
    unfold turnV
    rw [← List.map_reverse, rel_turn]
  · rw [if_neg h, if_neg (fun h' => h (turnV_ok_iff.1 h'))]
    simp
/-- The reference's way: related, downwards. -/
def related (v : List Rul) (p c : List UInt8) : Bool := relR v.reverse p c
theorem related_take (v : List Rul) (p c : List UInt8) (k : Nat) (hk : k < v.length) : related (v.take (k + 1)) p c = if fwd v[k] p = some c ∧ v[k].ex = false then true else if lm v[k] p = true ∨ rm v[k] c = true then false else related (v.take k) p c := by
  unfold related
  rw [List.take_succ_eq_append_getElem hk, List.reverse_append]
  rfl
theorem related_nil (p c : List UInt8) : related [] p c = false := rfl
theorem related_iff {v : List Rul} (h : (vcheck v).2 = 0) (p c : List UInt8) : related v p c = true ↔ vfwd v p = some c := by
  unfold vfwd related
  rw [if_pos h, vbody_eq, rel_prev]
/-- The reference's Forward: a line whose right path is related. -/
theorem forward_hit {v : List Rul} (h : (vcheck v).2 = 0) {p c : List UInt8} (hr : related v p c = true) : vfwd v p = some c := (related_iff h p c).1 hr
theorem prev_line : ∀ {L : List Rul} {p c : List UInt8}, prevR L p = some c → ∃ r ∈ L, fwd r p = some c
  | [], p, c, h => by cases h
  | r :: t, p, c, h => by
    unfold prevR at h
    split at h
    · split at h
      · cases h
      · exact ⟨r, List.mem_cons_self, h⟩
    · cases hp : prevR t p with
      | none => rw [hp] at h; cases h
      | some d =>
        rw [hp] at h
        simp only [Option.elim_some] at h
        split at h
        · cases h
        · injection h with h
          subst h
          obtain ⟨x, hx, hf⟩ := prev_line hp
          exact ⟨x, List.mem_cons_of_mem _ hx, hf⟩
theorem forward_miss {v : List Rul} (h : (vcheck v).2 = 0) {p : List UInt8} (hn : ∀ j (hj : j < v.length), ∀ c, fwd v[j] p = some c → related v p c = false) : vfwd v p = none := by
  cases ho : vfwd v p with
  | none => rfl
  | some c =>
    have hb : vbody v p = some c := by unfold vfwd at ho; rwa [if_pos h] at ho
    rw [vbody_eq] at hb
    obtain ⟨r, hr, hf⟩ := prev_line hb
    obtain ⟨j, hj, rfl⟩ := List.mem_iff_getElem.1 (List.mem_reverse.1 hr)
    rw [← related_iff h, hn j hj c hf] at ho
    cases ho
def decides (v : List Rul) (p : List UInt8) : Int := if (vcheck v).2 = 0 then lastZ (fun r => lm r p) v else -1
theorem decides_lt (v : List Rul) (p : List UInt8) : decides v p < v.length ∧ -1 ≤ decides v p := by
  unfold decides lastZ
  split
  · cases ho : lastI (fun r => lm r p) v with
    | none => simp; omega
    | some i => have := lastI_lt ho; simp; omega
  · omega
/-- What Forward tells of the deciding line. -/
theorem vfwd_line {v : List Rul} {p c : List UInt8} (h : vfwd v p = some c) : ∃ i, ∃ hi : i < v.length, decides v p = i ∧ v[i].ex = false ∧ fwd v[i] p = some c := by
  have hok : (vcheck v).2 = 0 := by
    unfold vfwd at h
    split at h
    · assumption
    · cases h
  unfold vfwd at h
  rw [if_pos hok] at h
  unfold decides
  rw [if_pos hok]
  unfold vbody at h
  cases ho : lastI (fun r => lm r p) v with
  | none => rw [ho] at h; cases h
  | some i =>
    have hi := lastI_lt ho
    have hg : v.getD i zeroR = v[i] := by simp [List.getD, List.getElem?_eq_getElem hi]
    rw [ho] at h
    simp only [Option.elim_some] at h
    rw [hg] at h
    refine ⟨i, hi, by unfold lastZ; rw [ho], ?_⟩
    cases he : v[i].ex with
    | true => rw [he] at h; cases h
    | false =>
      rw [he] at h
      simp only [Bool.false_eq_true, if_false] at h
      cases hf : fwd v[i] p with
      | none => rw [hf] at h; cases h
      | some d =>
        rw [hf] at h
        simp only [Option.elim_some] at h
        split at h
        · cases h
        · exact ⟨rfl, h⟩
/-- The steps of the program's Forward. -/
theorem vfwd_none {v : List Rul} {p : List UInt8} (h : decides v p < 0) : vfwd v p = none := by
  cases ho : vfwd v p with
  | none => rfl
  | some c =>
    obtain ⟨i, hi, h1, _⟩ := vfwd_line ho
    omega
theorem vfwd_at {v : List Rul} {p : List UInt8} {i : Nat} (hi : i < v.length) (h : decides v p = i) :
    vfwd v p = if v[i].ex then none else (fwd v[i] p).elim none fun c => if 0 ≤ lastZ (fun r => rm r c) (v.drop (i + 1)) then none else some c := by
  have hok : (vcheck v).2 = 0 := by
    unfold decides at h
    split at h
    · assumption
    · omega
  have ho : lastI (fun r => lm r p) v = some i := by
    unfold decides at h
    rw [if_pos hok] at h
    unfold lastZ at h
    cases ho : lastI (fun r => lm r p) v with
    | none => rw [ho] at h; simp only at h; omega
    | some k => rw [ho] at h; simp only at h; congr 1; omega
  have hg : v.getD i zeroR = v[i] := by simp [List.getD, List.getElem?_eq_getElem hi]
  unfold vfwd
  rw [if_pos hok]
  unfold vbody
  rw [ho]
  simp only [Option.elim_some]
  rw [hg]
  have hz : ∀ c, (0 ≤ lastZ (fun r => rm r c) (v.drop (i + 1))) = ((lastI (fun r => rm r c) (v.drop (i + 1))).isSome = true) := fun c => by
    unfold lastZ
    cases lastI (fun r => rm r c) (v.drop (i + 1)) with
    | none => simp
    | some k => simp
  simp only [hz]
/-- One more line at the end. -/
theorem last_ok {v : List Rul} {r : Rul} (h : (vcheck (v ++ [r])).2 = 0) : (vcheck v).2 = 0 ∧ rcheck r = 0 := by
  obtain ⟨h1, h2⟩ := vcheck_ok.1 h
  refine ⟨vcheck_ok.2 ⟨fun x hx => h1 x (List.mem_append_left _ hx), by simp at h2; omega⟩, h1 r (by simp)⟩
theorem last_more {v : List Rul} {r : Rul} (h : (vcheck (v ++ [r])).2 = 0) (p : List UInt8) :
    vfwd (v ++ [r]) p = if lm r p then (if r.ex then none else fwd r p) else (vfwd v p).elim none fun c => if rm r c then none else some c := by
  unfold vfwd
  rw [if_pos h, if_pos (last_ok h).1, vbody_eq, vbody_eq, List.reverse_append]
  rfl
theorem first_ok {v : List Rul} {r : Rul} (h : (vcheck (r :: v)).2 = 0) : (vcheck v).2 = 0 ∧ rcheck r = 0 := by
  obtain ⟨h1, h2⟩ := vcheck_ok.1 h
  refine ⟨vcheck_ok.2 ⟨fun x hx => h1 x (List.mem_cons_of_mem _ hx), by simp at h2; omega⟩, h1 r (by simp)⟩
theorem first_decides {v : List Rul} {r : Rul} (h : (vcheck (r :: v)).2 = 0) (p : List UInt8) :
    decides (r :: v) p = if decides v p < 0 then (if lm r p then 0 else -1) else decides v p + 1 := by
  unfold decides
  rw [if_pos h, if_pos (first_ok h).1]
  unfold lastZ
  rw [lastI]
  cases lastI (fun r => lm r p) v with
  | none => simp only; cases lm r p <;> simp
  | some i => simp only; rw [if_neg (by omega)]; simp
theorem first_more {v : List Rul} {r : Rul} (h : (vcheck (r :: v)).2 = 0) (p : List UInt8) (hd : ¬ decides v p < 0) : vfwd (r :: v) p = vfwd v p := by
  unfold vfwd
  rw [if_pos h, if_pos (first_ok h).1]
  unfold decides at hd
  rw [if_pos (first_ok h).1, lastZ_neg] at hd
  unfold vbody
  rw [lastI]
  cases ho : lastI (fun r => lm r p) v with
  | none => exact absurd ho hd
  | some i => simp [List.getD]; rfl
end Go.Proofs.YtipljgkhooeeiaaGreatDoor.Pt.Vw
