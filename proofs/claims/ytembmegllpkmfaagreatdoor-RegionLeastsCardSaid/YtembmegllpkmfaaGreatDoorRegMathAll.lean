/- The plain mathematics of layer 5 (region): patterns with holes, simplified, their least paths. No program. The plain mathematics of layer 5 (region), second part: the least path of a region. No program. The plain mathematics of layer 5 (region), third part: simplified regions, their numbers of components, their intersections and differences. No program. The plain mathematics of layer 5 (region), fourth part: regions, their intersections and differences. No program. -/
import Derived.Test.YtembmegllpkmfaaGreatDoorMathAll
namespace Go.Proofs.YtembmegllpkmfaaGreatDoor.Pt.Rg
open Go

instance patDec : DecidableEq Pat := fun p q => decidable_of_iff (p.parts = q.parts ∧ p.rest = q.rest) ⟨fun h => Pat.ext' h.1 h.2, fun h => by rw [h]; exact ⟨rfl, rfl⟩⟩
/- The order of texts, byte by byte. -/
theorem cb_cons (a b : UInt8) (r s : List UInt8) : Lib.compareBytes (a :: r) (b :: s) = if a < b then -1 else if b < a then 1 else Lib.compareBytes r s := by rw [Lib.compareBytes]
theorem cb_neg : ∀ a b : List UInt8, Lib.compareBytes a b = - Lib.compareBytes b a
  | [], [] => rfl
  | [], _ :: _ => rfl
  | _ :: _, [] => rfl
  | a :: r, b :: s => by
    rw [cb_cons, cb_cons, cb_neg r s]
    by_cases h1 : a < b
    · have h2 : ¬ b < a := fun h => UInt8.lt_irrefl _ (UInt8.lt_trans h1 h)
      simp [h1, h2]
    · by_cases h2 : b < a
      · simp [h1, h2]
      · simp [h1, h2]
theorem cb_trans : ∀ {a b c : List UInt8}, Lib.compareBytes a b < 0 → Lib.compareBytes b c < 0 → Lib.compareBytes a c < 0
  | [], [], _, h, _ => by simp [Lib.compareBytes] at h
  | [], _ :: _, [], _, h => by simp [Lib.compareBytes] at h
  | [], _ :: _, _ :: _, _, _ => by simp [Lib.compareBytes]
  | _ :: _, [], _, h, _ => by simp [Lib.compareBytes] at h
  | _ :: _, _ :: _, [], _, h => by simp [Lib.compareBytes] at h
  | a :: r, b :: s, c :: t, h1, h2 => by
    rw [cb_cons] at h1 h2 ⊢
    by_cases e1 : a < b
    · by_cases e2 : b < c
      · rw [if_pos (UInt8.lt_trans e1 e2)]; decide
      · rw [if_neg e2] at h2
        by_cases e3 : c < b
        · rw [if_pos e3] at h2; exact absurd h2 (by decide)
        · have e : b = c := UInt8.le_antisymm (UInt8.not_lt.1 e3) (UInt8.not_lt.1 e2)
          rw [← e, if_pos e1]; decide
    · rw [if_neg e1] at h1
      by_cases e3 : b < a
      · rw [if_pos e3] at h1; exact absurd h1 (by decide)
      · rw [if_neg e3] at h1
        have e : a = b := UInt8.le_antisymm (UInt8.not_lt.1 e3) (UInt8.not_lt.1 e1)
        subst e
        by_cases e2 : a < c
        · rw [if_pos e2]; decide
        · rw [if_neg e2] at h2 ⊢
          by_cases e4 : c < a
          · rw [if_pos e4] at h2; exact absurd h2 (by decide)
          · rw [if_neg e4] at h2 ⊢
            exact cb_trans h1 h2
/-- Two lists that ascend and have the same members are one. -/
theorem asc_one {α : Type} {r : α → α → Prop} (hr : ∀ a b, r a b → r b a → False) : ∀ {l m : List α}, l.Pairwise r → m.Pairwise r → (∀ x, x ∈ l ↔ x ∈ m) → l = m
  | [], [], _, _, _ => rfl
  | [], b :: m, _, _, h => by have := (h b).2 (by simp); cases this
  | a :: l, [], _, _, h => by have := (h a).1 (by simp); cases this
  | a :: l, b :: m, hl, hm, h => by
    rw [List.pairwise_cons] at hl hm
    have e : a = b := by
      rcases List.mem_cons.1 ((h a).1 (by simp)) with e | ha
      · exact e
      · rcases List.mem_cons.1 ((h b).2 (by simp)) with e | hb
        · exact e.symm
        · exact (hr _ _ (hm.1 a ha) (hl.1 b hb)).elim
    subst e
    have ih := asc_one hr hl.2 hm.2 fun x => by
      constructor
      · intro hx
        rcases List.mem_cons.1 ((h x).1 (List.mem_cons_of_mem _ hx)) with e | hx'
        · subst e; exact (hr _ _ (hl.1 x hx) (hl.1 x hx)).elim
        · exact hx'
      · intro hx
        rcases List.mem_cons.1 ((h x).2 (List.mem_cons_of_mem _ hx)) with e | hx'
        · subst e; exact (hr _ _ (hm.1 x hx) (hm.1 x hx)).elim
        · exact hx'
    rw [ih]

/- Within: an order. -/
theorem within_refl {p : Pat} (h : check p = 0) : within p p = true := within_of_all h h fun _ h => h
theorem within_trans {p q r : Pat} (h1 : within p q = true) (h2 : within q r = true) : within p r = true :=
  within_of_all (within_parts h1).1 (within_parts h2).2.1 fun _ h => within_match h2 (within_match h1 h)
/-- The holes of a region, met with its base. -/
def met (B : Pat) (H : List Pat) : List Pat := H.filterMap fun h => meet B h
def IsMax (M : List Pat) (x : Pat) : Prop := x ∈ M ∧ ∀ y ∈ M, within x y = true → y = x
theorem met_mem {B : Pat} {H : List Pat} {x : Pat} : x ∈ met B H ↔ ∃ h ∈ H, meet B h = some x := by
  unfold met
  rw [List.mem_filterMap]
theorem met_ok {B : Pat} {H : List Pat} {x : Pat} (h : x ∈ met B H) : check x = 0 ∧ within x B = true := by
  obtain ⟨h, _, he⟩ := met_mem.1 h
  exact ⟨meet_ok he, (meet_within he).1⟩
/-- What a simplified region's holes are. -/
structure IsSimp (B : Pat) (H L : List Pat) : Prop where
  mem : ∀ x, x ∈ L ↔ IsMax (met B H) x
  srt : L.Pairwise fun a b => Lib.compareBytes (text a) (text b) < 0
theorem IsSimp.one {B : Pat} {H L L' : List Pat} (h : IsSimp B H L) (h' : IsSimp B H L') : L = L' :=
  asc_one (fun a b h1 h2 => by rw [cb_neg] at h2; omega) h.srt h'.srt fun x => (h.mem x).trans (h'.mem x).symm
theorem IsMax.same {M M' : List Pat} {x : Pat} (h : ∀ y, y ∈ M ↔ y ∈ M') : IsMax M x ↔ IsMax M' x := by
  unfold IsMax
  rw [h x]
  exact ⟨fun ⟨a, b⟩ => ⟨a, fun y hy => b y ((h y).2 hy)⟩, fun ⟨a, b⟩ => ⟨a, fun y hy => b y ((h y).1 hy)⟩⟩
theorem IsSimp.same {B : Pat} {H H' L : List Pat} (h : IsSimp B H L) (hm : ∀ y, y ∈ H ↔ y ∈ H') : IsSimp B H' L :=
  ⟨fun x => (h.mem x).trans (IsMax.same fun y => by rw [met_mem, met_mem]; simp only [hm]), h.srt⟩
/-- The program's step: a hole that is met is laid beside those that it neither lies within nor holds. -/
def addHole (acc : List Pat) (p : Pat) : List Pat := if acc.any (fun q => within p q) then acc else acc.filter (fun q => !within q p) ++ [p]
def stepHole (B : Pat) (acc : List Pat) (h : Pat) : List Pat := match meet B h with
  | none => acc
  | some p => addHole acc p
structure Holds (M acc : List Pat) : Prop where
  mem : ∀ x, x ∈ acc ↔ IsMax M x
  up : ∀ y ∈ M, ∃ q ∈ acc, within y q = true
  nd : acc.Nodup
theorem Holds.add {M acc : List Pat} {p : Pat} (h : Holds M acc) (hp : check p = 0) : Holds (M ++ [p]) (addHole acc p) := by
  unfold addHole
  by_cases ha : acc.any (fun q => within p q) = true
  · rw [if_pos ha]
    obtain ⟨q, hq, hw⟩ := List.any_eq_true.1 ha
    have hqm := (h.mem q).1 hq
    refine ⟨fun x => (h.mem x).trans ⟨fun ⟨a, b⟩ => ⟨List.mem_append_left _ a, fun y hy hxy => ?_⟩, fun ⟨a, b⟩ => ⟨?_, fun y hy => b y (List.mem_append_left _ hy)⟩⟩, fun y hy => ?_, h.nd⟩
    · rcases List.mem_append.1 hy with hy | hy
      · exact b y hy hxy
      · rw [List.mem_singleton] at hy
        subst hy
        have e := b q hqm.1 (within_trans hxy hw)
        rw [e] at hw
        exact within_anti hw hxy
    · rcases List.mem_append.1 a with a | a
      · exact a
      · rw [List.mem_singleton] at a
        subst a
        rw [← b q (List.mem_append_left _ hqm.1) hw]
        exact hqm.1
    · rcases List.mem_append.1 hy with hy | hy
      · exact h.up y hy
      · rw [List.mem_singleton] at hy
        exact ⟨q, hq, by rw [hy]; exact hw⟩
  · rw [if_neg ha]
    have hno : ∀ q ∈ acc, within p q = false := fun q hq => by
      cases hw : within p q with
      | false => rfl
      | true => exact absurd (List.any_eq_true.2 ⟨q, hq, hw⟩) ha
    have hup : ∀ y ∈ M, within p y = false := fun y hy => by
      cases hw : within p y with
      | false => rfl
      | true =>
        obtain ⟨q, hq, hyq⟩ := h.up y hy
        rw [← hno q hq]
        exact (within_trans hw hyq).symm
    refine ⟨fun x => ?_, fun y hy => ?_, ?_⟩
    · rw [List.mem_append, List.mem_filter, List.mem_singleton, h.mem x]
      constructor
      · rintro (⟨⟨a, b⟩, c⟩ | rfl)
        · refine ⟨List.mem_append_left _ a, fun y hy hxy => ?_⟩
          rcases List.mem_append.1 hy with hy | hy
          · exact b y hy hxy
          · rw [List.mem_singleton] at hy
            subst hy
            rw [hxy] at c
            cases c
        · refine ⟨List.mem_append_right _ (by simp), fun y hy hxy => ?_⟩
          rcases List.mem_append.1 hy with hy | hy
          · rw [hup y hy] at hxy; cases hxy
          · exact List.mem_singleton.1 hy
      · rintro ⟨a, b⟩
        by_cases e : x = p
        · exact .inr e
        · left
          have hx : x ∈ M := by
            rcases List.mem_append.1 a with a | a
            · exact a
            · exact absurd (List.mem_singleton.1 a) e
          refine ⟨⟨hx, fun y hy => b y (List.mem_append_left _ hy)⟩, ?_⟩
          cases hw : within x p with
          | false => rfl
          | true => exact absurd (b p (List.mem_append_right _ (by simp)) hw).symm e
    · rcases List.mem_append.1 hy with hy | hy
      · obtain ⟨q, hq, hw⟩ := h.up y hy
        cases hqp : within q p with
        | true => exact ⟨p, List.mem_append_right _ (by simp), within_trans hw hqp⟩
        | false => exact ⟨q, List.mem_append_left _ (List.mem_filter.2 ⟨hq, by rw [hqp]; rfl⟩), hw⟩
      · rw [List.mem_singleton] at hy
        subst hy
        exact ⟨y, List.mem_append_right _ (by simp), within_refl hp⟩
    · rw [List.nodup_append]
      refine ⟨h.nd.filter _, by simp, fun a ha b hb => ?_⟩
      rw [List.mem_singleton] at hb
      rintro rfl
      subst hb
      have := (List.mem_filter.1 ha).2
      rw [within_refl hp] at this
      cases this
theorem met_append (B : Pat) (H K : List Pat) : met B (H ++ K) = met B H ++ met B K := by unfold met; rw [List.filterMap_append]
theorem Holds.steps (B : Pat) : ∀ (H K acc : List Pat), Holds (met B K) acc → Holds (met B (K ++ H)) (H.foldl (stepHole B) acc)
  | [], K, acc, h => by simpa using h
  | x :: H, K, acc, h => by
    rw [List.foldl_cons]
    have e : K ++ x :: H = (K ++ [x]) ++ H := by simp
    rw [e]
    refine Holds.steps B H (K ++ [x]) _ ?_
    rw [met_append]
    unfold stepHole
    cases hm : meet B x with
    | none =>
      have : met B [x] = [] := by simp [met, hm]
      rw [this, List.append_nil]
      exact h
    | some p =>
      have : met B [x] = [p] := by simp [met, hm]
      rw [this]
      exact h.add (meet_ok hm)
theorem holds_all (B : Pat) (H : List Pat) : Holds (met B H) (H.foldl (stepHole B) []) := by
  have h := Holds.steps B H [] [] ⟨fun x => by simp [met, IsMax], fun y hy => by simp [met] at hy, List.nodup_nil⟩
  simpa using h
theorem text_one {p q : Pat} (hp : check p = 0) (hq : check q = 0) (h : text p = text q) : p = q := by
  rw [← (parse_text hp).2, ← (parse_text hq).2, h]
/-- What is held, sorted by texts, is simplified. -/
theorem simp_of_sorted {B : Pat} {H acc L : List Pat} (h : Holds (met B H) acc) (hp : L.Perm acc) (hs : L.Pairwise fun a b => Lib.compareBytes (text a) (text b) ≤ 0) : IsSimp B H L := by
  refine ⟨fun x => (hp.mem_iff).trans (h.mem x), ?_⟩
  have hn : L.Nodup := hp.nodup_iff.2 h.nd
  have hc : ∀ x ∈ L, check x = 0 := fun x hx => (met_ok ((h.mem x).1 (hp.mem_iff.1 hx)).1).1
  clear hp h
  induction L with
  | nil => exact List.Pairwise.nil
  | cons a l ih =>
    rw [List.pairwise_cons] at hs ⊢
    rw [List.nodup_cons] at hn
    refine ⟨fun b hb => ?_, ih hs.2 hn.2 fun x hx => hc x (List.mem_cons_of_mem _ hx)⟩
    have h1 := hs.1 b hb
    rcases Pm.compareBytes_range (text a) (text b) with e | e | e
    · rw [e]; decide
    · have := text_one (hc a (by simp)) (hc b (List.mem_cons_of_mem _ hb)) (Pm.compareBytes_zero e)
      subst this
      exact absurd hb hn.1
    · rw [e] at h1; exact absurd h1 (by decide)
/- The reference: all that are met, sorted; then those that are kept. -/
def keptAt (M : List Pat) (i : Nat) : Bool := (List.range M.length).all fun j => !(decide (i ≠ j) && within (M.getD i none_) (M.getD j none_) && (decide (j < i) || !decide (M.getD i none_ = M.getD j none_)))
def keptOf (M : List Pat) : List Pat := ((List.range M.length).filter (keptAt M)).map fun i => M.getD i none_
theorem keptAt_iff {M : List Pat} {i : Nat} : keptAt M i = true ↔ ∀ j < M.length, i ≠ j → within (M.getD i none_) (M.getD j none_) = true → i < j ∧ M.getD i none_ = M.getD j none_ := by
  unfold keptAt
  rw [List.all_eq_true]
  constructor
  · intro h j hj hij hw
    have := h j (List.mem_range.2 hj)
    rw [hw] at this
    simp only [ne_eq, hij, not_false_eq_true, decide_true, Bool.and_self, Bool.true_and, Bool.not_eq_true', Bool.or_eq_false_iff, decide_eq_false_iff_not, Bool.not_eq_false', decide_eq_true_eq] at this
    exact ⟨by omega, this.2⟩
  · intro h j hj
    have hj := List.mem_range.1 hj
    by_cases hij : i = j
    · simp [hij]
    · cases hw : within (M.getD i none_) (M.getD j none_) with
      | false => simp
      | true =>
        obtain ⟨h1, h2⟩ := h j hj hij hw
        have : ¬ j < i := by omega
        simp only [this, h2, decide_false, decide_true, Bool.not_true, Bool.or_self, Bool.and_false, Bool.not_false]
theorem first_at {α : Type} (x d : α) : ∀ {M : List α}, x ∈ M → ∃ i, i < M.length ∧ M.getD i d = x ∧ ∀ j < i, M.getD j d ≠ x
  | [], h => by cases h
  | a :: M, h => by
    by_cases e : a = x
    · exact ⟨0, by simp, by simpa using e, fun j hj => by omega⟩
    · rcases List.mem_cons.1 h with h | h
      · exact absurd h.symm e
      · obtain ⟨i, h1, h2, h3⟩ := first_at x d h
        refine ⟨i + 1, by simpa using h1, by simpa using h2, fun j hj => ?_⟩
        cases j with
        | zero => simpa using e
        | succ j => simpa using h3 j (by omega)
theorem getD_mem {α : Type} {M : List α} {i : Nat} {d : α} (h : i < M.length) : M.getD i d ∈ M := by
  rw [List.getD_eq_getElem?_getD, List.getElem?_eq_getElem h]
  exact List.getElem_mem h
theorem kept_simp {B : Pat} {H M : List Pat} (hp : M.Perm (met B H)) (hs : M.Pairwise fun a b => Lib.compareBytes (text a) (text b) ≤ 0) : IsSimp B H (keptOf M) := by
  have hc : ∀ x ∈ M, check x = 0 := fun x hx => (met_ok (hp.mem_iff.1 hx)).1
  refine ⟨fun x => (Iff.trans ?_ (IsMax.same fun y => hp.mem_iff)), ?_⟩
  · unfold keptOf
    rw [List.mem_map]
    constructor
    · rintro ⟨i, hi, rfl⟩
      obtain ⟨hi, hk⟩ := List.mem_filter.1 hi
      have hi := List.mem_range.1 hi
      refine ⟨getD_mem hi, fun y hy hw => ?_⟩
      obtain ⟨j, hj, e, _⟩ := first_at y none_ hy
      rw [← e] at hw ⊢
      by_cases hij : i = j
      · rw [hij]
      · exact (keptAt_iff.1 hk j hj hij hw).2.symm
    · rintro ⟨a, b⟩
      obtain ⟨i, hi, e, hf⟩ := first_at x none_ a
      refine ⟨i, List.mem_filter.2 ⟨List.mem_range.2 hi, keptAt_iff.2 fun j hj hij hw => ?_⟩, e⟩
      have e2 := b (M.getD j none_) (getD_mem hj) (by rw [← e]; exact hw)
      refine ⟨?_, by rw [e, e2]⟩
      rcases Nat.lt_or_gt_of_ne hij with h | h
      · exact h
      · exact absurd e2 (hf j h)
  · unfold keptOf
    rw [List.pairwise_map]
    have hr : (List.range M.length).Pairwise (· < ·) := List.pairwise_lt_range
    have hf := hr.filter (keptAt M)
    have hmem : ∀ i ∈ (List.range M.length).filter (keptAt M), i < M.length ∧ keptAt M i = true := fun i hi => ⟨List.mem_range.1 (List.mem_filter.1 hi).1, (List.mem_filter.1 hi).2⟩
    refine List.Pairwise.imp_of_mem (fun {i j} hi hj hij => ?_) hf
    obtain ⟨hi1, hi2⟩ := hmem i hi
    obtain ⟨hj1, hj2⟩ := hmem j hj
    have hle : Lib.compareBytes (text (M.getD i none_)) (text (M.getD j none_)) ≤ 0 := by
      have := List.pairwise_iff_getElem.1 hs i j hi1 hj1 hij
      rw [List.getD_eq_getElem?_getD, List.getD_eq_getElem?_getD, List.getElem?_eq_getElem hi1, List.getElem?_eq_getElem hj1]
      exact this
    rcases Pm.compareBytes_range (text (M.getD i none_)) (text (M.getD j none_)) with e | e | e
    · rw [e]; decide
    · have h1 := text_one (hc _ (getD_mem hi1)) (hc _ (getD_mem hj1)) (Pm.compareBytes_zero e)
      have h2 := keptAt_iff.1 hj2 i hi1 (by omega) (by rw [h1]; exact within_refl (hc _ (getD_mem hj1)))
      omega
    · rw [e] at hle; exact absurd hle (by decide)
end Go.Proofs.YtembmegllpkmfaaGreatDoor.Pt.Rg

namespace Go.Proofs.YtembmegllpkmfaaGreatDoor.Pt.Rg
open Go

/-- The bytes that a component may begin with, ascending. -/
def firsts : List UInt8 := [43, 45, 48, 49, 50, 51, 52, 53, 54, 55, 56, 57, 65, 66, 67, 68, 69, 70, 71, 72, 73, 74, 75, 76, 77, 78, 79, 80, 81, 82, 83, 84, 85, 86, 87, 88, 89, 90, 95, 97, 98, 99, 100, 101, 102, 103, 104, 105, 106, 107, 108, 109, 110, 111, 112, 113, 114, 115, 116, 117, 118, 119, 120, 121, 122]
theorem firsts_all : ∀ n, n < 256 → decide (UInt8.ofNat n ∈ firsts) = Pm.comp [UInt8.ofNat n] := by decide +kernel
theorem firsts_mem (c : UInt8) : c ∈ firsts ↔ Pm.comp [c] = true := by
  have h := firsts_all c.toNat c.toNat_lt
  rw [UInt8.ofNat_toNat] at h
  rw [← h, decide_eq_true_eq]
theorem firsts_asc : firsts.Pairwise (· < ·) := by decide +kernel
theorem firsts_len : firsts.length = 65 := by decide +kernel
/-- The shortest texts of a part, ascending. -/
def cands (b : List UInt8) : List (List UInt8) := match star b with
  | none => [b]
  | some s => firsts.map fun c => c :: s
/-- A text at a place: no hole holds it and all that may come behind. -/
def good (bs : List (List UInt8)) (HS : List (List (List UInt8))) (x : List UInt8) : Bool := HS.all fun h => match h with
  | [] => true
  | y :: hs => !(pm y x && allIn bs hs)
/-- The holes that a text at a place leaves. -/
def keep (HS : List (List (List UInt8))) (x : List UInt8) : List (List (List UInt8)) := HS.filterMap fun h => match h with
  | [] => none
  | y :: hs => if pm y x then some hs else none
def greedy : List (List UInt8) → List (List (List UInt8)) → Option (List (List UInt8))
  | [], _ => some []
  | b :: bs, HS => match (cands b).find? (good bs HS) with
    | none => none
    | some x => (greedy bs (keep HS x)).map fun l => x :: l
/-- A path of as many components that matches the parts and no hole. -/
structure Lives (bs : List (List UInt8)) (HS : List (List (List UInt8))) (l : List (List UInt8)) : Prop where
  len : l.length = bs.length
  comps : ∀ c ∈ l, Pm.comp c = true
  own : allPm bs l = true
  out : ∀ h ∈ HS, allPm h l = false
/-- The order of texts at a place: the shorter first, then byte by byte. -/
def ordC (x y : List UInt8) : Int := if x.length ≠ y.length then (x.length : Int) - y.length else Lib.compareBytes x y
def ordL : List (List UInt8) → List (List UInt8) → Int
  | x :: l, y :: m => if ordC x y = 0 then ordL l m else ordC x y
  | _, _ => 0
theorem ordC_self (x : List UInt8) : ordC x x = 0 := by unfold ordC; rw [if_neg (by simp)]; exact Pm.compareBytes_self x
theorem ordC_zero {x y : List UInt8} (h : ordC x y = 0) : x = y := by
  unfold ordC at h
  split at h
  · rename_i hl; omega
  · exact Pm.compareBytes_zero h
theorem ordC_neg (x y : List UInt8) : ordC x y = - ordC y x := by
  unfold ordC
  by_cases h : x.length = y.length
  · rw [if_neg (by simpa using h), if_neg (by simpa using h.symm)]
    exact cb_neg x y
  · rw [if_pos h, if_pos (fun e => h e.symm)]
    omega
theorem ordL_neg : ∀ l m : List (List UInt8), ordL l m = - ordL m l
  | [], [] => rfl
  | [], _ :: _ => rfl
  | _ :: _, [] => rfl
  | x :: l, y :: m => by
    unfold ordL
    by_cases h : ordC x y = 0
    · rw [if_pos h, if_pos (by rw [ordC_neg, h]; rfl)]
      exact ordL_neg l m
    · rw [if_neg h, if_neg (by rw [ordC_neg]; omega)]
      exact ordC_neg x y
theorem ordL_zero : ∀ {l m : List (List UInt8)}, l.length = m.length → ordL l m = 0 → l = m
  | [], [], _, _ => rfl
  | [], _ :: _, h, _ => by simp at h
  | _ :: _, [], h, _ => by simp at h
  | x :: l, y :: m, h, e => by
    unfold ordL at e
    by_cases hc : ordC x y = 0
    · rw [if_pos hc] at e
      rw [ordC_zero hc, ordL_zero (by simpa using h) e]
    · rw [if_neg hc] at e
      exact absurd e hc
theorem nodup_short {α : Type} [DecidableEq α] : ∀ {l m : List α}, l.Nodup → (∀ x ∈ l, x ∈ m) → l.length ≤ m.length
  | [], _, _, _ => by simp
  | a :: l, m, hn, hm => by
    rw [List.nodup_cons] at hn
    have ha := hm a (by simp)
    have ih := nodup_short (m := m.erase a) hn.2 fun x hx => (List.mem_erase_of_ne (fun e => hn.1 (by rw [← e]; exact hx))).2 (hm x (List.mem_cons_of_mem _ hx))
    have hl := List.length_erase_of_mem ha
    have : 1 ≤ m.length := List.length_pos_of_mem ha
    rw [List.length_cons]
    omega
theorem cands_comp {b x : List UInt8} (hb : part b = true) (h : x ∈ cands b) : Pm.comp x = true ∧ pm b x = true := by
  unfold cands at h
  rcases part_cases hb with ⟨s, hs, _, hsn⟩ | ⟨hs, hc⟩
  · rw [hs] at h
    obtain ⟨c, hc, rfl⟩ := List.mem_map.1 h
    have h1 := (firsts_mem c).1 hc
    have h2 : Pm.comp ([c] ++ s) = true := comp_append h1 hsn
    exact ⟨h2, (pm_star hs).2 ⟨[c], rfl, h1⟩⟩
  · rw [hs] at h
    rw [List.mem_singleton] at h
    subst h
    exact ⟨hc, (pm_comp hs).2 rfl⟩
theorem cands_asc (b : List UInt8) : (cands b).Pairwise fun x y => ordC x y < 0 := by
  unfold cands
  cases star b with
  | none => simp
  | some s =>
    rw [List.pairwise_map]
    refine firsts_asc.imp fun {c d} h => ?_
    unfold ordC
    rw [if_neg (by simp), cb_cons, if_pos h]
    decide
/-- Each text of a part is one of its shortest, or longer than these. -/
theorem cands_least {b x y : List UInt8} (hb : part b = true) (hx : x ∈ cands b) (hy : pm b y = true) : y ∈ cands b ∨ ordC x y < 0 := by
  unfold cands at hx ⊢
  rcases part_cases hb with ⟨s, hs, _, hsn⟩ | ⟨hs, hc⟩
  · rw [hs] at hx ⊢
    obtain ⟨c, hc, rfl⟩ := List.mem_map.1 hx
    obtain ⟨u, rfl, hu⟩ := (pm_star hs).1 hy
    match u, hu with
    | [d], hu => exact .inl (List.mem_map.2 ⟨d, (firsts_mem d).2 hu, rfl⟩)
    | d :: e :: u, hu =>
      right
      unfold ordC
      rw [if_pos (by simp; omega)]
      simp
      omega
  · rw [hs]
    left
    rw [(pm_comp hs).1 hy]
    simp
theorem allIn_cons (x : List UInt8) (xs : List (List UInt8)) (y : List UInt8) (ys : List (List UInt8)) : allIn (x :: xs) (y :: ys) = (inside x y && allIn xs ys) := rfl
theorem allPm_cons (x : List UInt8) (xs : List (List UInt8)) (y : List UInt8) (ys : List (List UInt8)) : allPm (x :: xs) (y :: ys) = (pm x y && allPm xs ys) := rfl
/-- While there are at most 64 holes, one of the shortest texts is good. -/
theorem some_good {b : List UInt8} {bs : List (List UInt8)} {HS : List (List (List UInt8))} (hb : part b = true) (hH : ∀ h ∈ HS, ∀ x ∈ h, part x = true) (h64 : HS.length ≤ 64) (hc : ∀ h ∈ HS, allIn (b :: bs) h = false) :
    ∃ x ∈ cands b, good bs HS x = true := by
  rcases part_cases hb with ⟨s, hs, _, hsn⟩ | ⟨hs, hcb⟩
  · refine Classical.byContradiction fun hn => ?_
    have hbad : ∀ c ∈ firsts, (c :: s) ∈ HS.map fun h => h.headD [] := by
      intro c hcf
      have hg : ¬ good bs HS (c :: s) = true := fun h => hn ⟨c :: s, by unfold cands; rw [hs]; exact List.mem_map.2 ⟨c, hcf, rfl⟩, h⟩
      unfold good at hg
      rw [List.all_eq_true] at hg
      refine Classical.byContradiction fun hno => hg fun h hh => ?_
      cases h with
      | nil => rfl
      | cons y hs2 =>
        simp only
        cases hp : pm y (c :: s) with
        | false => rfl
        | true =>
          cases hi : allIn bs hs2 with
          | false => rfl
          | true =>
            exfalso
            have hnb := hc _ hh
            rw [allIn_cons, hi, Bool.and_true] at hnb
            have hyp := hH _ hh y (by simp)
            rcases part_cases hyp with ⟨t, ht, _, htn⟩ | ⟨ht, hyc⟩
            · obtain ⟨u, hu, huc⟩ := (pm_star ht).1 hp
              rw [inside_stars hs ht] at hnb
              cases u with
              | nil => cases huc
              | cons d u =>
                injection hu with _ hu
                rw [suffix_iff.2 ⟨u, hu⟩] at hnb
                cases hnb
            · have e := (pm_comp ht).1 hp
              exact hno (List.mem_map.2 ⟨y :: hs2, hh, e.symm⟩)
    have hlen := nodup_short (l := firsts.map fun c => c :: s) (m := HS.map fun h => h.headD []) (by
      rw [List.nodup_iff_pairwise_ne, List.pairwise_map]
      exact firsts_asc.imp fun {a b} h e => by
        injection e with e
        subst e
        exact UInt8.lt_irrefl _ h) (fun x hx => by
      obtain ⟨c, hcf, rfl⟩ := List.mem_map.1 hx
      exact hbad c hcf)
    rw [List.length_map, List.length_map, firsts_len] at hlen
    omega
  · refine ⟨b, by unfold cands; rw [hs]; simp, ?_⟩
    unfold good
    rw [List.all_eq_true]
    intro h hh
    cases h with
    | nil => rfl
    | cons y hs2 =>
      simp only
      cases hp : pm y b with
      | false => rfl
      | true =>
        cases hi : allIn bs hs2 with
        | false => rfl
        | true =>
          exfalso
          have hnb := hc _ hh
          rw [allIn_cons, hi, Bool.and_true] at hnb
          rcases part_cases (hH _ hh y (by simp)) with ⟨t, ht, _, _⟩ | ⟨ht, _⟩
          · rw [inside_star hs ht, hp] at hnb; cases hnb
          · rw [(pm_comp ht).1 hp, inside_self] at hnb; cases hnb
theorem keep_mem {HS : List (List (List UInt8))} {x : List UInt8} {k : List (List UInt8)} : k ∈ keep HS x ↔ ∃ y, y :: k ∈ HS ∧ pm y x = true := by
  unfold keep
  rw [List.mem_filterMap]
  constructor
  · rintro ⟨h, hh, he⟩
    cases h with
    | nil => cases he
    | cons y hs =>
      simp only at he
      split at he
      · rename_i hp
        injection he with he
        subst he
        exact ⟨y, hh, hp⟩
      · cases he
  · rintro ⟨y, hh, hp⟩
    exact ⟨_, hh, by simp only [hp, if_true]⟩
theorem good_iff {bs : List (List UInt8)} {HS : List (List (List UInt8))} {x : List UInt8} : good bs HS x = true ↔ ∀ k ∈ keep HS x, allIn bs k = false := by
  unfold good
  rw [List.all_eq_true]
  constructor
  · intro h k hk
    obtain ⟨y, hy, hp⟩ := keep_mem.1 hk
    have := h _ hy
    simp only [hp, Bool.true_and, Bool.not_eq_true'] at this
    exact this
  · intro h k hk
    cases k with
    | nil => rfl
    | cons y hs =>
      simp only
      cases hp : pm y x with
      | false => rfl
      | true => rw [h hs (keep_mem.2 ⟨y, hk, hp⟩)]; rfl
theorem lives_cons {b : List UInt8} {bs : List (List UInt8)} {HS : List (List (List UInt8))} {y : List UInt8} {m : List (List UInt8)} (hH : ∀ h ∈ HS, h.length = (b :: bs).length) :
    Lives (b :: bs) HS (y :: m) ↔ Pm.comp y = true ∧ pm b y = true ∧ Lives bs (keep HS y) m := by
  constructor
  · rintro ⟨h1, h2, h3, h4⟩
    rw [allPm_cons, Bool.and_eq_true] at h3
    refine ⟨h2 y (by simp), h3.1, ⟨by simpa using h1, fun c hc => h2 c (List.mem_cons_of_mem _ hc), h3.2, fun k hk => ?_⟩⟩
    obtain ⟨z, hz, hp⟩ := keep_mem.1 hk
    have := h4 _ hz
    rw [allPm_cons, hp] at this
    exact this
  · rintro ⟨h1, h2, h3⟩
    refine ⟨by simpa using h3.len, fun c hc => ?_, by rw [allPm_cons, h2, h3.own]; rfl, fun k hk => ?_⟩
    · rcases List.mem_cons.1 hc with rfl | hc
      · exact h1
      · exact h3.comps c hc
    · cases k with
      | nil => have := hH _ hk; simp at this
      | cons z ks =>
        rw [allPm_cons]
        cases hp : pm z y with
        | false => rfl
        | true => exact h3.out ks (keep_mem.2 ⟨z, hk, hp⟩)
/-- Where no hole holds all, the greedy path is the least one. -/
theorem greedy_ok : ∀ {bs : List (List UInt8)} {HS : List (List (List UInt8))}, (∀ x ∈ bs, part x = true) → (∀ h ∈ HS, h.length = bs.length ∧ ∀ x ∈ h, part x = true) → HS.length ≤ 64 → (∀ h ∈ HS, allIn bs h = false) →
    ∃ l, greedy bs HS = some l ∧ Lives bs HS l ∧ ∀ m, Lives bs HS m → ordL l m ≤ 0
  | [], HS, _, hH, _, hc => by
    have he : HS = [] := by
      cases HS with
      | nil => rfl
      | cons h t =>
        have h1 := (hH h (by simp)).1
        have h2 := hc h (by simp)
        rw [List.eq_nil_of_length_eq_zero h1] at h2
        cases h2
    subst he
    exact ⟨[], rfl, ⟨rfl, fun c hc => (by cases hc), rfl, fun h hh => (by cases hh)⟩, fun m hm => by rw [List.eq_nil_of_length_eq_zero hm.len]; decide⟩
  | b :: bs, HS, hB, hH, h64, hc => by
    have hb := hB b (by simp)
    obtain ⟨x0, hx0, hg0⟩ := some_good (bs := bs) hb (fun h hh => (hH h hh).2) h64 hc
    cases hf : (cands b).find? (good bs HS) with
    | none => exact absurd hg0 (List.find?_eq_none.1 hf x0 hx0)
    | some x =>
      obtain ⟨hgx, as, cs, hsplit, hbefore⟩ := List.find?_eq_some_iff_append.1 hf
      have hxc : x ∈ cands b := by rw [hsplit]; simp
      obtain ⟨l, hl, hL, hmin⟩ := greedy_ok (bs := bs) (HS := keep HS x) (fun z hz => hB z (List.mem_cons_of_mem _ hz)) (fun k hk => by
        obtain ⟨y, hy, _⟩ := keep_mem.1 hk
        obtain ⟨h1, h2⟩ := hH _ hy
        exact ⟨by simpa using h1, fun z hz => h2 z (List.mem_cons_of_mem _ hz)⟩) (Nat.le_trans (List.length_filterMap_le _ _) h64) (good_iff.1 hgx)
      have hLx : Lives (b :: bs) HS (x :: l) := (lives_cons fun h hh => (hH h hh).1).2 ⟨(cands_comp hb hxc).1, (cands_comp hb hxc).2, hL⟩
      refine ⟨x :: l, by rw [greedy, hf]; simp only; rw [hl]; rfl, hLx, fun m hm => ?_⟩
      cases m with
      | nil => have := hm.len; simp at this
      | cons y m =>
        obtain ⟨h1, h2, h3⟩ := (lives_cons fun h hh => (hH h hh).1).1 hm
        have hgy : good bs HS y = true := good_iff.2 fun k hk => by
          cases hi : allIn bs k with
          | false => rfl
          | true => rw [← h3.out k hk]; exact (allIn_pm hi h3.own).symm
        unfold ordL
        by_cases e : x = y
        · subst e
          rw [if_pos (ordC_self x)]
          exact hmin m h3
        · rcases cands_least hb hxc h2 with hy | hy
          · rw [hsplit] at hy
            rcases List.mem_append.1 hy with hy | hy
            · have := hbefore y hy
              rw [hgy] at this
              cases this
            · rcases List.mem_cons.1 hy with hy | hy
              · exact absurd hy.symm e
              · have ha := cands_asc b
                rw [hsplit, List.pairwise_append] at ha
                have := (List.pairwise_cons.1 ha.2.1).1 y hy
                rw [if_neg (by omega)]
                omega
          · rw [if_neg (by omega)]
            omega

/- Regions: their paths, by numbers of components. -/
def has (B : Pat) (H : List Pat) (s : List UInt8) : Bool := (matchP B s).isSome && !H.any fun h => (matchP h s).isSome
def partAt (p : Pat) (i : Nat) : List UInt8 := p.parts.getD i [42]
/-- A pattern's parts, n of them: stars behind its own. -/
def full (p : Pat) (n : Nat) : List (List UInt8) := p.parts ++ List.replicate (n - p.parts.length) [42]
def holesAt (H : List Pat) (n : Nat) : List (List (List UInt8)) := (H.filter fun h => fits h n).map fun h => full h n
/-- One hole is matched by all paths of the base with n components. -/
def fullAt (B : Pat) (H : List Pat) (n : Nat) : Bool := H.any fun h => fits h n && allIn (full B n) (full h n)
theorem full_len {p : Pat} {n : Nat} (h : fits p n = true) : (full p n).length = n := by
  have := fits_le h
  unfold full
  rw [List.length_append, List.length_replicate]
  omega
theorem full_parts {p : Pat} {n : Nat} (h : check p = 0) : ∀ x ∈ full p n, part x = true := by
  intro x hx
  rcases List.mem_append.1 hx with hx | hx
  · exact form_parts (check_ok.1 h).1 x hx
  · rw [(List.mem_replicate.1 hx).2]; decide
theorem allPm_stars : ∀ (n : Nat) (l : List (List UInt8)), l.length = n → (∀ c ∈ l, Pm.comp c = true) → allPm (List.replicate n [42]) l = true
  | 0, _, _, _ => rfl
  | n + 1, [], h, _ => by simp at h
  | n + 1, c :: l, h, hc => by
    rw [List.replicate_succ, allPm_cons, allPm_stars n l (by simpa using h) fun d hd => hc d (List.mem_cons_of_mem _ hd), Bool.and_true]
    exact (pm_star (s := []) (by decide)).2 ⟨c, by simp, hc c (by simp)⟩
theorem allPm_full : ∀ (ps : List (List UInt8)) (k : Nat) (l : List (List UInt8)), l.length = ps.length + k → (∀ c ∈ l, Pm.comp c = true) → allPm (ps ++ List.replicate k [42]) l = allPm ps l
  | [], k, l, h, hc => by
    rw [List.nil_append, allPm_stars k l (by simpa using h) hc]
    cases l <;> rfl
  | p :: ps, k, [], h, _ => by simp at h; omega
  | p :: ps, k, c :: l, h, hc => by
    rw [List.cons_append, allPm_cons, allPm_cons, allPm_full ps k l (by simp at h; omega) fun d hd => hc d (List.mem_cons_of_mem _ hd)]
theorem match_full {p : Pat} (hp : check p = 0) {l : List (List UInt8)} (h2 : 2 ≤ l.length) (hc : ∀ c ∈ l, Pm.comp c = true) : (matchP p (Pm.join l)).isSome = (fits p l.length && allPm (full p l.length) l) := by
  have hpo : pathO (Pm.join l) = some l := pathO_some.2 ⟨rfl, h2, hc⟩
  rw [Bool.eq_iff_iff, matchP_isSome, Bool.and_eq_true]
  constructor
  · rintro ⟨_, l', h1, h3, h4⟩
    rw [hpo] at h1
    obtain rfl := Option.some.inj h1
    refine ⟨h3, ?_⟩
    unfold full
    rw [allPm_full _ _ _ (by have := fits_le h3; omega) hc]
    exact h4
  · rintro ⟨h3, h4⟩
    refine ⟨hp, l, hpo, h3, ?_⟩
    unfold full at h4
    rw [allPm_full _ _ _ (by have := fits_le h3; omega) hc] at h4
    exact h4
theorem holesAt_mem {H : List Pat} {n : Nat} {k : List (List UInt8)} : k ∈ holesAt H n ↔ ∃ h ∈ H, fits h n = true ∧ full h n = k := by
  unfold holesAt
  rw [List.mem_map]
  constructor
  · rintro ⟨h, hh, e⟩; exact ⟨h, (List.mem_filter.1 hh).1, (List.mem_filter.1 hh).2, e⟩
  · rintro ⟨h, h1, h2, e⟩; exact ⟨h, List.mem_filter.2 ⟨h1, h2⟩, e⟩
theorem lives_has {B : Pat} {H : List Pat} (hB : check B = 0) (hH : ∀ h ∈ H, check h = 0) {l : List (List UInt8)} (h2 : 2 ≤ l.length) (hf : fits B l.length = true) (hc : ∀ c ∈ l, Pm.comp c = true) :
    Lives (full B l.length) (holesAt H l.length) l ↔ has B H (Pm.join l) = true := by
  unfold has
  rw [match_full hB h2 hc, hf, Bool.true_and, Bool.and_eq_true, Bool.not_eq_true', List.any_eq_false]
  constructor
  · rintro ⟨_, _, h3, h4⟩
    refine ⟨h3, fun h hh => ?_⟩
    rw [match_full (hH h hh) h2 hc]
    cases hfh : fits h l.length with
    | false => simp
    | true => rw [h4 _ (holesAt_mem.2 ⟨h, hh, hfh, rfl⟩)]; simp
  · rintro ⟨h3, h4⟩
    refine ⟨(full_len hf).symm, hc, h3, fun k hk => ?_⟩
    obtain ⟨h, hh, hfh, rfl⟩ := holesAt_mem.1 hk
    have := h4 h hh
    rw [match_full (hH h hh) h2 hc, hfh, Bool.true_and] at this
    exact Bool.eq_false_iff.2 this
theorem has_path {B : Pat} {H : List Pat} {s : List UInt8} (h : has B H s = true) : ∃ l, s = Pm.join l ∧ 2 ≤ l.length ∧ (∀ c ∈ l, Pm.comp c = true) ∧ fits B l.length = true := by
  unfold has at h
  rw [Bool.and_eq_true] at h
  obtain ⟨_, l, h1, h2, _⟩ := matchP_isSome.1 h.1
  obtain ⟨e, h3, h4⟩ := pathO_some.1 h1
  exact ⟨l, e, h3, h4, h2⟩
theorem fits_two {B : Pat} (hB : check B = 0) {n : Nat} (h : fits B n = true) : 2 ≤ n := by
  have hf := (check_ok.1 hB).1
  unfold fits at h
  cases hr : B.rest with
  | false =>
    rw [hr] at h
    simp only [Bool.false_eq_true, if_false, decide_eq_true_eq] at h
    have := form_two hf hr
    omega
  | true =>
    rw [hr] at h
    simp only [if_true, decide_eq_true_eq] at h
    have := form_pos hf
    omega
theorem fullAt_false {B : Pat} {H : List Pat} {n : Nat} : fullAt B H n = false ↔ ∀ k ∈ holesAt H n, allIn (full B n) k = false := by
  unfold fullAt
  rw [List.any_eq_false]
  constructor
  · intro h k hk
    obtain ⟨p, hp, hf, rfl⟩ := holesAt_mem.1 hk
    have := h p hp
    rw [hf, Bool.true_and] at this
    exact Bool.eq_false_iff.2 this
  · intro h p hp
    cases hf : fits p n with
    | false => simp
    | true => rw [h _ (holesAt_mem.2 ⟨p, hp, hf, rfl⟩)]; simp
/-- A region has a path with n components just where no hole is full; then the greedy one is the least of these. -/
theorem hasN_greedy {B : Pat} {H : List Pat} {n : Nat} (hB : check B = 0) (hH : ∀ h ∈ H, check h = 0) (h64 : H.length ≤ 64) (hf : fits B n = true) (hn : fullAt B H n = false) :
    ∃ l, greedy (full B n) (holesAt H n) = some l ∧ l.length = n ∧ (∀ c ∈ l, Pm.comp c = true) ∧ has B H (Pm.join l) = true ∧ ∀ m, m.length = n → (∀ c ∈ m, Pm.comp c = true) → has B H (Pm.join m) = true → ordL l m ≤ 0 := by
  have h2 := fits_two hB hf
  obtain ⟨l, hl, hL, hmin⟩ := greedy_ok (bs := full B n) (HS := holesAt H n) (full_parts hB) (fun k hk => by
    obtain ⟨h, hh, hfh, rfl⟩ := holesAt_mem.1 hk
    exact ⟨by rw [full_len hfh, full_len hf], full_parts (hH h hh)⟩) (by
    unfold holesAt
    rw [List.length_map]
    exact Nat.le_trans (List.length_filter_le _ _) h64) (fullAt_false.1 hn)
  have hlen : l.length = n := by rw [hL.len, full_len hf]
  subst hlen
  refine ⟨l, hl, rfl, hL.comps, (lives_has hB hH h2 hf hL.comps).1 hL, fun m hm hmc hh => hmin m ?_⟩
  rw [← hm] at hf h2 ⊢
  exact (lives_has hB hH h2 hf hmc).2 hh
theorem hasN_full {B : Pat} {H : List Pat} (hB : check B = 0) (hH : ∀ h ∈ H, check h = 0) {l : List (List UInt8)} (hc : ∀ c ∈ l, Pm.comp c = true) (hf : fits B l.length = true) (hn : fullAt B H l.length = true) : has B H (Pm.join l) = false := by
  have h2 := fits_two hB hf
  cases hh : has B H (Pm.join l) with
  | false => rfl
  | true =>
    have hL := (lives_has hB hH h2 hf hc).2 hh
    unfold fullAt at hn
    obtain ⟨h, h1, h3⟩ := List.any_eq_true.1 hn
    rw [Bool.and_eq_true] at h3
    have := hL.out _ (holesAt_mem.2 ⟨h, h1, h3.1, rfl⟩)
    rw [allIn_pm h3.2 hL.own] at this
    cases this
/-- The order of regions' paths. -/
def ordP (l m : List (List UInt8)) : Int := if l.length ≠ m.length then (l.length : Int) - m.length else ordL l m
/-- The least path of a region, or none. -/
def IsLeast (B : Pat) (H : List Pat) (o : Option (List (List UInt8))) : Prop :=
  (∀ l, o = some l → 2 ≤ l.length ∧ (∀ c ∈ l, Pm.comp c = true) ∧ has B H (Pm.join l) = true ∧ ∀ m, (∀ c ∈ m, Pm.comp c = true) → has B H (Pm.join m) = true → ordP l m ≤ 0) ∧ (o = none → ∀ s, has B H s = false)
theorem IsLeast.one {B : Pat} {H H' : List Pat} {o o' : Option (List (List UInt8))} (h : IsLeast B H o) (h' : IsLeast B H' o') (hs : ∀ s, has B H s = has B H' s) : o = o' := by
  cases o with
  | none =>
    cases o' with
    | none => rfl
    | some l =>
      have h1 := (h'.1 l rfl).2.2.1
      rw [← hs, h.2 rfl] at h1
      cases h1
  | some l =>
    obtain ⟨a1, a2, a3, a4⟩ := h.1 l rfl
    cases o' with
    | none =>
      rw [hs, h'.2 rfl] at a3
      cases a3
    | some m =>
      obtain ⟨b1, b2, b3, b4⟩ := h'.1 m rfl
      have k1 := a4 m b2 (by rw [hs]; exact b3)
      have k2 := b4 l a2 (by rw [← hs]; exact a3)
      unfold ordP at k1 k2
      by_cases hl : l.length = m.length
      · rw [if_neg (by simpa using hl)] at k1
        rw [if_neg (by simpa using hl.symm), ordL_neg] at k2
        rw [ordL_zero hl (by omega)]
      · rw [if_pos hl] at k1
        rw [if_pos (fun e => hl e.symm)] at k2
        omega
/-- The least number of components, and the greedy path of as many. -/
theorem least_of {B : Pat} {H : List Pat} {o : Option Nat} (hB : check B = 0) (hH : ∀ h ∈ H, check h = 0) (h64 : H.length ≤ 64)
    (h1 : ∀ n, o = some n → fits B n = true ∧ fullAt B H n = false ∧ ∀ m < n, fits B m = true → fullAt B H m = true) (h2 : o = none → ∀ n, fits B n = true → fullAt B H n = true) :
    IsLeast B H (o.bind fun n => greedy (full B n) (holesAt H n)) := by
  cases o with
  | none =>
    refine ⟨fun l h => (by cases h), fun _ s => ?_⟩
    cases hs : has B H s with
    | false => rfl
    | true =>
      obtain ⟨l, rfl, h3, hc, hf⟩ := has_path hs
      rw [hasN_full hB hH hc hf (h2 rfl _ hf)] at hs
      cases hs
  | some n =>
    obtain ⟨hf, hn, hm⟩ := h1 n rfl
    obtain ⟨l, hl, hlen, hc, hh, hmin⟩ := hasN_greedy hB hH h64 hf hn
    refine ⟨fun l' h => ?_, fun h => ?_⟩
    · simp only [Option.bind_some] at h
      rw [hl] at h
      obtain rfl := Option.some.inj h
      refine ⟨by rw [hlen]; exact fits_two hB hf, hc, hh, fun m hmc hmh => ?_⟩
      obtain ⟨m', e, h3, hc', hf'⟩ := has_path hmh
      have h2m : 2 ≤ m.length ∧ m = m' := by
        have hm' := pathO_some.2 ⟨rfl, h3, hc'⟩
        rw [← e] at hm'
        cases m with
        | nil =>
          exfalso
          have : Pm.parts (Pm.join ([] : List (List UInt8))) = none := by decide
          unfold pathO at hm'
          rw [this] at hm'
          split at hm' <;> cases hm'
        | cons c m0 =>
          have hp := Pm.parts_join (l := c :: m0) (by simp) hmc
          have hv : Pm.parts (Pm.join (c :: m0)) = some m' := by
            unfold pathO at hm'
            split at hm'
            · exact hm'
            · cases hm'
          rw [hp] at hv
          have e2 := Option.some.inj hv
          exact ⟨by rw [e2]; exact h3, e2⟩
      obtain ⟨h2m, rfl⟩ := h2m
      unfold ordP
      by_cases hln : l.length = m.length
      · rw [if_neg (by simpa using hln)]
        exact hmin m (by omega) hmc hmh
      · rw [if_pos hln]
        have : ¬ m.length < n := fun hlt => by
          rw [hasN_full hB hH hmc hf' (hm _ hlt hf')] at hmh
          cases hmh
        omega
    · simp only [Option.bind_some] at h
      rw [hl] at h
      cases h
end Go.Proofs.YtembmegllpkmfaaGreatDoor.Pt.Rg

namespace Go.Proofs.YtembmegllpkmfaaGreatDoor.Pt.Rg
open Go

theorem up_of {B : Pat} {H L : List Pat} (h : IsSimp B H L) : ∀ y ∈ met B H, ∃ q ∈ L, within y q = true := fun y hy => by
  have hh := holds_all B H
  obtain ⟨q, hq, hw⟩ := hh.up y hy
  exact ⟨q, (h.mem q).2 ((hh.mem q).1 hq), hw⟩
theorem simp_holes {B : Pat} {H L : List Pat} (h : IsSimp B H L) : ∀ x ∈ L, check x = 0 ∧ within x B = true := fun x hx => met_ok ((h.mem x).1 hx).1
theorem simp_len {B : Pat} {H L : List Pat} (h : IsSimp B H L) : L.length ≤ H.length := by
  have hn : L.Nodup := h.srt.imp fun {a b} hab e => by
    subst e
    rw [Pm.compareBytes_self] at hab
    omega
  exact Nat.le_trans (nodup_short hn fun x hx => ((h.mem x).1 hx).1) (List.length_filterMap_le _ _)
theorem has_iff {B : Pat} {H : List Pat} {s : List UInt8} : has B H s = true ↔ (matchP B s).isSome = true ∧ ∀ h ∈ H, (matchP h s).isSome = false := by
  unfold has
  rw [Bool.and_eq_true, Bool.not_eq_true', List.any_eq_false]
  simp only [Bool.not_eq_true]
theorem has_simp {B : Pat} {H L : List Pat} (h : IsSimp B H L) (s : List UInt8) : has B L s = has B H s := by
  rw [Bool.eq_iff_iff, has_iff, has_iff]
  constructor
  · rintro ⟨hb, ho⟩
    refine ⟨hb, fun x hx => ?_⟩
    cases hm : (matchP x s).isSome with
    | false => rfl
    | true =>
      cases he : meet B x with
      | none => have := meet_none he s; rw [hb, hm] at this; cases this
      | some m =>
        have h1 := meet_some he s
        rw [hb, hm] at h1
        obtain ⟨q, hq, hw⟩ := up_of h m (met_mem.2 ⟨x, hx, he⟩)
        have h2 := within_match hw h1.symm
        rw [ho q hq] at h2
        cases h2
  · rintro ⟨hb, ho⟩
    refine ⟨hb, fun x hx => ?_⟩
    cases hm : (matchP x s).isSome with
    | false => rfl
    | true =>
      obtain ⟨y, hy, he⟩ := met_mem.1 ((h.mem x).1 hx).1
      have h1 := meet_some he s
      rw [hm, ho y hy, Bool.and_false] at h1
      cases h1
theorem met_simp {B : Pat} {H L : List Pat} (h : IsSimp B H L) : met B L = L := by
  have hw := simp_holes h
  clear h
  unfold met
  induction L with
  | nil => rfl
  | cons x L ih =>
    rw [List.filterMap_cons, meet_self (hw x (by simp)).2]
    simp only
    rw [ih fun y hy => hw y (List.mem_cons_of_mem _ hy)]
theorem simp_twice {B : Pat} {H L : List Pat} (h : IsSimp B H L) : IsSimp B L L := by
  refine ⟨fun x => ?_, h.srt⟩
  rw [met_simp h]
  exact ⟨fun hx => ⟨hx, fun y hy hw => (((h.mem x).1 hx).2 y ((h.mem y).1 hy).1 hw)⟩, fun hx => hx.1⟩

/- A canonical simplified list. -/
def leT (a b : Pat) : Bool := decide (Lib.compareBytes (text a) (text b) ≤ 0)
def simpL (B : Pat) (H : List Pat) : List Pat := keptOf ((met B H).mergeSort leT)
theorem cb_le_trans {a b c : List UInt8} (h1 : Lib.compareBytes a b ≤ 0) (h2 : Lib.compareBytes b c ≤ 0) : Lib.compareBytes a c ≤ 0 := by
  by_cases e1 : Lib.compareBytes a b = 0
  · rw [Pm.compareBytes_zero e1]; exact h2
  · by_cases e2 : Lib.compareBytes b c = 0
    · rw [← Pm.compareBytes_zero e2]; exact h1
    · have := cb_trans (a := a) (b := b) (c := c) (by omega) (by omega)
      omega
theorem simpL_is (B : Pat) (H : List Pat) : IsSimp B H (simpL B H) := by
  refine kept_simp (List.mergeSort_perm _ _) ?_
  have h := List.pairwise_mergeSort (le := leT) (fun a b c h1 h2 => by
    unfold leT at *
    rw [decide_eq_true_eq] at *
    exact cb_le_trans h1 h2) (fun a b => by
    unfold leT
    rw [Bool.or_eq_true, decide_eq_true_eq, decide_eq_true_eq]
    have := cb_neg (text a) (text b)
    omega) (met B H)
  exact h.imp fun {a b} hab => by
    unfold leT at hab
    exact of_decide_eq_true hab
theorem IsSimp.eq {B : Pat} {H L : List Pat} (h : IsSimp B H L) : L = simpL B H := h.one (simpL_is B H)

theorem getD_far {α : Type} : ∀ (l : List α) (d : α) {i : Nat}, l.length ≤ i → l.getD i d = d := fun l d i h => by
  rw [List.getD_eq_getElem?_getD, List.getElem?_eq_none h]
  rfl

/- Numbers of components. -/
theorem partAt_part {p : Pat} (h : check p = 0) (i : Nat) : part (partAt p i) = true := by
  unfold partAt
  by_cases hi : i < p.parts.length
  · exact form_parts (check_ok.1 h).1 _ (getD_mem hi)
  · rw [getD_far _ _ (by omega)]; decide
theorem partAt_far {p : Pat} {i : Nat} (h : p.parts.length ≤ i) : partAt p i = [42] := by unfold partAt; rw [getD_far _ _ h]
theorem inside_any {x : List UInt8} (h : part x = true) : inside x [42] = true := by
  have h42 : star [42] = some [] := by decide
  rcases part_cases h with ⟨s, hs, _, _⟩ | ⟨hs, hc⟩
  · rw [inside_stars hs h42]; exact suffix_iff.2 ⟨s, by simp⟩
  · rw [inside_star hs h42]; exact (pm_star h42).2 ⟨x, by simp, hc⟩
theorem full_at {p : Pat} {n j : Nat} (h : j < n) : (full p n).getD j [] = partAt p j := by
  unfold full partAt
  by_cases hj : j < p.parts.length
  · rw [List.getD_eq_getElem?_getD, List.getElem?_append_left hj, List.getD_eq_getElem?_getD, List.getElem?_eq_getElem hj]; rfl
  · rw [List.getD_eq_getElem?_getD, List.getElem?_append_right (by omega), List.getElem?_replicate, if_pos (by omega), getD_far _ _ (by omega)]; rfl
theorem allIn_at : ∀ {xs ys : List (List UInt8)}, xs.length = ys.length → (allIn xs ys = true ↔ ∀ j < xs.length, inside (xs.getD j []) (ys.getD j []) = true)
  | [], [], _ => by simp [allIn]
  | [], _ :: _, h => by simp at h
  | _ :: _, [], h => by simp at h
  | x :: xs, y :: ys, h => by
    rw [allIn_cons, Bool.and_eq_true, allIn_at (by simpa using h)]
    constructor
    · rintro ⟨h1, h2⟩ j hj
      cases j with
      | zero => simpa using h1
      | succ j => simpa using h2 j (by simpa using hj)
    · intro h2
      exact ⟨by simpa using h2 0 (by simp), fun j hj => by simpa using h2 (j + 1) (by simpa using hj)⟩
theorem drop_at (xs : List (List UInt8)) (i j : Nat) : (xs.drop i).getD j [] = xs.getD (i + j) [] := by
  rw [List.getD_eq_getElem?_getD, List.getElem?_drop, List.getD_eq_getElem?_getD]
/-- A hole is matched, from a place on, by all that the base matches. -/
def covers (B h : Pat) (i n : Nat) : Bool := fits h n && (List.range h.parts.length).all fun j => decide (j < i) || inside (partAt B j) (partAt h j)
theorem covers_iff {B h : Pat} {i n : Nat} (hB : check B = 0) (hf : fits h n = true) (hBf : fits B n = true) : covers B h i n = allIn ((full B n).drop i) ((full h n).drop i) := by
  have hn := fits_le hf
  unfold covers
  rw [hf, Bool.true_and, Bool.eq_iff_iff, allIn_at (by rw [List.length_drop, List.length_drop, full_len hf, full_len hBf]), List.all_eq_true]
  rw [List.length_drop, full_len hBf]
  constructor
  · intro h1 j hj
    rw [drop_at, drop_at, full_at (by omega), full_at (by omega)]
    by_cases hl : i + j < h.parts.length
    · have := h1 (i + j) (List.mem_range.2 hl)
      rw [Bool.or_eq_true, decide_eq_true_eq] at this
      rcases this with h2 | h2
      · omega
      · exact h2
    · rw [partAt_far (p := h) (by omega)]
      exact inside_any (partAt_part hB _)
  · intro h1 j hj
    have hj := List.mem_range.1 hj
    rw [Bool.or_eq_true, decide_eq_true_eq]
    by_cases hi : j < i
    · exact .inl hi
    · right
      have := h1 (j - i) (by omega)
      rw [drop_at, drop_at, full_at (by omega), full_at (by omega), show i + (j - i) = j by omega] at this
      exact this
theorem fullAt_covers {B : Pat} {H : List Pat} {n : Nat} (hB : check B = 0) (hBf : fits B n = true) : fullAt B H n = H.any fun h => covers B h 0 n := by
  unfold fullAt
  congr 1
  funext h
  cases hf : fits h n with
  | false => unfold covers; rw [hf]; rfl
  | true => rw [covers_iff hB hf hBf]; rfl
/-- For numbers of components beyond all parts it does not matter which. -/
theorem covers_far {B h : Pat} {i m n : Nat} (h1 : h.parts.length < m) (h2 : h.parts.length < n) : covers B h i m = covers B h i n := by
  unfold covers fits
  cases hr : h.rest with
  | false =>
    simp only [Bool.false_eq_true, if_false]
    rw [decide_eq_false (by omega), decide_eq_false (by omega)]
  | true =>
    simp only [if_true]
    rw [decide_eq_true h1, decide_eq_true h2]
theorem fits_far {B : Pat} {n : Nat} (hr : B.rest = true) : fits B n = true ↔ B.parts.length < n := by
  unfold fits
  rw [hr, if_pos rfl, decide_eq_true_eq]
theorem fits_one {B : Pat} {n : Nat} (hr : B.rest = false) : fits B n = true ↔ n = B.parts.length := by
  unfold fits
  rw [hr, if_neg (by decide), decide_eq_true_eq]
/-- The numbers that are tried: those of the base from the first to the last. -/
def firstN (B : Pat) : Nat := if B.rest then B.parts.length + 1 else B.parts.length
def findN (B : Pat) (H : List Pat) (last : Nat) : Option Nat := (List.range' (firstN B) (last + 1 - firstN B)).find? fun n => !fullAt B H n
theorem findN_ok {B : Pat} {H : List Pat} {last : Nat} (hB : check B = 0) (hr : B.rest = false → last = B.parts.length) (hr2 : B.rest = true → B.parts.length < last ∧ ∀ h ∈ H, h.parts.length < last) :
    (∀ n, findN B H last = some n → fits B n = true ∧ fullAt B H n = false ∧ ∀ m < n, fits B m = true → fullAt B H m = true) ∧ (findN B H last = none → ∀ n, fits B n = true → fullAt B H n = true) := by
  have hfit : ∀ n, fits B n = true → firstN B ≤ n := fun n h => by
    unfold firstN
    cases hb : B.rest with
    | false => rw [fits_one hb] at h; simp only [Bool.false_eq_true, if_false]; omega
    | true => rw [fits_far hb] at h; simp only [if_true]; omega
  have hfit2 : ∀ n, firstN B ≤ n → n ≤ last → fits B n = true := fun n h1 h2 => by
    unfold firstN at h1
    cases hb : B.rest with
    | false => rw [fits_one hb]; rw [hb] at h1; simp only [Bool.false_eq_true, if_false] at h1; have := hr hb; omega
    | true => rw [fits_far hb]; rw [hb] at h1; simp only [if_true] at h1; omega
  constructor
  · intro n hn
    unfold findN at hn
    have hmem := List.mem_of_find?_eq_some hn
    rw [List.mem_range'_1] at hmem
    have hp := List.find?_some hn
    refine ⟨hfit2 n hmem.1 (by omega), by simpa using hp, fun m hm hf => ?_⟩
    obtain ⟨_, as, bs, hs, hbe⟩ := List.find?_eq_some_iff_append.1 hn
    have hml : m ∈ List.range' (firstN B) (last + 1 - firstN B) := List.mem_range'_1.2 ⟨hfit m hf, by omega⟩
    rw [hs] at hml
    rcases List.mem_append.1 hml with h | h
    · simpa using hbe m h
    · have hsort : (List.range' (firstN B) (last + 1 - firstN B)).Pairwise (· < ·) := List.pairwise_lt_range'
      rw [hs, List.pairwise_append] at hsort
      rcases List.mem_cons.1 h with h | h
      · omega
      · have := (List.pairwise_cons.1 hsort.2.1).1 m h
        omega
  · intro hn n hf
    unfold findN at hn
    rw [List.find?_eq_none] at hn
    by_cases hl : n ≤ last
    · have := hn n (List.mem_range'_1.2 ⟨hfit n hf, by have := hfit n hf; omega⟩)
      simpa using this
    · cases hb : B.rest with
      | false => rw [fits_one hb] at hf; have := hr hb; omega
      | true =>
        obtain ⟨h1, h2⟩ := hr2 hb
        have hf2 : fits B last = true := (fits_far hb).2 h1
        have := hn last (List.mem_range'_1.2 ⟨hfit last hf2, by have := hfit last hf2; omega⟩)
        rw [fullAt_covers hB hf2] at this
        rw [fullAt_covers hB hf]
        simp only [Bool.not_eq_true', Bool.not_eq_false] at this
        obtain ⟨h, hh, hc⟩ := List.any_eq_true.1 this
        have hhl := h2 h hh
        rw [covers_far hhl (show h.parts.length < n by omega)] at hc
        exact List.any_eq_true.2 ⟨h, hh, hc⟩
/-- The least path of a region, by the greedy search. -/
def lenN (B : Pat) (H : List Pat) : Option Nat := findN B H (if B.rest then 13 else B.parts.length)
def leastO (B : Pat) (H : List Pat) : Option (List (List UInt8)) := (lenN B H).bind fun n => greedy (full B n) (holesAt H n)
theorem leastO_is {B : Pat} {H : List Pat} (hB : check B = 0) (hH : ∀ h ∈ H, check h = 0) (h64 : H.length ≤ 64) : IsLeast B H (leastO B H) := by
  have hl : ∀ p : Pat, check p = 0 → p.parts.length < 13 := fun p hp => by have := (check_ok.1 hp).2; omega
  obtain ⟨h1, h2⟩ := findN_ok (B := B) (H := H) (last := if B.rest then 13 else B.parts.length) hB (fun hr => by rw [hr]; rfl) (fun hr => by rw [hr]; exact ⟨hl B hB, fun h hh => hl h (hH h hh)⟩)
  exact least_of hB hH h64 h1 h2
theorem lenN_none {B : Pat} {H : List Pat} (hB : check B = 0) (hH : ∀ h ∈ H, check h = 0) (h64 : H.length ≤ 64) : lenN B H = none ↔ ∀ s, has B H s = false := by
  have hi := leastO_is hB hH h64
  have hl : ∀ p : Pat, check p = 0 → p.parts.length < 13 := fun p hp => by have := (check_ok.1 hp).2; omega
  obtain ⟨h1, h2⟩ := findN_ok (B := B) (H := H) (last := if B.rest then 13 else B.parts.length) hB (fun hr => by rw [hr]; rfl) (fun hr => by rw [hr]; exact ⟨hl B hB, fun h hh => hl h (hH h hh)⟩)
  constructor
  · intro h
    exact hi.2 (by unfold leastO; rw [h]; rfl)
  · intro h
    cases hn : lenN B H with
    | none => rfl
    | some n =>
      obtain ⟨a, b, _⟩ := h1 n hn
      obtain ⟨l, _, _, _, hh, _⟩ := hasN_greedy hB hH h64 a b
      rw [h] at hh
      cases hh
theorem lenN_some {B : Pat} {H : List Pat} (hB : check B = 0) (hH : ∀ h ∈ H, check h = 0) (h64 : H.length ≤ 64) : (lenN B H).isSome = (leastO B H).isSome := by
  cases hn : lenN B H with
  | none => unfold leastO; rw [hn]; rfl
  | some n =>
    have hl : ∀ p : Pat, check p = 0 → p.parts.length < 13 := fun p hp => by have := (check_ok.1 hp).2; omega
    obtain ⟨h1, _⟩ := findN_ok (B := B) (H := H) (last := if B.rest then 13 else B.parts.length) hB (fun hr => by rw [hr]; rfl) (fun hr => by rw [hr]; exact ⟨hl B hB, fun h hh => hl h (hH h hh)⟩)
    obtain ⟨a, b, _⟩ := h1 n hn
    obtain ⟨l, e, _⟩ := hasN_greedy hB hH h64 a b
    unfold leastO
    rw [hn, Option.bind_some, e]
    rfl

/- The program's way: holes that lie within the base. -/
def alikeGo (h B : Pat) : Nat → Nat
  | 0 => 0
  | i + 1 => if partAt h i = partAt B i then alikeGo h B i else i + 1
def alikeFrom (h B : Pat) : Nat := alikeGo h B h.parts.length
theorem alikeGo_le {h B : Pat} : ∀ {k i : Nat}, i ≤ k → (alikeGo h B k ≤ i ↔ ∀ j, i ≤ j → j < k → partAt h j = partAt B j)
  | 0, i, hi => by simp [alikeGo]
  | k + 1, i, hi => by
    unfold alikeGo
    by_cases he : partAt h k = partAt B k
    · rw [if_pos he]
      by_cases hk : i ≤ k
      · rw [alikeGo_le hk]
        constructor
        · intro h1 j hij hj
          by_cases e : j = k
          · rw [e]; exact he
          · exact h1 j hij (by omega)
        · intro h1 j hij hj; exact h1 j hij (by omega)
      · have : i = k + 1 := by omega
        subst this
        have hle : ∀ m, alikeGo h B m ≤ m := fun m => by
          induction m with
          | zero => exact Nat.le_refl _
          | succ m ih => unfold alikeGo; split <;> omega
        exact ⟨fun _ j a b => by omega, fun _ => by have := hle k; omega⟩
    · rw [if_neg he]
      constructor
      · intro h1 j hij hj; omega
      · intro h1
        by_cases hk : i ≤ k
        · exact absurd (h1 k hk (by omega)) he
        · omega
theorem within_at {h B : Pat} (hw : within h B = true) (j : Nat) : inside (partAt h j) (partAt B j) = true ∧ B.parts.length ≤ h.parts.length := by
  obtain ⟨h1, h2, h3, h4⟩ := within_parts hw
  unfold counts at h3
  rw [Bool.and_eq_true, decide_eq_true_eq] at h3
  refine ⟨?_, h3.1⟩
  by_cases hj : j < B.parts.length
  · have hgen : ∀ {ps qs : List (List UInt8)}, allIn ps qs = true → ∀ j, j < qs.length → inside (ps.getD j [42]) (qs.getD j [42]) = true := by
      intro ps
      induction ps with
      | nil =>
        intro qs h j hj
        cases qs with
        | nil => simp at hj
        | cons q qs => simp [allIn] at h
      | cons p ps ih =>
        intro qs h j hj
        cases qs with
        | nil => simp at hj
        | cons q qs =>
          rw [allIn_cons, Bool.and_eq_true] at h
          cases j with
          | zero => simpa using h.1
          | succ j => simpa using ih h.2 j (by simpa using hj)
    exact hgen h4 j hj
  · rw [partAt_far (p := B) (by omega)]
    exact inside_any (partAt_part h1 j)
theorem covers_alike {h B : Pat} (hw : within h B = true) (i n : Nat) : covers B h i n = (fits h n && decide (alikeFrom h B ≤ i)) := by
  obtain ⟨h1, h2, _, _⟩ := within_parts hw
  unfold covers
  congr 1
  rw [Bool.eq_iff_iff, List.all_eq_true, decide_eq_true_eq]
  have hle : ∀ m, alikeGo h B m ≤ m := fun m => by
    induction m with
    | zero => exact Nat.le_refl _
    | succ m ih => unfold alikeGo; split <;> omega
  unfold alikeFrom
  by_cases hi : i ≤ h.parts.length
  · rw [alikeGo_le hi]
    constructor
    · intro h3 j hij hj
      have := h3 j (List.mem_range.2 hj)
      rw [Bool.or_eq_true, decide_eq_true_eq] at this
      rcases this with h4 | h4
      · omega
      · exact inside_anti (partAt_part h1 j) (partAt_part h2 j) (within_at hw j).1 h4
    · intro h3 j hj
      have hj := List.mem_range.1 hj
      rw [Bool.or_eq_true, decide_eq_true_eq]
      by_cases hij : j < i
      · exact .inl hij
      · right
        rw [h3 j (by omega) hj]
        exact inside_self _
  · constructor
    · intro _; have := hle h.parts.length; omega
    · intro _ j hj
      have hj := List.mem_range.1 hj
      rw [Bool.or_eq_true, decide_eq_true_eq]
      exact .inl (by omega)
theorem full_cons {p : Pat} {n i : Nat} (hi : i < n) (hp : p.parts.length ≤ n) : (full p n).drop i = partAt p i :: (full p n).drop (i + 1) := by
  have hl : i < (full p n).length := by unfold full; rw [List.length_append, List.length_replicate]; omega
  rw [List.drop_eq_getElem_cons hl]
  congr 1
  have := full_at (p := p) hi
  rw [List.getD_eq_getElem?_getD, List.getElem?_eq_getElem hl] at this
  exact this
theorem any_congr' {α : Type} {f g : α → Bool} : ∀ {l : List α}, (∀ x ∈ l, f x = g x) → l.any f = l.any g
  | [], _ => rfl
  | x :: l, h => by rw [List.any_cons, List.any_cons, h x (by simp), any_congr' fun y hy => h y (List.mem_cons_of_mem _ hy)]
theorem find_congr' {α : Type} {f g : α → Bool} : ∀ {l : List α}, (∀ x ∈ l, f x = g x) → l.find? f = l.find? g
  | [], _ => rfl
  | x :: l, h => by rw [List.find?_cons, List.find?_cons, h x (by simp), find_congr' fun y hy => h y (List.mem_cons_of_mem _ hy)]
theorem keep_map {a b : Pat → List (List UInt8)} {y : Pat → List UInt8} {f : Pat → Bool} {x : List UInt8} : ∀ {ms : List Pat}, (∀ h ∈ ms, a h = y h :: b h) → (∀ h ∈ ms, pm (y h) x = f h) → keep (ms.map a) x = (ms.filter f).map b
  | [], _, _ => rfl
  | h :: ms, h1, h2 => by
    have ih := keep_map (ms := ms) (fun k hk => h1 k (List.mem_cons_of_mem _ hk)) (fun k hk => h2 k (List.mem_cons_of_mem _ hk))
    unfold keep at ih ⊢
    rw [List.map_cons, List.filterMap_cons, h1 h (by simp), List.filter_cons]
    simp only
    rw [h2 h (by simp)]
    cases f h with
    | false => simpa using ih
    | true => simpa using ih
/-- A part within another one, not that one itself, holds one of its shortest texts just where it is that text. -/
theorem part_cand {b y x : List UInt8} (hb : part b = true) (hy : part y = true) (hi : inside y b = true) (hx : x ∈ cands b) (hne : y ≠ b) : pm y x = decide (y = x) := by
  rw [Bool.eq_iff_iff, decide_eq_true_eq]
  constructor
  · intro hp
    rcases part_cases hy with ⟨t, ht, hye, htn⟩ | ⟨ht, hyc⟩
    · exfalso
      rcases part_cases hb with ⟨s, hs, hbe, hsn⟩ | ⟨hs, hbc⟩
      · unfold cands at hx
        rw [hs] at hx
        obtain ⟨c, hc, rfl⟩ := List.mem_map.1 hx
        obtain ⟨u, hu, huc⟩ := (pm_star ht).1 hp
        rw [inside_stars ht hs] at hi
        obtain ⟨v, hv⟩ := suffix_iff.1 hi
        cases u with
        | nil => cases huc
        | cons d u =>
          injection hu with _ hu
          have hl := congrArg List.length hu
          have hl2 := congrArg List.length hv
          simp only [List.append_eq, List.length_append] at hl hl2
          have hv0 : v = [] := List.eq_nil_of_length_eq_zero (by omega)
          subst hv0
          exact hne (by rw [hye, hbe, hv]; rfl)
      · unfold cands at hx
        rw [hs, List.mem_singleton] at hx
        rw [inside_comp hs, decide_eq_true_eq] at hi
        exact hne hi
    · exact ((pm_comp ht).1 hp).symm
  · rintro rfl
    have hc := (cands_comp hb hx).1
    exact (pm_comp (comp_star hc)).2 rfl
/-- The program's names, one by one: 'ms' are the holes that matter still. -/
def nameAt (B : Pat) (i : Nat) (ms : List Pat) : Option (List UInt8) := match star (partAt B i) with
  | none => some (partAt B i)
  | some s => (firsts.map fun c => c :: s).find? fun x => !ms.any fun h => decide (alikeFrom h B = i + 1) && decide (partAt h i = x)
def namesGo (B : Pat) : Nat → Nat → List Pat → Option (List (List UInt8))
  | _, 0, _ => some []
  | i, k + 1, ms => match nameAt B i ms with
    | none => none
    | some x => (namesGo B (i + 1) k (ms.filter fun h => decide (partAt h i = partAt B i) || decide (partAt h i = x))).map fun l => x :: l
theorem namesGo_greedy {B : Pat} {n : Nat} (hB : check B = 0) (hBn : B.parts.length ≤ n) : ∀ (k i : Nat) (ms : List Pat), i + k = n → (∀ h ∈ ms, within h B = true ∧ fits h n = true ∧ i < alikeFrom h B) →
    namesGo B i k ms = greedy ((full B n).drop i) (ms.map fun h => (full h n).drop i)
  | 0, i, ms, hk, _ => by
    have : (full B n).drop i = [] := List.drop_eq_nil_of_le (by unfold full; rw [List.length_append, List.length_replicate]; omega)
    rw [this]
    rfl
  | k + 1, i, ms, hk, hm => by
    have hi : i < n := by omega
    have hpb := partAt_part hB i
    rw [full_cons hi hBn]
    have hms : ∀ h ∈ ms, (full h n).drop i = partAt h i :: (full h n).drop (i + 1) := fun h hh => full_cons hi (fits_le (hm h hh).2.1)
    unfold namesGo greedy
    -- the texts that are good
    have hgood : ∀ x ∈ cands (partAt B i), good ((full B n).drop (i + 1)) (ms.map fun h => (full h n).drop i) x = !ms.any fun h => decide (alikeFrom h B = i + 1) && decide (partAt h i = x) := by
      intro x hx
      unfold good
      rw [List.all_map, List.all_eq_not_any_not]
      congr 1
      refine any_congr' fun h hh => ?_
      simp only [Function.comp]
      rw [hms h hh]
      simp only [Bool.not_not]
      obtain ⟨w1, w2, w3⟩ := hm h hh
      have hfb : allIn ((full B n).drop (i + 1)) ((full h n).drop (i + 1)) = decide (alikeFrom h B ≤ i + 1) := by
        have hcv := covers_alike w1 (i + 1) n
        rw [w2, Bool.true_and] at hcv
        rw [← hcv]
        unfold covers
        rw [w2, Bool.true_and, Bool.eq_iff_iff, allIn_at (by unfold full; simp; have := fits_le w2; omega), List.all_eq_true]
        have hlen : ((full B n).drop (i + 1)).length = n - (i + 1) := by unfold full; simp; omega
        rw [hlen]
        have hhn := fits_le w2
        constructor
        · intro h1 j hj
          have hj := List.mem_range.1 hj
          rw [Bool.or_eq_true, decide_eq_true_eq]
          by_cases hij : j < i + 1
          · exact .inl hij
          · right
            have := h1 (j - (i + 1)) (by omega)
            rw [drop_at, drop_at, full_at (by omega), full_at (by omega), show i + 1 + (j - (i + 1)) = j by omega] at this
            exact this
        · intro h1 j hj
          rw [drop_at, drop_at, full_at (by omega), full_at (by omega)]
          by_cases hl : i + 1 + j < h.parts.length
          · have := h1 (i + 1 + j) (List.mem_range.2 hl)
            rw [Bool.or_eq_true, decide_eq_true_eq] at this
            rcases this with h2 | h2
            · omega
            · exact h2
          · rw [partAt_far (p := h) (by omega)]
            exact inside_any (partAt_part hB _)
      rw [hfb, show decide (alikeFrom h B ≤ i + 1) = decide (alikeFrom h B = i + 1) from by rw [Bool.eq_iff_iff, decide_eq_true_eq, decide_eq_true_eq]; omega, Bool.and_comm]
      by_cases ha : alikeFrom h B = i + 1
      · rw [decide_eq_true ha, Bool.true_and, Bool.true_and]
        -- the part at i differs from the base's
        have hne : partAt h i ≠ partAt B i := fun e => by
          have hle : i + 1 ≤ h.parts.length := by
            refine Classical.byContradiction fun hn => ?_
            have hle : ∀ m, alikeGo h B m ≤ m := fun m => by
              induction m with
              | zero => exact Nat.le_refl _
              | succ m ih => unfold alikeGo; split <;> omega
            have := hle h.parts.length
            unfold alikeFrom at ha
            omega
          have h1 := (alikeGo_le (h := h) (B := B) hle).1 (by unfold alikeFrom at ha; omega)
          have h2 := (alikeGo_le (h := h) (B := B) (k := h.parts.length) (i := i) (by omega)).2 fun j a b => by
            by_cases ej : j = i
            · rw [ej]; exact e
            · exact h1 j (by omega) b
          unfold alikeFrom at ha
          omega
        exact part_cand hpb (partAt_part (within_parts w1).1 i) (within_at w1 i).1 hx hne
      · rw [decide_eq_false ha, Bool.false_and, Bool.false_and]
    have hfind : nameAt B i ms = (cands (partAt B i)).find? (good ((full B n).drop (i + 1)) (ms.map fun h => (full h n).drop i)) := by
      unfold nameAt
      cases hs : star (partAt B i) with
      | none =>
        have hc : cands (partAt B i) = [partAt B i] := by unfold cands; rw [hs]
        rw [hc]
        have hg := hgood (partAt B i) (by rw [hc]; simp)
        have hno : (ms.any fun h => decide (alikeFrom h B = i + 1) && decide (partAt h i = partAt B i)) = false := by
          rw [List.any_eq_false]
          intro h hh
          simp only [Bool.and_eq_true, decide_eq_true_eq, not_and]
          intro ha e
          have h1 := (alikeGo_le (h := h) (B := B) (k := h.parts.length) (i := i) (by
            have hle : ∀ m, alikeGo h B m ≤ m := fun m => by
              induction m with
              | zero => exact Nat.le_refl _
              | succ m ih => unfold alikeGo; split <;> omega
            have := hle h.parts.length
            unfold alikeFrom at ha
            omega)).2 fun j a b => by
            by_cases ej : j = i
            · rw [ej]; exact e
            · have hle : i + 1 ≤ h.parts.length := by omega
              exact (alikeGo_le (h := h) (B := B) hle).1 (by unfold alikeFrom at ha; omega) j (by omega) b
          unfold alikeFrom at ha
          omega
        rw [hno] at hg
        rw [List.find?_cons, hg]
        rfl
      | some s =>
        have hc : cands (partAt B i) = firsts.map fun c => c :: s := by unfold cands; rw [hs]
        rw [hc]
        simp only
        exact find_congr' fun x hx => by rw [hgood x (by rw [hc]; exact hx)]
    rw [hfind]
    cases hf : (cands (partAt B i)).find? (good ((full B n).drop (i + 1)) (ms.map fun h => (full h n).drop i)) with
    | none => rfl
    | some x =>
      simp only
      have hxc := List.mem_of_find?_eq_some hf
      have hxg := List.find?_some hf
      have hkeep : keep (ms.map fun h => (full h n).drop i) x = (ms.filter fun h => decide (partAt h i = partAt B i) || decide (partAt h i = x)).map fun h => (full h n).drop (i + 1) := by
        have hpm : ∀ h ∈ ms, pm (partAt h i) x = (decide (partAt h i = partAt B i) || decide (partAt h i = x)) := fun h hh => by
          obtain ⟨w1, _, _⟩ := hm h hh
          by_cases e : partAt h i = partAt B i
          · rw [e, (cands_comp hpb hxc).2]; simp
          · rw [part_cand hpb (partAt_part (within_parts w1).1 i) (within_at w1 i).1 hxc e, decide_eq_false e, Bool.false_or]
        exact keep_map hms hpm
      rw [hkeep, namesGo_greedy hB hBn k (i + 1) _ (by omega) fun h hh => ?_]
      obtain ⟨h1, h2⟩ := List.mem_filter.1 hh
      obtain ⟨w1, w2, w3⟩ := hm h h1
      refine ⟨w1, w2, ?_⟩
      refine Classical.byContradiction fun hn => ?_
      have ha : alikeFrom h B = i + 1 := by omega
      rw [hgood x hxc] at hxg
      simp only [Bool.not_eq_true', List.any_eq_false, Bool.and_eq_true, decide_eq_true_eq, not_and] at hxg
      rcases (Bool.or_eq_true _ _).mp h2 with h3 | h3
      · have e := of_decide_eq_true h3
        have hle0 : ∀ m, alikeGo h B m ≤ m := fun m => by
          induction m with
          | zero => exact Nat.le_refl _
          | succ m ih => unfold alikeGo; split <;> omega
        have hle := hle0 h.parts.length
        unfold alikeFrom at ha
        have h1 := (alikeGo_le (h := h) (B := B) (k := h.parts.length) (i := i) (by omega)).2 fun j a b => by
          by_cases ej : j = i
          · rw [ej]; exact e
          · have hle : i + 1 ≤ h.parts.length := by omega
            exact (alikeGo_le (h := h) (B := B) hle).1 (by omega) j (by omega) b
        omega
      · exact hxg h h1 ha (of_decide_eq_true h3)
end Go.Proofs.YtembmegllpkmfaaGreatDoor.Pt.Rg

namespace Go.Proofs.YtembmegllpkmfaaGreatDoor.Pt.Rg
open Go

structure Reg where
  base : Pat
  holes : List Pat
def gcheck (g : Reg) : Nat := if check g.base = 0 then (if g.holes.all (fun h => decide (check h = 0)) then (if g.holes.length ≤ 64 then 0 else 52) else 51) else 50
theorem gcheck_zero {g : Reg} : gcheck g = 0 ↔ check g.base = 0 ∧ (∀ h ∈ g.holes, check h = 0) ∧ g.holes.length ≤ 64 := by
  unfold gcheck
  by_cases h1 : check g.base = 0
  · rw [if_pos h1]
    by_cases h2 : g.holes.all (fun h => decide (check h = 0)) = true
    · rw [if_pos h2]
      have h3 : ∀ h ∈ g.holes, check h = 0 := fun h hh => of_decide_eq_true (List.all_eq_true.1 h2 h hh)
      by_cases h4 : g.holes.length ≤ 64
      · rw [if_pos h4]; exact ⟨fun _ => ⟨h1, h3, h4⟩, fun _ => rfl⟩
      · rw [if_neg h4]; exact ⟨fun h => (by cases h), fun h => absurd h.2.2 h4⟩
    · rw [if_neg h2]
      exact ⟨fun h => (by cases h), fun h => absurd (List.all_eq_true.2 fun x hx => decide_eq_true (h.2.1 x hx)) h2⟩
  · rw [if_neg h1]
    exact ⟨fun h => (by cases h), fun h => absurd h.1 h1⟩
def Reg.has (g : Reg) (s : List UInt8) : Bool := Rg.has g.base g.holes s
def Reg.simp (g : Reg) : Reg := ⟨g.base, simpL g.base g.holes⟩
theorem Reg.simp_has (g : Reg) (s : List UInt8) : g.simp.has s = g.has s := has_simp (simpL_is g.base g.holes) s
/-- Simplified, with at most 64 holes. -/
def Reg.ok (g : Reg) : Bool := decide (g.simp.holes.length ≤ 64)
def Reg.empty (g : Reg) : Bool := (lenN g.base g.holes).isNone
/-- The regions that have paths, simplified; none where a limit is exceeded. -/
def withP : List Reg → Option (List Reg)
  | [] => some []
  | g :: l => if g.simp.holes.length ≤ 64 then (withP l).map fun r => if g.simp.empty then r else g.simp :: r else none
def meetR (a b : Reg) : Option Reg × Nat :=
  if gcheck a = 0 then (if gcheck b = 0 then (match meet a.base b.base with
    | none => (none, 0)
    | some B => match withP [⟨B, a.holes ++ b.holes⟩] with
      | none => (none, 52)
      | some l => (l.head?, 0)) else (none, gcheck b)) else (none, gcheck a)
def minusGo (a : Reg) (pre : List Pat) : List Pat → List Reg
  | [] => []
  | h :: hs => (match meet a.base h with
    | none => []
    | some B => [⟨B, a.holes ++ pre⟩]) ++ minusGo a (pre ++ [h]) hs
def minusL (a b : Reg) : List Reg := ⟨a.base, a.holes ++ [b.base]⟩ :: minusGo a [] b.simp.holes
def minusR (a b : Reg) : Option (List Reg) × Nat :=
  if gcheck a = 0 then (if gcheck b = 0 then (match withP (minusL a b) with
    | none => (none, 52)
    | some l => (some l, 0)) else (none, gcheck b)) else (none, gcheck a)
theorem simp_gcheck {g : Reg} (hb : check g.base = 0) (h64 : g.simp.holes.length ≤ 64) : gcheck g.simp = 0 :=
  gcheck_zero.2 ⟨hb, fun h hh => (simp_holes (simpL_is g.base g.holes) h hh).1, h64⟩
theorem empty_iff {g : Reg} (hg : gcheck g = 0) : g.empty = true ↔ ∀ s, g.has s = false := by
  obtain ⟨h1, h2, h3⟩ := gcheck_zero.1 hg
  unfold Reg.empty
  rw [Option.isNone_iff_eq_none, lenN_none h1 h2 h3]
  rfl
theorem empty_simp {g : Reg} (hg : gcheck g = 0) : g.simp.empty = g.empty := by
  obtain ⟨h1, h2, h3⟩ := gcheck_zero.1 hg
  have hs : gcheck g.simp = 0 := simp_gcheck h1 (Nat.le_trans (simp_len (simpL_is g.base g.holes)) h3)
  rw [Bool.eq_iff_iff, empty_iff hs, empty_iff hg]
  simp only [Reg.simp_has]
theorem withP_mem : ∀ {l r : List Reg}, withP l = some r → (∀ g ∈ l, check g.base = 0) → ∀ x ∈ r, gcheck x = 0 ∧ x.empty = false ∧ x.simp = x ∧ ∃ g ∈ l, x = g.simp
  | [], r, h, _, x, hx => by
    unfold withP at h
    obtain rfl := Option.some.inj h
    cases hx
  | g :: l, r, h, hc, x, hx => by
    unfold withP at h
    split at h
    · rename_i h64
      cases hw : withP l with
      | none => rw [hw] at h; cases h
      | some r' =>
        rw [hw] at h
        simp only [Option.map_some, Option.some.injEq] at h
        have ih := withP_mem hw fun y hy => hc y (List.mem_cons_of_mem _ hy)
        have later : x ∈ r' → gcheck x = 0 ∧ x.empty = false ∧ x.simp = x ∧ ∃ g' ∈ g :: l, x = g'.simp := fun h => by
          obtain ⟨a, b, c, g', hg', e⟩ := ih x h
          exact ⟨a, b, c, g', List.mem_cons_of_mem _ hg', e⟩
        cases he : g.simp.empty with
        | true => rw [he] at h; simp only [if_true] at h; subst h; exact later hx
        | false =>
          rw [he] at h
          simp only [Bool.false_eq_true, if_false] at h
          subst h
          rcases List.mem_cons.1 hx with rfl | hx
          · refine ⟨simp_gcheck (hc g (by simp)) h64, he, ?_, g, by simp, rfl⟩
            have := (simp_twice (simpL_is g.base g.holes)).eq
            unfold Reg.simp
            simp only
            rw [← this]
          · exact later hx
    · cases h
/-- How many of the regions have a path. -/
def countR (l : List Reg) (s : List UInt8) : Nat := (l.filter fun g => g.has s).length
theorem withP_count : ∀ {l r : List Reg}, withP l = some r → (∀ g ∈ l, check g.base = 0) → ∀ s, countR r s = countR l s
  | [], r, h, _, s => by
    unfold withP at h
    obtain rfl := Option.some.inj h
    rfl
  | g :: l, r, h, hc, s => by
    unfold withP at h
    split at h
    · rename_i h64
      cases hw : withP l with
      | none => rw [hw] at h; cases h
      | some r' =>
        rw [hw] at h
        simp only [Option.map_some, Option.some.injEq] at h
        have ih := withP_count hw (fun y hy => hc y (List.mem_cons_of_mem _ hy)) s
        unfold countR at ih ⊢
        rw [List.filter_cons]
        cases he : g.simp.empty with
        | true =>
          rw [he] at h
          simp only [if_true] at h
          subst h
          have := (empty_iff (simp_gcheck (hc g (by simp)) h64)).1 he s
          rw [Reg.simp_has] at this
          rw [this]
          simpa using ih
        | false =>
          rw [he] at h
          simp only [Bool.false_eq_true, if_false] at h
          subst h
          rw [List.filter_cons, Reg.simp_has]
          cases g.has s with
          | true => simpa using ih
          | false => simpa using ih
    · cases h
theorem has_two {A B m : Pat} {H K : List Pat} (hm : meet A B = some m) (s : List UInt8) : has m (H ++ K) s = (has A H s && has B K s) := by
  unfold has
  rw [← meet_some hm s, List.any_append]
  cases (matchP A s).isSome <;> cases (matchP B s).isSome <;> cases (H.any fun h => (matchP h s).isSome) <;> cases (K.any fun h => (matchP h s).isSome) <;> rfl
theorem has_no {A B : Pat} {H K : List Pat} (hm : meet A B = none) (s : List UInt8) : (has A H s && has B K s) = false := by
  have := meet_none hm s
  unfold has
  revert this
  cases (matchP A s).isSome <;> cases (matchP B s).isSome <;> simp
/-- What the intersection's paths are. -/
theorem meetR_has {a b : Reg} (he : (meetR a b).2 = 0) (ha : gcheck a = 0) (hb : gcheck b = 0) (s : List UInt8) : ((meetR a b).1.any fun g => g.has s) = (a.has s && b.has s) := by
  unfold meetR at he ⊢
  rw [if_pos ha, if_pos hb] at he ⊢
  cases hm : meet a.base b.base with
  | none => simp only [Option.any_none]; exact (has_no hm s).symm
  | some B =>
    rw [hm] at he
    simp only at he ⊢
    cases hw : withP [⟨B, a.holes ++ b.holes⟩] with
    | none => rw [hw] at he; simp at he
    | some l =>
      simp only
      have hB : check B = 0 := meet_ok hm
      have hc := withP_count hw (fun g hg => by rw [List.mem_singleton] at hg; rw [hg]; exact hB) s
      have h2 : countR [⟨B, a.holes ++ b.holes⟩] s = if a.has s && b.has s then 1 else 0 := by
        unfold countR Reg.has
        rw [List.filter_cons, has_two hm s]
        cases (has a.base a.holes s && has b.base b.holes s) <;> rfl
      rw [h2] at hc
      have hl : l.length ≤ 1 := by
        unfold withP at hw
        split at hw
        · simp only [withP, Option.map_some, Option.some.injEq] at hw
          rw [← hw]
          split <;> simp
        · cases hw
      match l, hl with
      | [], _ =>
        unfold countR at hc
        simp only [List.filter_nil, List.length_nil] at hc
        simp only [List.head?_nil, Option.any_none]
        revert hc
        cases (a.has s && b.has s) <;> simp
      | [g], _ =>
        unfold countR at hc
        rw [List.filter_cons] at hc
        simp only [List.head?_cons, Option.any_some]
        revert hc
        cases g.has s <;> cases (a.has s && b.has s) <;> simp
theorem four_bools : ∀ a p m x : Bool, (if (a && !p && m) = true then 1 else 0) + (if (a && !(p || m) && x) = true then 1 else 0) = if (a && !p && (m || x)) = true then 1 else 0 := by decide
theorem minusGo_count (a : Reg) (s : List UInt8) : ∀ (hs pre : List Pat), countR (minusGo a pre hs) s = if a.has s && !(pre.any fun h => (matchP h s).isSome) && hs.any (fun h => (matchP h s).isSome) then 1 else 0
  | [], pre => by simp [minusGo, countR]
  | h :: hs, pre => by
    have ih := minusGo_count a s hs (pre ++ [h])
    unfold minusGo countR
    rw [List.filter_append, List.length_append]
    unfold countR at ih
    rw [ih, List.any_append, List.any_cons]
    simp only [List.any_cons, List.any_nil, Bool.or_false]
    have h1 : (List.filter (fun g : Reg => g.has s) (match meet a.base h with
      | none => ([] : List Reg)
      | some B => [⟨B, a.holes ++ pre⟩])).length = if a.has s && !(pre.any fun h => (matchP h s).isSome) && (matchP h s).isSome then 1 else 0 := by
      unfold Reg.has has
      cases hm : meet a.base h with
      | none =>
        have := meet_none hm s
        simp only [List.filter_nil, List.length_nil]
        revert this
        cases (matchP a.base s).isSome <;> cases (matchP h s).isSome <;> simp
      | some B =>
        simp only [List.filter_cons, List.filter_nil]
        rw [← meet_some hm s, List.any_append]
        cases (matchP a.base s).isSome <;> cases (matchP h s).isSome <;> cases (a.holes.any fun h => (matchP h s).isSome) <;> cases (pre.any fun h => (matchP h s).isSome) <;> rfl
    rw [h1]
    exact four_bools _ _ _ _
theorem minusGo_base (a : Reg) : ∀ (hs pre : List Pat), ∀ g ∈ minusGo a pre hs, check g.base = 0
  | [], _, g, h => by simp [minusGo] at h
  | x :: hs, pre, g, h => by
    unfold minusGo at h
    rcases List.mem_append.1 h with h | h
    · cases hm : meet a.base x with
      | none => rw [hm] at h; cases h
      | some B =>
        rw [hm] at h
        rw [List.mem_singleton] at h
        rw [h]
        exact meet_ok hm
    · exact minusGo_base a hs _ g h
theorem minusL_base {a b : Reg} (ha : gcheck a = 0) : ∀ g ∈ minusL a b, check g.base = 0 := by
  intro g hg
  unfold minusL at hg
  rcases List.mem_cons.1 hg with rfl | hg
  · exact (gcheck_zero.1 ha).1
  · exact minusGo_base a _ _ g hg
/-- What the difference's paths are: each in just one region. -/
theorem minusL_count {a b : Reg} (s : List UInt8) : countR (minusL a b) s = if a.has s && !b.has s then 1 else 0 := by
  unfold minusL
  have h1 := minusGo_count a s b.simp.holes []
  have h2 := Reg.simp_has b s
  have h3 : ∀ h ∈ b.simp.holes, (matchP h s).isSome = true → (matchP b.base s).isSome = true := fun h hh => within_match (simp_holes (simpL_is b.base b.holes) h hh).2
  unfold countR at h1 ⊢
  rw [List.filter_cons, ]
  have h4 : ({ base := a.base, holes := a.holes ++ [b.base] } : Reg).has s = (a.has s && !(matchP b.base s).isSome) := by
    unfold Reg.has has
    rw [List.any_append]
    simp only [List.any_cons, List.any_nil, Bool.or_false]
    cases (matchP a.base s).isSome <;> cases (matchP b.base s).isSome <;> cases (a.holes.any fun h => (matchP h s).isSome) <;> rfl
  have h5 : b.has s = ((matchP b.base s).isSome && !b.simp.holes.any fun h => (matchP h s).isSome) := by rw [← h2]; rfl
  rw [h4, h5]
  simp only [List.any_nil, Bool.not_false, Bool.and_true] at h1
  cases ha : a.has s with
  | false => rw [ha] at h1; simpa using h1
  | true =>
    rw [ha] at h1
    cases hb : (matchP b.base s).isSome with
    | false =>
      have h6 : (b.simp.holes.any fun h => (matchP h s).isSome) = false := List.any_eq_false.2 fun h hh hx => by rw [h3 h hh hx] at hb; cases hb
      rw [h6] at h1
      simp at h1 ⊢
      exact h1
    | true =>
      cases hx : (b.simp.holes.any fun h => (matchP h s).isSome) with
      | false => rw [hx] at h1; simpa using h1
      | true => rw [hx] at h1; simpa using h1
end Go.Proofs.YtembmegllpkmfaaGreatDoor.Pt.Rg
