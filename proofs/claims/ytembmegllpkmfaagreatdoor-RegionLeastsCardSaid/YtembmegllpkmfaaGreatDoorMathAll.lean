/- The plain mathematics of layer 2 (path): lists of bytes, components, the order. No program. The plain mathematics of layer 3 (pattern): parts, patterns, captures, intersections, bindings. No program. Captures, matches, filled patterns. No program. Intersections and inclusions of patterns. No program. Witnesses, bindings, two patterns with one part. No program. The plain mathematics of the program's own ways in layer 3. No program. The plain mathematics of layer 4 (lines). No program. The plain mathematics of layer 4: what restricted and composed lines relate. No program. Plain mathematics: how long the parts of narrowed patterns are. No program. The plain mathematics of Agree: lines with one left side. No program. -/
import Derived.Lib.Split
import Derived.Lib.SplitLaws
import Derived.Lib.Join
import Derived.Lib.Bytealg
import Derived.Lib.LastIndexByte
import Derived.Lib.TrimByte
namespace Go.Proofs.YtembmegllpkmfaaGreatDoor.Pm
open Go

/-- A byte of a name. -/
def nb (c : UInt8) : Bool := (65 ≤ c && c ≤ 90) || (97 ≤ c && c ≤ 122) || (48 ≤ c && c ≤ 57) || c == 95 || c == 46 || c == 43 || c == 45
def letters : List UInt8 := [65, 66, 67, 68, 69, 70, 71, 72, 73, 74, 75, 76, 77, 78, 79, 80, 81, 82, 83, 84, 85, 86, 87, 88, 89, 90, 97, 98, 99, 100, 101, 102, 103, 104, 105, 106, 107, 108, 109, 110, 111, 112, 113, 114, 115, 116, 117, 118, 119, 120, 121, 122, 48, 49, 50, 51, 52, 53, 54, 55, 56, 57, 95, 46, 43, 45]

theorem letters_all : ∀ n, n < 256 → decide (Lib.indexByte letters (UInt8.ofNat n) < 0) = !nb (UInt8.ofNat n) := by decide +kernel
theorem letters_nb (c : UInt8) : decide (Lib.indexByte letters c < 0) = !nb c := by
  have h := letters_all c.toNat c.toNat_lt
  rwa [UInt8.ofNat_toNat] at h
theorem nb_all : ∀ n, n < 256 → nb (UInt8.ofNat n) = decide ((65 ≤ n ∧ n ≤ 90) ∨ (97 ≤ n ∧ n ≤ 122) ∨ (48 ≤ n ∧ n ≤ 57) ∨ n = 95 ∨ n = 46 ∨ n = 43 ∨ n = 45) := by decide +kernel
theorem nb_nat (c : UInt8) : nb c = decide ((65 ≤ c.toNat ∧ c.toNat ≤ 90) ∨ (97 ≤ c.toNat ∧ c.toNat ≤ 122) ∨ (48 ≤ c.toNat ∧ c.toNat ≤ 57) ∨ c.toNat = 95 ∨ c.toNat = 46 ∨ c.toNat = 43 ∨ c.toNat = 45) := by
  have h := nb_all c.toNat c.toNat_lt
  rwa [UInt8.ofNat_toNat] at h
theorem nb_slash {c : UInt8} (h : nb c = true) : c ≠ 47 := by
  rintro rfl
  exact absurd h (by decide)

/-- A component. -/
def comp : List UInt8 → Bool
  | [] => false
  | c :: r => c != 46 && (c :: r).all nb
theorem comp_slash {x : List UInt8} (h : comp x = true) : ∀ c ∈ x, c ≠ 47 := by
  cases x with
  | nil => simp
  | cons a r =>
    simp only [comp, Bool.and_eq_true, List.all_eq_true] at h
    exact fun c hc => nb_slash (h.2 c hc)
theorem comp_ne {x : List UInt8} (h : comp x = true) : x ≠ [] := by
  rintro rfl
  cases h

/-- The pieces between the separators. -/
def segs : List UInt8 → List (List UInt8)
  | [] => [[]]
  | c :: r => if c = 47 then [] :: segs r else (c :: (segs r).headD []) :: (segs r).tail
theorem segs_ne (l : List UInt8) : segs l ≠ [] := by
  cases l with
  | nil => simp [segs]
  | cons c r => unfold segs; split <;> simp
theorem segs_length (l : List UInt8) : 1 ≤ (segs l).length := by
  have := segs_ne l
  cases h : segs l with
  | nil => exact absurd h this
  | cons a b => simp
theorem segs_cons (l : List UInt8) : segs l = (segs l).headD [] :: (segs l).tail := by
  have := segs_ne l
  cases h : segs l with
  | nil => exact absurd h this
  | cons a b => rfl
theorem segs_app (x : List UInt8) (hx : ∀ c ∈ x, c ≠ 47) (r : List UInt8) : segs (x ++ r) = (x ++ (segs r).headD []) :: (segs r).tail := by
  induction x with
  | nil => simpa using segs_cons r
  | cons c x ih =>
    have h1 : c ≠ 47 := hx c (by simp)
    rw [List.cons_append, segs, if_neg h1, ih fun d hd => hx d (by simp [hd])]
    simp
theorem segs_plain (x : List UInt8) (hx : ∀ c ∈ x, c ≠ 47) : segs x = [x] := by
  have := segs_app x hx []
  simpa [segs] using this
theorem segs_step (x : List UInt8) (hx : ∀ c ∈ x, c ≠ 47) (r : List UInt8) : segs (x ++ 47 :: r) = x :: segs r := by
  rw [segs_app x hx, segs, if_pos rfl]
  simp

/-- A text is free of separators, or there is a first one. -/
theorem slash_cases (l : List UInt8) : (∀ c ∈ l, c ≠ 47) ∨ ∃ x r, l = x ++ 47 :: r ∧ ∀ c ∈ x, c ≠ 47 := by
  induction l with
  | nil => left; simp
  | cons c l ih =>
    by_cases h : c = 47
    · subst h
      exact .inr ⟨[], l, rfl, by simp⟩
    · rcases ih with ih | ⟨x, r, rfl, hx⟩
      · left
        intro d hd
        rcases List.mem_cons.1 hd with rfl | hd
        · exact h
        · exact ih d hd
      · refine .inr ⟨c :: x, r, rfl, ?_⟩
        intro d hd
        rcases List.mem_cons.1 hd with rfl | hd
        · exact h
        · exact hx d hd
/-- .. or a last one. -/
theorem slash_last (l : List UInt8) : (∀ c ∈ l, c ≠ 47) ∨ ∃ x r, l = x ++ 47 :: r ∧ ∀ c ∈ r, c ≠ 47 := by
  induction l with
  | nil => left; simp
  | cons c l ih =>
    rcases ih with ih | ⟨x, r, rfl, hx⟩
    · by_cases h : c = 47
      · subst h
        exact .inr ⟨[], l, rfl, ih⟩
      · left
        intro d hd
        rcases List.mem_cons.1 hd with rfl | hd
        · exact h
        · exact ih d hd
    · exact .inr ⟨c :: x, r, rfl, hx⟩

theorem index_step (x : List UInt8) (hx : ∀ c ∈ x, c ≠ 47) (r : List UInt8) : Lib.index (x ++ 47 :: r) [47] = (x.length : Int) := by
  induction x with
  | nil => rw [List.nil_append, Lib.index]; simp [List.isPrefixOf]
  | cons c x ih =>
    have h1 : c ≠ 47 := hx c (by simp)
    have ih' := ih fun d hd => hx d (by simp [hd])
    have hp : ([47] : List UInt8).isPrefixOf (c :: (x ++ 47 :: r)) = false := by simp [List.isPrefixOf, Ne.symm h1]
    rw [List.cons_append, Lib.index, hp, ih', List.length_cons]
    have : ((x.length : Int) == -1) = false := by rw [beq_eq_false_iff_ne]; omega
    simp [this]
theorem index_plain (x : List UInt8) (hx : ∀ c ∈ x, c ≠ 47) : Lib.index x [47] = -1 := by
  induction x with
  | nil => simp [Lib.index]
  | cons c x ih =>
    have h1 : c ≠ 47 := hx c (by simp)
    have ih' := ih fun d hd => hx d (by simp [hd])
    have hp : ([47] : List UInt8).isPrefixOf (c :: x) = false := by simp [List.isPrefixOf, Ne.symm h1]
    rw [Lib.index, hp, ih']
    simp

theorem cut_step (x : List UInt8) (hx : ∀ c ∈ x, c ≠ 47) (r : List UInt8) : Lib.cut (x ++ 47 :: r) [47] = (x, r, true) := by
  unfold Lib.cut
  rw [index_step x hx r, if_pos (by omega)]
  have e1 : ((x.length : Int)).toNat = x.length := by omega
  rw [e1]
  simp
theorem cut_plain (x : List UInt8) (hx : ∀ c ∈ x, c ≠ 47) : Lib.cut x [47] = (x, [], false) := by
  unfold Lib.cut
  rw [index_plain x hx, if_neg (by omega)]

theorem splitK_segs : ∀ (n : Nat) (l : List UInt8), l.length ≤ n → Lib.splitK [47] 0 (Lib.count l [47]) l = segs l
  | n, l, hn => by
    rcases slash_cases l with h | ⟨x, r, rfl, hx⟩
    · rw [Lib.count_miss (index_plain l h), segs_plain l h]
      rfl
    · have hi := index_step x hx r
      rw [Lib.count_hit (by simp) hi, Nat.add_comm, Lib.splitK, hi]
      have e0 : ((x.length : Int) == -1) = false := by rw [beq_eq_false_iff_ne]; omega
      have e1 : ((x.length : Int)).toNat = x.length := by omega
      rw [e0, e1, segs_step x hx]
      simp only [Bool.false_eq_true, if_false, List.length_cons, List.length_nil]
      have e2 : (x ++ 47 :: r).drop (x.length + (0 + 1)) = r := by simp
      have e3 : (x ++ 47 :: r).take (x.length + 0) = x := by simp
      rw [e2, e3]
      match n, hn with
      | 0, hn => simp at hn
      | n + 1, hn => rw [splitK_segs n r (by simp at hn; omega)]

/-- The components of a directory. -/
def parts (p : List UInt8) : Option (List (List UInt8)) :=
  if ([47, 47] : List UInt8).isPrefixOf p && (segs (p.drop 2)).all comp then some (segs (p.drop 2)) else none
def depth (p : List UInt8) : Nat := ((parts p).getD []).length
def valid (p : List UInt8) : Bool := decide (2 ≤ depth p)
def join (l : List (List UInt8)) : List UInt8 := 47 :: 47 :: Lib.join l [47]

theorem lib_join_cons (x : List UInt8) (y : List UInt8) (r : List (List UInt8)) : Lib.join (x :: y :: r) [47] = x ++ 47 :: Lib.join (y :: r) [47] := by
  simp [Lib.join, List.intercalate]
theorem segs_join : ∀ (l : List (List UInt8)), l ≠ [] → (∀ x ∈ l, ∀ c ∈ x, c ≠ 47) → segs (Lib.join l [47]) = l
  | [], h, _ => absurd rfl h
  | [x], _, h => by rw [Lib.join_one]; exact segs_plain x (h x (by simp))
  | x :: y :: r, _, h => by
    rw [lib_join_cons, segs_step x (h x (by simp)), segs_join (y :: r) (by simp) fun z hz => h z (by simp [hz])]
theorem join_segs : ∀ (n : Nat) (l : List UInt8), l.length ≤ n → Lib.join (segs l) [47] = l
  | n, l, hn => by
    rcases slash_cases l with h | ⟨x, r, rfl, hx⟩
    · rw [segs_plain l h, Lib.join_one]
    · rw [segs_step x hx, segs_cons r, lib_join_cons, ← segs_cons r]
      match n, hn with
      | 0, hn => simp at hn
      | n + 1, hn => rw [join_segs n r (by simp at hn; omega)]

theorem prefix2 {p : List UInt8} (h : ([47, 47] : List UInt8).isPrefixOf p = true) : p = 47 :: 47 :: p.drop 2 := by
  match p, h with
  | [], h => simp at h
  | [a], h => simp [List.isPrefixOf] at h
  | a :: b :: r, h =>
    simp [List.isPrefixOf] at h
    obtain ⟨rfl, rfl⟩ := h
    rfl
theorem parts_some {p : List UInt8} {l : List (List UInt8)} (h : parts p = some l) : p = join l ∧ l ≠ [] ∧ ∀ x ∈ l, comp x = true := by
  unfold parts at h
  split at h
  · rename_i h1
    rw [Bool.and_eq_true, List.all_eq_true] at h1
    injection h with h
    subst h
    refine ⟨?_, segs_ne _, h1.2⟩
    unfold join
    rw [join_segs _ _ (Nat.le_refl _)]
    exact prefix2 h1.1
  · cases h
theorem parts_join {l : List (List UInt8)} (hl : l ≠ []) (h : ∀ x ∈ l, comp x = true) : parts (join l) = some l := by
  have e : segs ((join l).drop 2) = l := by
    show segs (Lib.join l [47]) = l
    exact segs_join l hl fun x hx => comp_slash (h x hx)
  unfold parts
  rw [e, if_pos]
  rw [Bool.and_eq_true, List.all_eq_true]
  exact ⟨rfl, h⟩
theorem depth_some {p : List UInt8} {l : List (List UInt8)} (h : parts p = some l) : depth p = l.length := by
  unfold depth; rw [h]; rfl
theorem depth_none {p : List UInt8} (h : parts p = none) : depth p = 0 := by
  unfold depth; rw [h]; rfl
theorem depth_pos {p : List UInt8} (h : depth p ≠ 0) : ∃ l, parts p = some l ∧ l ≠ [] ∧ (∀ x ∈ l, comp x = true) ∧ p = join l ∧ depth p = l.length := by
  cases hp : parts p with
  | none => exact absurd (depth_none hp) h
  | some l =>
    obtain ⟨h1, h2, h3⟩ := parts_some hp
    exact ⟨l, rfl, h2, h3, h1, depth_some hp⟩

/-! ### depth's loop -/

/-- What depth returns from the head of a round: so many components are counted, this text is left, and whether one is left. -/
def goDepth (count : Nat) (rest : List UInt8) (more : Bool) : Nat :=
  if more then (if (segs rest).all comp then count + (segs rest).length else 0) else count
theorem goDepth_start (p : List UInt8) : goDepth 0 (Lib.trimPrefix p [47, 47]) (Lib.hasPrefix p [47, 47]) = depth p := by
  unfold goDepth depth parts Lib.hasPrefix Lib.trimPrefix
  by_cases h : ([47, 47] : List UInt8).isPrefixOf p = true
  · rw [if_pos h]
    simp only [Lib.hasPrefix, h, if_true, Bool.true_and, List.length_cons, List.length_nil, Nat.zero_add]
    split <;> simp
  · rw [if_neg h]
    simp [h]
theorem goDepth_cut (count : Nat) (rest : List UInt8) : goDepth count rest true = if comp (Lib.cut rest [47]).1 then goDepth (count + 1) (Lib.cut rest [47]).2.1 (Lib.cut rest [47]).2.2 else 0 := by
  rcases slash_cases rest with h | ⟨x, r, rfl, hx⟩
  · rw [cut_plain rest h]
    unfold goDepth
    rw [segs_plain rest h]
    by_cases hc : comp rest = true <;> simp [hc]
  · rw [cut_step x hx r]
    unfold goDepth
    rw [segs_step x hx]
    by_cases hc : comp x = true
    · simp only [List.all_cons, hc, Bool.true_and, if_true, List.length_cons]
      split <;> omega
    · simp [hc]
theorem cut_less (rest : List UInt8) : (Lib.cut rest [47]).2.1.length + (if (Lib.cut rest [47]).2.2 then 1 else 0) < rest.length + 1 := by
  rcases slash_cases rest with h | ⟨x, r, rfl, hx⟩
  · rw [cut_plain rest h]; simp
  · rw [cut_step x hx r]; simp; omega
theorem cut_le (rest : List UInt8) : (Lib.cut rest [47]).1.length ≤ rest.length ∧ (Lib.cut rest [47]).2.1.length ≤ rest.length := by
  rcases slash_cases rest with h | ⟨x, r, rfl, hx⟩
  · rw [cut_plain rest h]; simp
  · rw [cut_step x hx r]; simp; omega

/-! ### The order -/

def ord : List UInt8 → List UInt8 → Int
  | [], [] => 0
  | [], _ :: _ => -1
  | _ :: _, [] => 1
  | a :: r, b :: s => if a = b then ord r s else if a = 47 then -1 else if b = 47 then 1 else if a < b then -1 else 1
/-- A byte's place in the order: the separator is the least. -/
def key (c : UInt8) : Nat := if c = 47 then 0 else c.toNat + 1
theorem key_inj {a b : UInt8} (h : key a = key b) : a = b := by
  unfold key at h
  split at h <;> split at h
  · rename_i h1 h2; rw [h1, h2]
  · omega
  · omega
  · exact UInt8.toNat_inj.1 (by omega)
theorem ord_key (a b : UInt8) (r s : List UInt8) : ord (a :: r) (b :: s) = if key a < key b then -1 else if key b < key a then 1 else ord r s := by
  rw [ord]
  by_cases h : a = b
  · subst h; simp
  · rw [if_neg h]
    have hn : ¬ key a = key b := fun e => h (key_inj e)
    unfold key at hn ⊢
    by_cases h1 : a = 47
    · have h2 : b ≠ 47 := fun e => h (h1.trans e.symm)
      simp [h1, h2]
    · by_cases h2 : b = 47
      · simp [h1, h2]
      · simp only [h1, h2, if_false, UInt8.lt_iff_toNat_lt] at hn ⊢
        split
        · rw [if_pos (by omega)]
        · rw [if_neg (by omega), if_pos (by omega)]
theorem ord_range : ∀ a b : List UInt8, ord a b = -1 ∨ ord a b = 0 ∨ ord a b = 1
  | [], [] => by simp [ord]
  | [], _ :: _ => by simp [ord]
  | _ :: _, [] => by simp [ord]
  | a :: r, b :: s => by
    rw [ord_key]
    have := ord_range r s
    split
    · simp
    · split
      · simp
      · exact this
theorem ord_neg : ∀ a b : List UInt8, ord a b = - ord b a
  | [], [] => by simp [ord]
  | [], _ :: _ => by simp [ord]
  | _ :: _, [] => by simp [ord]
  | a :: r, b :: s => by
    rw [ord_key, ord_key, ord_neg r s]
    by_cases h : key a < key b
    · rw [if_pos h, if_neg (by omega), if_pos h]
    · rw [if_neg h]
      by_cases h2 : key b < key a
      · rw [if_pos h2, if_pos h2]; rfl
      · rw [if_neg h2, if_neg h2, if_neg h]
theorem ord_zero : ∀ {a b : List UInt8}, ord a b = 0 → a = b
  | [], [], _ => rfl
  | [], _ :: _, h => by simp [ord] at h
  | _ :: _, [], h => by simp [ord] at h
  | a :: r, b :: s, h => by
    rw [ord_key] at h
    split at h
    · omega
    · split at h
      · omega
      · rw [key_inj (show key a = key b by omega), ord_zero h]
theorem ord_self : ∀ a : List UInt8, ord a a = 0
  | [] => rfl
  | a :: r => by rw [ord, if_pos rfl, ord_self r]
theorem ord_eq (a b : List UInt8) : ord a b = 0 ↔ a = b := ⟨ord_zero, fun h => h ▸ ord_self a⟩
theorem ord_trans : ∀ {a b c : List UInt8}, ord a b ≤ 0 → ord b c ≤ 0 → ord a c ≤ 0
  | [], _, [], _, _ => by simp [ord]
  | [], _, _ :: _, _, _ => by simp [ord]
  | _ :: _, [], _, h, _ => by simp [ord] at h
  | _ :: _, _ :: _, [], _, h => by simp [ord] at h
  | a :: r, b :: s, c :: t, h, k => by
    rw [ord_key] at h k ⊢
    by_cases h1 : key a < key b
    · by_cases k1 : key b < key c
      · rw [if_pos (by omega)]; omega
      · rw [if_neg k1] at k
        by_cases k2 : key c < key b
        · rw [if_pos k2] at k; omega
        · rw [if_pos (by omega)]; omega
    · rw [if_neg h1] at h
      by_cases h2 : key b < key a
      · rw [if_pos h2] at h; omega
      · rw [if_neg h2] at h
        by_cases k1 : key b < key c
        · rw [if_pos (by omega)]; omega
        · rw [if_neg k1] at k
          by_cases k2 : key c < key b
          · rw [if_pos k2] at k; omega
          · rw [if_neg k2] at k
            rw [if_neg (by omega), if_neg (by omega)]
            exact ord_trans h k
/-- Between two texts with one beginning stand texts with that beginning alone. -/
theorem ord_between : ∀ (P x z b : List UInt8), ord (P ++ x) b ≤ 0 → ord b (P ++ z) ≤ 0 → P <+: b
  | [], _, _, b, _, _ => List.nil_prefix
  | p :: P, x, z, [], h, _ => by simp [ord] at h
  | p :: P, x, z, d :: b, h, k => by
    rw [List.cons_append, ord_key] at h k
    have e : p = d := by
      apply key_inj
      by_cases h1 : key p < key d
      · rw [if_neg (by omega), if_pos h1] at k; omega
      · by_cases h2 : key d < key p
        · rw [if_neg h1, if_pos h2] at h; omega
        · omega
    subst e
    simp only [Nat.lt_irrefl, if_false] at h k
    exact List.cons_prefix_cons.2 ⟨rfl, ord_between P x z b h k⟩
/-- order's loop: of two texts with the same bytes ahead of i. -/
theorem ord_drop : ∀ (i : Nat) (a b : List UInt8), a.take i = b.take i → i ≤ a.length → i ≤ b.length → ord a b = ord (a.drop i) (b.drop i)
  | 0, _, _, _, _, _ => by simp
  | i + 1, [], _, _, h, _ => by simp at h
  | i + 1, _ :: _, [], _, _, h => by simp at h
  | i + 1, x :: a, y :: b, h, h1, h2 => by
    simp only [List.take_succ_cons, List.cons.injEq] at h
    obtain ⟨rfl, h⟩ := h
    rw [ord, if_pos rfl, List.drop_succ_cons, List.drop_succ_cons]
    exact ord_drop i a b h (by simpa using h1) (by simpa using h2)

/-! ### The order of lists of components -/

def cmpParts : List (List UInt8) → List (List UInt8) → Int
  | [], [] => 0
  | [], _ :: _ => -1
  | _ :: _, [] => 1
  | x :: r, y :: s => if Lib.compareBytes x y ≠ 0 then Lib.compareBytes x y else cmpParts r s
theorem compareBytes_zero : ∀ {a b : List UInt8}, Lib.compareBytes a b = 0 → a = b
  | [], [], _ => rfl
  | [], _ :: _, h => by simp [Lib.compareBytes] at h
  | _ :: _, [], h => by simp [Lib.compareBytes] at h
  | a :: r, b :: s, h => by
    rw [Lib.compareBytes] at h
    split at h
    · omega
    · split at h
      · omega
      · rename_i h1 h2
        rw [compareBytes_zero h]
        rw [UInt8.lt_iff_toNat_lt] at h1 h2
        rw [UInt8.toNat_inj.1 (show a.toNat = b.toNat by omega)]
theorem compareBytes_self : ∀ a : List UInt8, Lib.compareBytes a a = 0
  | [] => rfl
  | a :: r => by rw [Lib.compareBytes, if_neg (UInt8.lt_irrefl a), if_neg (UInt8.lt_irrefl a), compareBytes_self r]
theorem compareBytes_range : ∀ a b : List UInt8, Lib.compareBytes a b = -1 ∨ Lib.compareBytes a b = 0 ∨ Lib.compareBytes a b = 1
  | [], [] => by simp [Lib.compareBytes]
  | [], _ :: _ => by simp [Lib.compareBytes]
  | _ :: _, [] => by simp [Lib.compareBytes]
  | a :: r, b :: s => by
    have := compareBytes_range r s
    rw [Lib.compareBytes]
    split
    · simp
    · split
      · simp
      · exact this
/-- The rest of a path behind a component. -/
def Ends (r : List UInt8) : Prop := r = [] ∨ ∃ t, r = 47 :: t
theorem ord_app : ∀ (x y r s : List UInt8), (∀ c ∈ x, c ≠ 47) → (∀ c ∈ y, c ≠ 47) → Ends r → Ends s →
    ord (x ++ r) (y ++ s) = if Lib.compareBytes x y ≠ 0 then Lib.compareBytes x y else ord r s
  | [], [], r, s, _, _, _, _ => by simp [Lib.compareBytes]
  | [], d :: y, r, s, _, hy, hr, _ => by
    have hd : d ≠ 47 := hy d (by simp)
    rcases hr with rfl | ⟨t, rfl⟩
    · simp [Lib.compareBytes, ord]
    · simp only [List.nil_append, List.cons_append]
      rw [ord, if_neg (Ne.symm hd), if_pos rfl]
      simp [Lib.compareBytes]
  | c :: x, [], r, s, hx, _, _, hs => by
    have hc : c ≠ 47 := hx c (by simp)
    rcases hs with rfl | ⟨t, rfl⟩
    · simp [Lib.compareBytes, ord]
    · simp only [List.nil_append, List.cons_append]
      rw [ord, if_neg hc, if_neg hc, if_pos rfl]
      simp [Lib.compareBytes]
  | c :: x, d :: y, r, s, hx, hy, hr, hs => by
    have hc : c ≠ 47 := hx c (by simp)
    have hd : d ≠ 47 := hy d (by simp)
    have ih := ord_app x y r s (fun e he => hx e (by simp [he])) (fun e he => hy e (by simp [he])) hr hs
    simp only [List.cons_append]
    rw [ord, Lib.compareBytes]
    by_cases h : c = d
    · subst h
      rw [if_pos rfl, if_neg (UInt8.lt_irrefl c), if_neg (UInt8.lt_irrefl c)]
      exact ih
    · rw [if_neg h, if_neg hc, if_neg hd]
      by_cases h1 : c < d
      · rw [if_pos h1, if_pos h1]; simp
      · have h2 : d < c := UInt8.lt_of_le_of_ne (UInt8.not_lt.1 h1) (Ne.symm h)
        rw [if_neg h1, if_neg h1, if_pos h2]; simp
theorem ord_join : ∀ (l m : List (List UInt8)), l ≠ [] → m ≠ [] → (∀ x ∈ l, comp x = true) → (∀ x ∈ m, comp x = true) → ord (Lib.join l [47]) (Lib.join m [47]) = cmpParts l m
  | [], _, h, _, _, _ => absurd rfl h
  | _, [], _, h, _, _ => absurd rfl h
  | [x], [y], _, _, hl, hm => by
    have h := ord_app x y [] [] (comp_slash (hl x (by simp))) (comp_slash (hm y (by simp))) (.inl rfl) (.inl rfl)
    rw [Lib.join_one, Lib.join_one]
    rw [List.append_nil, List.append_nil] at h
    rw [h, cmpParts]
    rfl
  | [x], y :: z :: m, _, _, hl, hm => by
    have h := ord_app x y [] (47 :: Lib.join (z :: m) [47]) (comp_slash (hl x (by simp))) (comp_slash (hm y (by simp))) (.inl rfl) (.inr ⟨_, rfl⟩)
    rw [Lib.join_one, lib_join_cons]
    rw [List.append_nil] at h
    rw [h, cmpParts]
    rfl
  | x :: w :: l, [y], _, _, hl, hm => by
    have h := ord_app x y (47 :: Lib.join (w :: l) [47]) [] (comp_slash (hl x (by simp))) (comp_slash (hm y (by simp))) (.inr ⟨_, rfl⟩) (.inl rfl)
    rw [Lib.join_one, lib_join_cons]
    rw [List.append_nil] at h
    rw [h, cmpParts]
    rfl
  | x :: w :: l, y :: z :: m, _, _, hl, hm => by
    have h := ord_app x y (47 :: Lib.join (w :: l) [47]) (47 :: Lib.join (z :: m) [47]) (comp_slash (hl x (by simp))) (comp_slash (hm y (by simp))) (.inr ⟨_, rfl⟩) (.inr ⟨_, rfl⟩)
    rw [lib_join_cons, lib_join_cons, h, cmpParts, ord, if_pos rfl]
    rw [ord_join (w :: l) (z :: m) (by simp) (by simp) (fun e he => hl e (by simp [he])) (fun e he => hm e (by simp [he]))]
theorem ord_parts {a b : List UInt8} {l m : List (List UInt8)} (ha : parts a = some l) (hb : parts b = some m) : ord a b = cmpParts l m := by
  obtain ⟨rfl, h1, h2⟩ := parts_some ha
  obtain ⟨rfl, h3, h4⟩ := parts_some hb
  unfold join
  rw [ord, if_pos rfl, ord, if_pos rfl]
  exact ord_join l m h1 h3 h2 h4
theorem cmpParts_zero : ∀ {l m : List (List UInt8)}, cmpParts l m = 0 → l = m
  | [], [], _ => rfl
  | [], _ :: _, h => by simp [cmpParts] at h
  | _ :: _, [], h => by simp [cmpParts] at h
  | x :: r, y :: s, h => by
    rw [cmpParts] at h
    split at h
    · rename_i h1; exact absurd h h1
    · rename_i h1
      rw [compareBytes_zero (Decidable.not_not.1 h1), cmpParts_zero h]
theorem cmpParts_self : ∀ l : List (List UInt8), cmpParts l l = 0
  | [] => rfl
  | x :: r => by rw [cmpParts, compareBytes_self, if_neg (by simp), cmpParts_self r]
theorem cmpParts_range : ∀ l m : List (List UInt8), cmpParts l m = -1 ∨ cmpParts l m = 0 ∨ cmpParts l m = 1
  | [], [] => by simp [cmpParts]
  | [], _ :: _ => by simp [cmpParts]
  | _ :: _, [] => by simp [cmpParts]
  | x :: r, y :: s => by
    have h1 := compareBytes_range x y
    have h2 := cmpParts_range r s
    rw [cmpParts]
    split
    · exact h1
    · exact h2

/-! ### Under -/

theorem join_append (l m : List (List UInt8)) (hl : l ≠ []) (hm : m ≠ []) : Lib.join (l ++ m) [47] = Lib.join l [47] ++ 47 :: Lib.join m [47] := by
  induction l with
  | nil => exact absurd rfl hl
  | cons x r ih =>
    cases r with
    | nil =>
      cases m with
      | nil => exact absurd rfl hm
      | cons y s => rw [List.cons_append, List.nil_append, lib_join_cons, Lib.join_one]
    | cons y s =>
      have := ih (by simp)
      rw [List.cons_append] at this ⊢
      rw [List.cons_append, lib_join_cons, this, lib_join_cons]
      simp
/-- p lies in the directory: it begins with the directory and a separator. -/
def under (d p : List UInt8) : Bool := (d ++ [47]).isPrefixOf p
theorem segs_append (x r : List UInt8) : segs (x ++ 47 :: r) = segs x ++ segs r := by
  induction x with
  | nil => simp [segs]
  | cons c x ih =>
    rw [List.cons_append, segs, segs]
    by_cases h : c = 47
    · rw [if_pos h, if_pos h, ih]; rfl
    · rw [if_neg h, if_neg h, ih]
      rw [segs_cons x]
      simp
/-- Of a directory d and a path p: p begins with d and a separator exactly if it has more components, and begins with d's. -/
theorem under_parts {d p : List UInt8} {l m : List (List UInt8)} (hd : parts d = some l) (hp : parts p = some m) :
    under d p = (decide (m.length > l.length) && decide (cmpParts l (m.take l.length) = 0)) := by
  obtain ⟨rfl, h1, h2⟩ := parts_some hd
  obtain ⟨rfl, h3, h4⟩ := parts_some hp
  unfold under
  rw [Bool.eq_iff_iff, Bool.and_eq_true, decide_eq_true_eq, decide_eq_true_eq, List.isPrefixOf_iff_prefix]
  constructor
  · rintro ⟨t, ht⟩
    have e : Lib.join m [47] = Lib.join l [47] ++ 47 :: t := by
      unfold join at ht
      simp only [List.cons_append, List.append_assoc, List.cons.injEq, true_and, List.nil_append] at ht
      exact ht.symm
    have e2 : m = l ++ segs t := by
      rw [← segs_join m h3 fun x hx => comp_slash (h4 x hx), e, segs_append, segs_join l h1 fun x hx => comp_slash (h2 x hx)]
    have h5 := segs_length t
    rw [e2]
    refine ⟨by rw [List.length_append]; omega, ?_⟩
    rw [List.take_left]
    exact cmpParts_self l
  · rintro ⟨h5, h6⟩
    have e := cmpParts_zero h6
    have e2 : m = l ++ m.drop l.length := by
      conv => lhs; rw [← List.take_append_drop l.length m]
      rw [← e]
    have hne : m.drop l.length ≠ [] := by
      intro h
      have := congrArg List.length h
      simp at this
      omega
    refine ⟨Lib.join (m.drop l.length) [47], ?_⟩
    unfold join
    rw [e2, join_append l _ h1 hne]
    simp
theorem trim_under (d p : List UInt8) : (Lib.hasPrefix p d && !(Lib.trimPrefix p d).isEmpty && ((Lib.trimPrefix p d).headD 0 == 47)) = under d p := by
  unfold Lib.hasPrefix Lib.trimPrefix under Lib.hasPrefix
  rw [Bool.eq_iff_iff]
  simp only [Bool.and_eq_true, List.isPrefixOf_iff_prefix, beq_iff_eq, Bool.not_eq_true']
  constructor
  · rintro ⟨⟨h1, h2⟩, h3⟩
    have hb : d <+: p := h1
    obtain ⟨t, rfl⟩ := h1
    rw [if_pos hb] at h2 h3
    simp at h2 h3
    cases t with
    | nil => simp at h2
    | cons c t =>
      simp at h3
      subst h3
      exact ⟨t, by simp⟩
  · rintro ⟨t, rfl⟩
    have hb : d <+: d ++ [47] ++ t := ⟨[47] ++ t, by simp⟩
    rw [if_pos hb]
    refine ⟨⟨⟨[47] ++ t, by simp⟩, ?_⟩, ?_⟩ <;> simp

/-! ### The last separator -/

theorem get!_list (s : ByteArray) (j : Nat) (h : j < s.data.toList.length) : s.data[j]! = s.data.toList[j] := by
  have h' : j < s.data.size := by simpa using h
  rw [getElem!_pos s.data j h']
  simp
theorem last_step (s : ByteArray) (x r : List UInt8) (c : UInt8) (hs : s.data.toList = x ++ c :: r) (hr : ∀ d ∈ r, d ≠ c) : Lib.lastIndexByte s c.toNat = (x.length : Int) := by
  have hlen : s.size = (x ++ c :: r).length := by rw [Lib.size_eq, hs]
  have hg : ∀ j, (h : j < (x ++ c :: r).length) → s.data[j]! = (x ++ c :: r)[j] := by
    intro j h
    have h' : j < s.data.toList.length := by rw [hs]; exact h
    rw [get!_list s j h']
    simp only [hs]
  have hx : x.length < (x ++ c :: r).length := by simp
  have hat : (s.data[x.length]!).toNat = c.toNat := by rw [hg _ hx]; simp
  rcases Lib.lastIndexByte_spec s c.toNat with ⟨_, h2⟩ | ⟨i, hi, h1, h2, h3⟩
  · have := h2 x.length (by rw [hlen]; exact hx)
    rw [hat] at this
    exact absurd rfl this
  · rw [h1]
    by_cases hlt : i < x.length
    · have := h3 x.length hlt (by rw [hlen]; exact hx)
      rw [hat] at this
      exact absurd rfl this
    · by_cases he : i = x.length
      · rw [he]
      · exfalso
        rw [hlen] at hi
        rw [hg i hi] at h2
        have hi2 : i - x.length - 1 < r.length := by simp at hi; omega
        have e : (x ++ c :: r)[i] = r[i - x.length - 1] := by
          rw [List.getElem_append_right (by omega)]
          rw [List.getElem_cons]
          rw [dif_neg (by omega)]
        rw [e] at h2
        exact hr _ (List.getElem_mem hi2) (UInt8.toNat_inj.1 (by omega))
theorem last_plain (s : ByteArray) (c : UInt8) (h : ∀ d ∈ s.data.toList, d ≠ c) : Lib.lastIndexByte s c.toNat = -1 := by
  rcases Lib.lastIndexByte_spec s c.toNat with ⟨h1, _⟩ | ⟨i, hi, _, h2, _⟩
  · exact h1
  · exfalso
    have hi' : i < s.data.toList.length := by rw [← Lib.size_eq]; exact hi
    rw [get!_list s i hi'] at h2
    exact h _ (List.getElem_mem hi') (UInt8.toNat_inj.1 (by omega))

/-- A path: its directory, its name. -/
theorem valid_parts {p : List UInt8} (h : valid p = true) : ∃ (l : List (List UInt8)) (n : List UInt8), l ≠ [] ∧ (∀ x ∈ l, comp x = true) ∧ comp n = true ∧ parts p = some (l ++ [n]) ∧ p = join l ++ 47 :: n := by
  unfold valid at h
  rw [decide_eq_true_eq] at h
  obtain ⟨l, h1, h2, h3, h4, h5⟩ := depth_pos (show depth p ≠ 0 by omega)
  have hl : l = l.dropLast ++ [l.getLast h2] := (List.dropLast_concat_getLast h2).symm
  have hne : l.dropLast ≠ [] := by
    intro e
    have := congrArg List.length e
    rw [List.length_dropLast] at this
    simp at this
    omega
  refine ⟨l.dropLast, l.getLast h2, hne, fun x hx => h3 x ((List.dropLast_sublist l).subset hx), h3 _ (List.getLast_mem h2), by rw [← hl]; exact h1, ?_⟩
  rw [h4]
  unfold join
  conv => lhs; rw [hl]
  rw [join_append _ _ hne (by simp), Lib.join_one]
  simp
theorem valid_some {p : List UInt8} {l : List (List UInt8)} (h : parts p = some l) : valid p = decide (2 ≤ l.length) := by
  unfold valid; rw [depth_some h]
theorem valid_none {p : List UInt8} (h : parts p = none) : valid p = false := by
  unfold valid; rw [depth_none h]; rfl
theorem under_between {d a b c : List UInt8} (ha : under d a = true) (hc : under d c = true) (h1 : ord a b ≤ 0) (h2 : ord b c ≤ 0) : under d b = true := by
  unfold under at *
  rw [List.isPrefixOf_iff_prefix] at *
  obtain ⟨x, rfl⟩ := ha
  obtain ⟨z, rfl⟩ := hc
  exact ord_between _ x z b h1 h2
theorem under_dir (l : List (List UInt8)) (n : List UInt8) : under (join l) (join l ++ 47 :: n) = true := by
  unfold under
  rw [List.isPrefixOf_iff_prefix]
  exact ⟨n, by simp⟩
end Go.Proofs.YtembmegllpkmfaaGreatDoor.Pm

namespace Go.Proofs.YtembmegllpkmfaaGreatDoor.Pt
open Go

/-- A pattern: its parts, and whether it has Rest. -/
structure Pat where
  parts : List (List UInt8)
  rest : Bool
theorem Pat.ext' {p q : Pat} (h1 : p.parts = q.parts) (h2 : p.rest = q.rest) : p = q := by
  cases p
  cases q
  simp only at h1 h2
  rw [h1, h2]

/-- A wildcard's suffix. -/
def star : List UInt8 → Option (List UInt8)
  | [] => none
  | c :: s => if c = 42 ∧ s.all Pm.nb = true then some s else none
def isStar (x : List UInt8) : Bool := (star x).isSome
def part (x : List UInt8) : Bool := isStar x || Pm.comp x
theorem star_cons (c : UInt8) (r : List UInt8) : star (c :: r) = if c = 42 ∧ r.all Pm.nb = true then some r else none := rfl
theorem star_some {x s : List UInt8} : star x = some s ↔ x = 42 :: s ∧ s.all Pm.nb = true := by
  cases x with
  | nil => simp [star]
  | cons c r =>
    rw [star_cons]
    by_cases h : c = 42 ∧ r.all Pm.nb = true
    · rw [if_pos h]
      obtain ⟨rfl, h⟩ := h
      constructor
      · intro e
        injection e with e
        subst e
        exact ⟨rfl, h⟩
      · rintro ⟨e, _⟩
        injection e with _ e
        rw [e]
    · rw [if_neg h]
      constructor
      · intro e; cases e
      · rintro ⟨e, h2⟩
        injection e with e1 e2
        subst e1 e2
        exact absurd ⟨rfl, h2⟩ h
theorem star_mk {s : List UInt8} (h : s.all Pm.nb = true) : star (42 :: s) = some s := star_some.2 ⟨rfl, h⟩
theorem comp_nb {x : List UInt8} (h : Pm.comp x = true) : x.all Pm.nb = true := by
  cases x with
  | nil => rfl
  | cons c r =>
    simp only [Pm.comp, Bool.and_eq_true] at h
    exact h.2
theorem comp_star {x : List UInt8} (h : Pm.comp x = true) : star x = none := by
  cases x with
  | nil => rfl
  | cons c r =>
    have := comp_nb h
    simp only [List.all_cons, Bool.and_eq_true] at this
    rw [star_cons, if_neg]
    rintro ⟨rfl, _⟩
    exact absurd this.1 (by decide)
theorem part_cases {x : List UInt8} (h : part x = true) : (∃ s, star x = some s ∧ x = 42 :: s ∧ s.all Pm.nb = true) ∨ (star x = none ∧ Pm.comp x = true) := by
  unfold part isStar at h
  cases hs : star x with
  | none =>
    rw [hs] at h
    exact .inr ⟨rfl, by simpa using h⟩
  | some s => exact .inl ⟨s, rfl, star_some.1 hs⟩
theorem part_star {x s : List UInt8} (h : star x = some s) : part x = true := by unfold part isStar; rw [h]; rfl
theorem part_comp {x : List UInt8} (h : Pm.comp x = true) : part x = true := by unfold part; rw [h]; simp
theorem comp_append {x s : List UInt8} (h : Pm.comp x = true) (hs : s.all Pm.nb = true) : Pm.comp (x ++ s) = true := by
  cases x with
  | nil => cases h
  | cons c r =>
    simp only [Pm.comp, Bool.and_eq_true, List.cons_append, List.all_cons, List.all_append] at h ⊢
    exact ⟨h.1, h.2.1, h.2.2, hs⟩
theorem part_slash {x : List UInt8} (h : part x = true) : ∀ c ∈ x, c ≠ 47 := by
  rcases part_cases h with ⟨s, _, rfl, hs⟩ | ⟨_, hc⟩
  · intro c hc
    rcases List.mem_cons.1 hc with rfl | hc
    · decide
    · exact Pm.nb_slash (List.all_eq_true.1 hs c hc)
  · exact Pm.comp_slash hc
theorem part_dots {x : List UInt8} (h : part x = true) : x ≠ [46, 46, 46] := by
  rintro rfl
  exact absurd h (by decide)

/-- Well formed, but for the number of parts. -/
def form (p : Pat) : Bool := (decide (2 ≤ p.parts.length) || (decide (p.parts.length = 1) && p.rest)) && Pm.comp (p.parts.headD []) && p.parts.tail.all part
def check (p : Pat) : Nat := if form p then (if p.parts.length ≤ 12 then 0 else 31) else 30
theorem check_ok {p : Pat} : check p = 0 ↔ form p = true ∧ p.parts.length ≤ 12 := by
  unfold check
  split
  · rename_i h
    split
    · rename_i h2; exact ⟨fun _ => ⟨h, h2⟩, fun _ => rfl⟩
    · rename_i h2; exact ⟨fun h => by simp at h, fun h => absurd h.2 h2⟩
  · rename_i h
    exact ⟨fun h => by simp at h, fun h2 => absurd h2.1 h⟩
theorem check_cases (p : Pat) : check p = 0 ∨ check p = 30 ∨ check p = 31 := by
  unfold check
  split
  · split
    · exact .inl rfl
    · exact .inr (.inr rfl)
  · exact .inr (.inl rfl)
theorem form_iff {p : Pat} : form p = true ↔ ∃ x r, p.parts = x :: r ∧ (r ≠ [] ∨ p.rest = true) ∧ Pm.comp x = true ∧ ∀ y ∈ r, part y = true := by
  obtain ⟨l, b⟩ := p
  unfold form
  cases l with
  | nil => simp
  | cons x r =>
    simp only [List.headD_cons, List.tail_cons, Bool.and_eq_true, List.all_eq_true, List.length_cons, Bool.or_eq_true, decide_eq_true_eq]
    constructor
    · rintro ⟨⟨h1, h2⟩, h3⟩
      refine ⟨x, r, rfl, ?_, h2, h3⟩
      rcases h1 with h1 | ⟨_, h1⟩
      · left
        rintro rfl
        simp at h1
      · exact .inr h1
    · rintro ⟨x', r', he, h1, h2, h3⟩
      injection he with he1 he2
      subst he1 he2
      refine ⟨⟨?_, h2⟩, h3⟩
      cases r with
      | nil =>
        rcases h1 with h1 | h1
        · exact absurd rfl h1
        · exact .inr ⟨rfl, h1⟩
      | cons y s => left; simp
theorem form_parts {p : Pat} (h : form p = true) : ∀ x ∈ p.parts, part x = true := by
  obtain ⟨x, r, he, _, h2, h3⟩ := form_iff.1 h
  rw [he]
  intro y hy
  rcases List.mem_cons.1 hy with rfl | hy
  · exact part_comp h2
  · exact h3 y hy
theorem form_ne {p : Pat} (h : form p = true) : p.parts ≠ [] := by
  obtain ⟨x, r, he, _⟩ := form_iff.1 h
  rw [he]
  simp
theorem form_pos {p : Pat} (h : form p = true) : 1 ≤ p.parts.length := List.length_pos_iff.2 (form_ne h)
theorem form_two {p : Pat} (h : form p = true) (hr : p.rest = false) : 2 ≤ p.parts.length := by
  obtain ⟨x, r, he, h1, _⟩ := form_iff.1 h
  rw [he]
  cases r with
  | nil => rw [hr] at h1; simp at h1
  | cons y s => simp

/-- The text of a pattern. -/
def text (p : Pat) : List UInt8 := Pm.join p.parts ++ (if p.rest then [47, 46, 46, 46] else [])
/-- The parts that a text names. -/
def named (s : List UInt8) : Pat :=
  if (Pm.segs (s.drop 2)).getLast? = some [46, 46, 46] then ⟨(Pm.segs (s.drop 2)).dropLast, true⟩ else ⟨Pm.segs (s.drop 2), false⟩
def parseErr (s : List UInt8) : Nat := if Lib.hasPrefix s [47, 47] then check (named s) else 30
def parsed (s : List UInt8) : Pat := if parseErr s = 0 then named s else ⟨[], false⟩

theorem segs_parts {l : List (List UInt8)} (hl : l ≠ []) (h : ∀ x ∈ l, ∀ c ∈ x, c ≠ 47) : Pm.segs ((Pm.join l).drop 2) = l := Pm.segs_join l hl h
theorem named_text {p : Pat} (h : form p = true) : named (text p) = p := by
  have hp := form_parts h
  have hn := form_ne h
  obtain ⟨l, b⟩ := p
  simp only at hp hn
  cases b with
  | false =>
    have e : text ⟨l, false⟩ = Pm.join l := by simp [text]
    rw [e]
    unfold named
    rw [segs_parts hn fun x hx => part_slash (hp x hx), if_neg]
    intro h2
    exact part_dots (hp _ (List.mem_of_getLast? h2)) rfl
  | true =>
    have e : text ⟨l, true⟩ = Pm.join (l ++ [[46, 46, 46]]) := by
      unfold text Pm.join
      rw [Pm.join_append l [[46, 46, 46]] hn (by simp), Lib.join_one]
      simp
    rw [e]
    unfold named
    rw [segs_parts (by simp)]
    · rw [if_pos (by simp)]
      simp
    · intro x hx
      rcases List.mem_append.1 hx with hx | hx
      · exact part_slash (hp x hx)
      · simp only [List.mem_singleton] at hx
        subst hx
        intro c hc
        simp at hc
        rw [hc]
        decide
theorem text_prefix (p : Pat) : Lib.hasPrefix (text p) [47, 47] = true := by
  unfold Lib.hasPrefix text Pm.join
  rfl
theorem parse_text {p : Pat} (h : check p = 0) : parseErr (text p) = 0 ∧ parsed (text p) = p := by
  have hf := (check_ok.1 h).1
  have h1 : parseErr (text p) = 0 := by
    unfold parseErr
    rw [text_prefix, if_pos rfl, named_text hf, h]
  refine ⟨h1, ?_⟩
  unfold parsed
  rw [if_pos h1, named_text hf]
theorem text_parsed {s : List UInt8} (h : parseErr s = 0) : text (parsed s) = s ∧ check (parsed s) = 0 := by
  unfold parsed
  rw [if_pos h]
  unfold parseErr at h
  split at h
  · rename_i hp
    refine ⟨?_, h⟩
    have hs : s = 47 :: 47 :: s.drop 2 := Pm.prefix2 hp
    have hf := form_ne (check_ok.1 h).1
    unfold named at hf ⊢
    split
    · rename_i hl
      rw [if_pos hl] at hf
      have e : (Pm.segs (s.drop 2)).dropLast ++ [[46, 46, 46]] = Pm.segs (s.drop 2) := by
        have hne := Pm.segs_ne (s.drop 2)
        have := List.dropLast_concat_getLast hne
        rw [List.getLast?_eq_some_getLast hne] at hl
        injection hl with hl
        rw [hl] at this
        exact this
      unfold text Pm.join
      simp only [if_true]
      have := Pm.join_append (Pm.segs (s.drop 2)).dropLast [[46, 46, 46]] hf (by simp)
      rw [e, Pm.join_segs _ _ (Nat.le_refl _), Lib.join_one] at this
      conv => rhs; rw [hs, this]
      simp
    · unfold text Pm.join
      simp only [Bool.false_eq_true, if_false, List.append_nil]
      rw [Pm.join_segs _ _ (Nat.le_refl _)]
      exact hs.symm
  · simp at h
end Go.Proofs.YtembmegllpkmfaaGreatDoor.Pt

namespace Go.Proofs.YtembmegllpkmfaaGreatDoor.Pt
open Go

def pathO (p : List UInt8) : Option (List (List UInt8)) := if Pm.valid p then Pm.parts p else none
theorem pathO_some {p : List UInt8} {l : List (List UInt8)} : pathO p = some l ↔ p = Pm.join l ∧ 2 ≤ l.length ∧ ∀ x ∈ l, Pm.comp x = true := by
  unfold pathO
  constructor
  · intro h
    split at h
    · rename_i hv
      obtain ⟨h1, h2, h3⟩ := Pm.parts_some h
      rw [Pm.valid_some h, decide_eq_true_eq] at hv
      exact ⟨h1, hv, h3⟩
    · cases h
  · rintro ⟨rfl, h2, h3⟩
    have hl : l ≠ [] := by
      rintro rfl
      simp at h2
    have hp := Pm.parts_join hl h3
    rw [if_pos (by rw [Pm.valid_some hp]; simpa using h2), hp]

/-- What a component captures of a part. -/
def capture (x c : List UInt8) : Option (List UInt8) :=
  match star x with
  | none => if x = c then some [] else none
  | some s => if Lib.hasSuffix c s = true ∧ Pm.comp (c.take (c.length - s.length)) = true then some (c.take (c.length - s.length)) else none
theorem capture_comp {x c : List UInt8} (h : star x = none) : capture x c = if x = c then some [] else none := by unfold capture; rw [h]
theorem suffix_iff {c s : List UInt8} : Lib.hasSuffix c s = true ↔ ∃ u, c = u ++ s := by
  unfold Lib.hasSuffix
  rw [List.isSuffixOf_iff_suffix]
  constructor
  · rintro ⟨u, h⟩; exact ⟨u, h.symm⟩
  · rintro ⟨u, h⟩; exact ⟨u, h.symm⟩
theorem take_suffix (u s : List UInt8) : (u ++ s).take ((u ++ s).length - s.length) = u := by
  rw [List.length_append, Nat.add_sub_cancel, List.take_left]
theorem capture_star {x c s y : List UInt8} (h : star x = some s) : capture x c = some y ↔ c = y ++ s ∧ Pm.comp y = true := by
  unfold capture
  rw [h]
  simp only
  constructor
  · intro e
    split at e
    · rename_i h1
      obtain ⟨u, rfl⟩ := suffix_iff.1 h1.1
      rw [take_suffix] at e h1
      injection e with e
      subst e
      exact ⟨rfl, h1.2⟩
    · cases e
  · rintro ⟨rfl, h2⟩
    rw [take_suffix, if_pos ⟨suffix_iff.2 ⟨y, rfl⟩, h2⟩]
/-- The component matches the part. -/
def pm (x c : List UInt8) : Bool := (capture x c).isSome
theorem pm_comp {x c : List UInt8} (h : star x = none) : pm x c = true ↔ c = x := by
  unfold pm
  rw [capture_comp h]
  by_cases e : x = c
  · rw [if_pos e]; simp [e]
  · rw [if_neg e]
    constructor
    · intro h; cases h
    · intro h; exact absurd h.symm e
theorem pm_star {x c s : List UInt8} (h : star x = some s) : pm x c = true ↔ ∃ y, c = y ++ s ∧ Pm.comp y = true := by
  unfold pm
  rw [Option.isSome_iff_exists]
  constructor
  · rintro ⟨y, hy⟩; exact ⟨y, (capture_star h).1 hy⟩
  · rintro ⟨y, hy⟩; exact ⟨y, (capture_star h).2 hy⟩

/-- The captures of components by parts, one for each wildcard. -/
def capsOf : List (List UInt8) → List (List UInt8) → Option (List (List UInt8))
  | [], _ => some []
  | _ :: _, [] => none
  | x :: ps, c :: cs => match capture x c with
    | none => none
    | some y => (capsOf ps cs).map fun r => if isStar x then y :: r else r
theorem capsOf_cons (x : List UInt8) (ps : List (List UInt8)) (c : List UInt8) (cs : List (List UInt8)) :
    capsOf (x :: ps) (c :: cs) = match capture x c with
      | none => none
      | some y => (capsOf ps cs).map fun r => if isStar x then y :: r else r := rfl
/-- The number of components is right. -/
def fits (p : Pat) (m : Nat) : Bool := if p.rest then decide (p.parts.length < m) else decide (m = p.parts.length)
def matchP (p : Pat) (path : List UInt8) : Option (List (List UInt8)) :=
  if check p = 0 then
    match pathO path with
    | none => none
    | some l => if fits p l.length then (capsOf p.parts l).map fun r => if p.rest then r ++ [Lib.join (l.drop p.parts.length) [47]] else r else none
  else none
theorem matchP_some {p : Pat} {path : List UInt8} {r : List (List UInt8)} :
    matchP p path = some r ↔ check p = 0 ∧ ∃ l cs, pathO path = some l ∧ fits p l.length = true ∧ capsOf p.parts l = some cs ∧ r = if p.rest then cs ++ [Lib.join (l.drop p.parts.length) [47]] else cs := by
  unfold matchP
  constructor
  · intro h
    split at h
    · rename_i h0
      refine ⟨h0, ?_⟩
      split at h
      · cases h
      · rename_i l hl
        split at h
        · rename_i hf
          cases hc : capsOf p.parts l with
          | none => rw [hc] at h; cases h
          | some cs =>
            rw [hc] at h
            injection h with h
            exact ⟨l, cs, hl, hf, hc, h.symm⟩
        · cases h
    · cases h
  · rintro ⟨h0, l, cs, hl, hf, hc, rfl⟩
    rw [if_pos h0, hl]
    simp only
    rw [if_pos hf, hc]
    rfl
/-- All components match their parts. -/
def allPm : List (List UInt8) → List (List UInt8) → Bool
  | [], _ => true
  | _ :: _, [] => false
  | x :: ps, c :: cs => pm x c && allPm ps cs
theorem capsOf_isSome : ∀ ps cs : List (List UInt8), (capsOf ps cs).isSome = allPm ps cs
  | [], _ => rfl
  | _ :: _, [] => rfl
  | x :: ps, c :: cs => by
    rw [capsOf_cons, allPm]
    unfold pm
    cases capture x c with
    | none => rfl
    | some y => simp [capsOf_isSome ps cs]
theorem matchP_isSome {p : Pat} {path : List UInt8} :
    (matchP p path).isSome = true ↔ check p = 0 ∧ ∃ l, pathO path = some l ∧ fits p l.length = true ∧ allPm p.parts l = true := by
  rw [Option.isSome_iff_exists]
  constructor
  · rintro ⟨r, hr⟩
    obtain ⟨h0, l, cs, h1, h2, h3, _⟩ := matchP_some.1 hr
    exact ⟨h0, l, h1, h2, by rw [← capsOf_isSome, h3]; rfl⟩
  · rintro ⟨h0, l, h1, h2, h3⟩
    rw [← capsOf_isSome, Option.isSome_iff_exists] at h3
    obtain ⟨cs, h3⟩ := h3
    exact ⟨_, matchP_some.2 ⟨h0, l, cs, h1, h2, h3, rfl⟩⟩

/-- How many wildcards the parts have. -/
def stars (l : List (List UInt8)) : Nat := (l.filter isStar).length
def wilds (p : Pat) : Nat := stars p.parts + if p.rest then 1 else 0
theorem stars_cons (x : List UInt8) (l : List (List UInt8)) : stars (x :: l) = stars l + if isStar x then 1 else 0 := by
  unfold stars
  by_cases h : isStar x = true
  · rw [List.filter_cons_of_pos h, if_pos h]; rfl
  · rw [List.filter_cons_of_neg h, if_neg h]; rfl
/-- The components that captures make of parts. -/
def fillOf : List (List UInt8) → List (List UInt8) → Option (List (List UInt8))
  | [], _ => some []
  | x :: ps, cs => match star x with
    | none => (fillOf ps cs).map fun r => x :: r
    | some s => match cs with
      | [] => none
      | y :: cs => if Pm.comp y then (fillOf ps cs).map fun r => (y ++ s) :: r else none
theorem fillOf_comp {x : List UInt8} (ps cs : List (List UInt8)) (h : star x = none) : fillOf (x :: ps) cs = (fillOf ps cs).map fun r => x :: r := by rw [fillOf, h]
theorem fillOf_star {x s : List UInt8} (ps : List (List UInt8)) (y : List UInt8) (cs : List (List UInt8)) (h : star x = some s) : fillOf (x :: ps) (y :: cs) = if Pm.comp y then (fillOf ps cs).map fun r => (y ++ s) :: r else none := by rw [fillOf, h]
def fillComps (p : Pat) (caps : List (List UInt8)) : Option (List (List UInt8)) :=
  match fillOf p.parts caps with
  | none => none
  | some l => if p.rest then (if (Pm.segs (caps.getD (stars p.parts) [])).all Pm.comp then some (l ++ Pm.segs (caps.getD (stars p.parts) [])) else none) else some l
def fillErr (p : Pat) (caps : List (List UInt8)) : Nat := if check p = 0 then (if caps.length = wilds p then (match fillComps p caps with | none => 32 | some _ => 0) else 32) else check p
def filled (p : Pat) (caps : List (List UInt8)) : List UInt8 := if fillErr p caps = 0 then (match fillComps p caps with | none => [] | some l => Pm.join l) else []
theorem fillErr_zero {p : Pat} {caps : List (List UInt8)} : fillErr p caps = 0 ↔ check p = 0 ∧ caps.length = wilds p ∧ ∃ l, fillComps p caps = some l := by
  unfold fillErr
  by_cases h0 : check p = 0
  · rw [if_pos h0]
    by_cases h1 : caps.length = wilds p
    · rw [if_pos h1]
      cases fillComps p caps with
      | none => simp
      | some l => simp [h0, h1]
    · rw [if_neg h1]; simp [h1]
  · rw [if_neg h0]; simp [h0]

theorem caps_length : ∀ {ps l cs : List (List UInt8)}, capsOf ps l = some cs → cs.length = stars ps
  | [], _, _, h => by
    injection h with h
    subst h
    rfl
  | _ :: _, [], _, h => by cases h
  | x :: ps, c :: l, cs, h => by
    rw [capsOf_cons] at h
    rw [stars_cons]
    cases hc : capture x c with
    | none => rw [hc] at h; cases h
    | some y =>
      rw [hc] at h
      cases hr : capsOf ps l with
      | none => rw [hr] at h; cases h
      | some r =>
        rw [hr] at h
        have ih := caps_length hr
        simp only [Option.map_some, Option.some.injEq] at h
        subst h
        by_cases hx : isStar x = true
        · rw [if_pos hx, if_pos hx, List.length_cons, ih]
        · rw [if_neg hx, if_neg hx, ih, Nat.add_zero]
theorem star_none_of {x : List UInt8} (h : ¬ isStar x = true) : star x = none := by
  unfold isStar at h
  cases hs : star x with
  | none => rfl
  | some s => rw [hs] at h; exact absurd rfl h
theorem isStar_of {x s : List UInt8} (h : star x = some s) : isStar x = true := by unfold isStar; rw [h]; rfl
theorem isStar_none {x : List UInt8} (h : star x = none) : ¬ isStar x = true := by unfold isStar; rw [h]; simp

/-- The captures fill the parts to the components that they are of. -/
theorem fill_caps : ∀ {ps l cs : List (List UInt8)} (more : List (List UInt8)), capsOf ps l = some cs → fillOf ps (cs ++ more) = some (l.take ps.length)
  | [], _, _, _, _ => by simp [fillOf]
  | _ :: _, [], _, _, h => by cases h
  | x :: ps, c :: l, cs, more, h => by
    rw [capsOf_cons] at h
    cases hc : capture x c with
    | none => rw [hc] at h; cases h
    | some y =>
      rw [hc] at h
      cases hr : capsOf ps l with
      | none => rw [hr] at h; cases h
      | some r =>
        rw [hr] at h
        have ih := fill_caps more hr
        simp only [Option.map_some, Option.some.injEq] at h
        cases hs : star x with
        | none =>
          rw [if_neg (isStar_none hs)] at h
          subst h
          rw [fillOf_comp _ _ hs, ih]
          rw [capture_comp hs] at hc
          split at hc
          · rename_i e
            subst e
            simp
          · cases hc
        | some s =>
          rw [if_pos (isStar_of hs)] at h
          subst h
          obtain ⟨rfl, hy⟩ := (capture_star hs).1 hc
          rw [List.cons_append, fillOf_star _ _ _ hs, if_pos hy, ih]
          simp
/-- What the captures fill is captured by them. -/
theorem caps_fill : ∀ {ps caps l : List (List UInt8)} (more : List (List UInt8)), fillOf ps caps = some l → stars ps ≤ caps.length → capsOf ps (l ++ more) = some (caps.take (stars ps)) ∧ l.length = ps.length
  | [], caps, l, more, h, _ => by
    simp only [fillOf, Option.some.injEq] at h
    subst h
    exact ⟨by simp [capsOf, stars], rfl⟩
  | x :: ps, caps, l, more, h, hn => by
    rw [stars_cons] at hn
    cases hs : star x with
    | none =>
      rw [if_neg (isStar_none hs)] at hn
      rw [fillOf_comp _ _ hs] at h
      cases hr : fillOf ps caps with
      | none => rw [hr] at h; cases h
      | some r =>
        rw [hr] at h
        simp only [Option.map_some, Option.some.injEq] at h
        subst h
        obtain ⟨ih, ih2⟩ := caps_fill more hr (by omega)
        rw [List.cons_append, capsOf_cons, capture_comp hs, if_pos rfl]
        simp only
        rw [ih, Option.map_some, if_neg (isStar_none hs), stars_cons, if_neg (isStar_none hs)]
        exact ⟨rfl, by rw [List.length_cons, List.length_cons, ih2]⟩
    | some s =>
      rw [if_pos (isStar_of hs)] at hn
      cases caps with
      | nil => simp at hn
      | cons y caps =>
        rw [fillOf_star _ _ _ hs] at h
        split at h
        · rename_i hy
          cases hr : fillOf ps caps with
          | none => rw [hr] at h; cases h
          | some r =>
            rw [hr] at h
            simp only [Option.map_some, Option.some.injEq] at h
            subst h
            obtain ⟨ih, ih2⟩ := caps_fill more hr (by simp at hn; omega)
            rw [List.cons_append, capsOf_cons, (capture_star hs).2 ⟨rfl, hy⟩]
            simp only
            rw [ih, Option.map_some, if_pos (isStar_of hs), stars_cons, if_pos (isStar_of hs), List.take_succ_cons]
            exact ⟨rfl, by rw [List.length_cons, List.length_cons, ih2]⟩
        · cases h

theorem fits_le {p : Pat} {m : Nat} (h : fits p m = true) : p.parts.length ≤ m := by
  unfold fits at h
  split at h
  · rw [decide_eq_true_eq] at h; omega
  · rw [decide_eq_true_eq] at h; omega
/-- The captures of a path fill the pattern to that path. -/
theorem fill_match {p : Pat} {path : List UInt8} {r : List (List UInt8)} (h : matchP p path = some r) : fillErr p r = 0 ∧ filled p r = path := by
  obtain ⟨h0, l, cs, hl, hf, hc, hr⟩ := matchP_some.1 h
  obtain ⟨hp, h2, hcomp⟩ := pathO_some.1 hl
  have hcl := caps_length hc
  have hle := fits_le hf
  have hlen : r.length = wilds p := by
    unfold wilds
    rw [hr]
    split <;> simp [hcl]
  have hfc : fillComps p r = some l := by
    unfold fillComps
    rw [hr]
    cases hb : p.rest with
    | false =>
      simp only [Bool.false_eq_true, if_false]
      have := fill_caps [] hc
      rw [List.append_nil] at this
      rw [this]
      simp only
      unfold fits at hf
      rw [hb] at hf
      simp only [Bool.false_eq_true, if_false, decide_eq_true_eq] at hf
      rw [← hf, List.take_length]
    | true =>
      simp only [if_true]
      rw [fill_caps _ hc]
      simp only
      unfold fits at hf
      rw [hb] at hf
      simp only [if_true, decide_eq_true_eq] at hf
      have hne : l.drop p.parts.length ≠ [] := by
        intro e
        have := congrArg List.length e
        simp at this
        omega
      have hg : (cs ++ [Lib.join (l.drop p.parts.length) [47]]).getD (stars p.parts) [] = Lib.join (l.drop p.parts.length) [47] := by
        rw [← hcl]
        simp [List.getD]
      rw [hg, Pm.segs_join _ hne fun x hx => Pm.comp_slash (hcomp x (List.mem_of_mem_drop hx))]
      rw [if_pos (List.all_eq_true.2 fun x hx => hcomp x (List.mem_of_mem_drop hx)), List.take_append_drop]
  have he : fillErr p r = 0 := fillErr_zero.2 ⟨h0, hlen, l, hfc⟩
  refine ⟨he, ?_⟩
  unfold filled
  rw [if_pos he, hfc, hp]
theorem capsOf_comps : ∀ {ps l cs : List (List UInt8)}, (∀ x ∈ ps, part x = true) → capsOf ps l = some cs → ∀ x ∈ l.take ps.length, Pm.comp x = true
  | [], _, _, _, _ => by simp
  | _ :: _, [], _, _, h => by cases h
  | x :: ps, c :: l, cs, hp, h => by
    rw [capsOf_cons] at h
    cases hc : capture x c with
    | none => rw [hc] at h; cases h
    | some y =>
      rw [hc] at h
      cases hr : capsOf ps l with
      | none => rw [hr] at h; cases h
      | some r =>
        have ih := capsOf_comps (fun z hz => hp z (by simp [hz])) hr
        intro z hz
        rw [List.length_cons, List.take_succ_cons] at hz
        rcases List.mem_cons.1 hz with rfl | hz
        · rcases part_cases (hp x (by simp)) with ⟨s, hs, _, hnb⟩ | ⟨hs, hx⟩
          · obtain ⟨rfl, hy⟩ := (capture_star hs).1 hc
            exact comp_append hy hnb
          · rw [capture_comp hs] at hc
            split at hc
            · rename_i e
              rwa [← e]
            · cases hc
        · exact ih z hz
/-- Captures that fill a pattern are those of the path that they make. -/
theorem match_fill {p : Pat} {caps : List (List UInt8)} (h : fillErr p caps = 0) : matchP p (filled p caps) = some caps := by
  obtain ⟨h0, hlen, l, hl⟩ := fillErr_zero.1 h
  have hform := (check_ok.1 h0).1
  have hparts := form_parts hform
  have hfi : filled p caps = Pm.join l := by
    unfold filled
    rw [if_pos h, hl]
  rw [hfi]
  unfold fillComps at hl
  cases hfo : fillOf p.parts caps with
  | none => rw [hfo] at hl; cases hl
  | some l0 =>
    rw [hfo] at hl
    simp only at hl
    unfold wilds at hlen
    cases hb : p.rest with
    | false =>
      rw [hb] at hl hlen
      simp only [Bool.false_eq_true, if_false, Option.some.injEq, Nat.add_zero] at hl hlen
      subst hl
      obtain ⟨hc, hll⟩ := caps_fill [] hfo (by omega)
      rw [List.append_nil, ← hlen, List.take_length] at hc
      have hcm := capsOf_comps hparts hc
      rw [← hll, List.take_length] at hcm
      refine matchP_some.2 ⟨h0, l0, caps, pathO_some.2 ⟨rfl, ?_, hcm⟩, ?_, hc, by rw [hb]; simp⟩
      · rw [hll]; exact form_two hform hb
      · unfold fits
        rw [hb]
        simpa using hll
    | true =>
      rw [hb] at hl hlen
      simp only [if_true] at hl hlen
      split at hl
      · rename_i hall
        simp only [Option.some.injEq] at hl
        subst hl
        have hseg := Pm.segs_length (caps.getD (stars p.parts) [])
        obtain ⟨hc, hll⟩ := caps_fill (Pm.segs (caps.getD (stars p.parts) [])) hfo (by omega)
        have hcm := capsOf_comps hparts hc
        rw [← hll, List.take_left] at hcm
        have hpos := form_pos hform
        refine matchP_some.2 ⟨h0, _, caps.take (stars p.parts), pathO_some.2 ⟨rfl, ?_, ?_⟩, ?_, hc, ?_⟩
        · rw [List.length_append, hll]; omega
        · intro x hx
          rcases List.mem_append.1 hx with hx | hx
          · exact hcm x hx
          · exact List.all_eq_true.1 hall x hx
        · unfold fits
          rw [hb]
          simp only [if_true, decide_eq_true_eq, List.length_append]
          omega
        · rw [hb]
          simp only [if_true]
          rw [← hll, List.drop_left, Pm.join_segs _ _ (Nat.le_refl _)]
          have hlt : stars p.parts < caps.length := by omega
          have e : caps.getD (stars p.parts) [] = caps[stars p.parts] := by simp [List.getD, List.getElem?_eq_getElem hlt]
          rw [e]
          have : caps = caps.take (stars p.parts) ++ [caps[stars p.parts]] := by
            rw [← List.take_succ_eq_append_getElem hlt, List.take_of_length_le (by omega)]
          exact this
      · cases hl
end Go.Proofs.YtembmegllpkmfaaGreatDoor.Pt

namespace Go.Proofs.YtembmegllpkmfaaGreatDoor.Pt
open Go

/-- All texts of the part x are texts of the part y. -/
def inside (x y : List UInt8) : Bool :=
  match star y with
  | none => decide (x = y)
  | some t => match star x with
    | some s => Lib.hasSuffix s t
    | none => pm y x
theorem inside_comp {x y : List UInt8} (h : star y = none) : inside x y = decide (x = y) := by unfold inside; rw [h]
theorem inside_stars {x y s t : List UInt8} (hx : star x = some s) (hy : star y = some t) : inside x y = Lib.hasSuffix s t := by unfold inside; rw [hy, hx]
theorem inside_star {x y t : List UInt8} (hx : star x = none) (hy : star y = some t) : inside x y = pm y x := by unfold inside; rw [hy, hx]
theorem suffix_self (s : List UInt8) : Lib.hasSuffix s s = true := suffix_iff.2 ⟨[], rfl⟩
theorem inside_self (x : List UInt8) : inside x x = true := by
  cases h : star x with
  | none => rw [inside_comp h]; simp
  | some s => rw [inside_stars h h]; exact suffix_self s
theorem comp_prefix {u t : List UInt8} (h : Pm.comp (u ++ t) = true) (hu : u ≠ []) : Pm.comp u = true := by
  cases u with
  | nil => exact absurd rfl hu
  | cons c r =>
    simp only [Pm.comp, List.cons_append, List.all_cons, List.all_append, Bool.and_eq_true] at h ⊢
    exact ⟨h.1, h.2.1, h.2.2.1⟩
theorem comp_ext {y u : List UInt8} (h : Pm.comp y = true) (hu : u.all Pm.nb = true) : Pm.comp (y ++ u) = true := comp_append h hu
theorem inside_pm {x y c : List UInt8} (h : inside x y = true) (hc : pm x c = true) : pm y c = true := by
  cases hy : star y with
  | none =>
    rw [inside_comp hy, decide_eq_true_eq] at h
    rw [← h]
    exact hc
  | some t =>
    cases hs : star x with
    | none =>
      rw [inside_star hs hy] at h
      rw [(pm_comp hs).1 hc]
      exact h
    | some s =>
      rw [inside_stars hs hy] at h
      obtain ⟨u, rfl⟩ := suffix_iff.1 h
      obtain ⟨v, rfl, hv⟩ := (pm_star hs).1 hc
      have hnb := (star_some.1 hs).2
      rw [List.all_append, Bool.and_eq_true] at hnb
      exact (pm_star hy).2 ⟨v ++ u, by rw [List.append_assoc], comp_append hv hnb.1⟩
theorem suffix_or {a b s t : List UInt8} (h : a ++ s = b ++ t) (hl : t.length ≤ s.length) : Lib.hasSuffix s t = true := by
  rw [suffix_iff]
  have hla : a.length ≤ b.length := by
    have := congrArg List.length h
    simp only [List.length_append] at this
    omega
  have h2 := congrArg (List.drop a.length) h
  rw [List.drop_left, List.drop_append_of_le_length hla] at h2
  exact ⟨_, h2⟩
/-- Two parts with a common component: one lies within the other. -/
theorem laminar {x y c : List UInt8} (hx : pm x c = true) (hy : pm y c = true) : inside x y = true ∨ inside y x = true := by
  cases hs : star x with
  | none =>
    left
    have hcx := (pm_comp hs).1 hx
    subst hcx
    cases ht : star y with
    | none => rw [inside_comp ht, decide_eq_true_eq]; exact (pm_comp ht).1 hy
    | some t => rw [inside_star hs ht]; exact hy
  | some s =>
    cases ht : star y with
    | none =>
      right
      have hcy := (pm_comp ht).1 hy
      subst hcy
      rw [inside_star ht hs]
      exact hx
    | some t =>
      obtain ⟨a, rfl, _⟩ := (pm_star hs).1 hx
      obtain ⟨b, hb, _⟩ := (pm_star ht).1 hy
      by_cases hl : t.length ≤ s.length
      · left; rw [inside_stars hs ht]; exact suffix_or hb hl
      · right; rw [inside_stars ht hs]; exact suffix_or hb.symm (by omega)

/-! ### Within -/

def allIn : List (List UInt8) → List (List UInt8) → Bool     -- the parts of p, those of q
  | _, [] => true
  | [], _ :: _ => false
  | x :: ps, y :: qs => inside x y && allIn ps qs
def counts (p q : Pat) : Bool := decide (q.parts.length ≤ p.parts.length) && (if q.rest then decide (q.parts.length < p.parts.length) || p.rest else !p.rest && decide (p.parts.length = q.parts.length))
def within (p q : Pat) : Bool := decide (check p = 0) && decide (check q = 0) && counts p q && allIn p.parts q.parts
theorem allIn_pm : ∀ {ps qs cs : List (List UInt8)}, allIn ps qs = true → allPm ps cs = true → allPm qs cs = true
  | _, [], _, _, _ => rfl
  | [], _ :: _, _, h, _ => by cases h
  | _ :: _, _ :: _, [], _, h => by cases h
  | x :: ps, y :: qs, c :: cs, h1, h2 => by
    simp only [allIn, allPm, Bool.and_eq_true] at h1 h2 ⊢
    exact ⟨inside_pm h1.1 h2.1, allIn_pm h1.2 h2.2⟩
theorem within_parts {p q : Pat} (h : within p q = true) : check p = 0 ∧ check q = 0 ∧ counts p q = true ∧ allIn p.parts q.parts = true := by
  unfold within at h
  simp only [Bool.and_eq_true, decide_eq_true_eq] at h
  exact ⟨h.1.1.1, h.1.1.2, h.1.2, h.2⟩
theorem counts_fits {p q : Pat} {m : Nat} (h : counts p q = true) (hf : fits p m = true) : fits q m = true := by
  unfold counts at h
  unfold fits at *
  rw [Bool.and_eq_true, decide_eq_true_eq] at h
  obtain ⟨h1, h2⟩ := h
  cases hq : q.rest with
  | true =>
    rw [hq] at h2
    simp only [if_true, Bool.or_eq_true, decide_eq_true_eq] at h2 ⊢
    cases hp : p.rest with
    | true =>
      rw [hp] at hf
      simp only [if_true, decide_eq_true_eq] at hf
      omega
    | false =>
      rw [hp] at hf h2
      simp only [Bool.false_eq_true, if_false, decide_eq_true_eq, or_false] at hf h2
      omega
  | false =>
    rw [hq] at h2
    simp only [Bool.false_eq_true, if_false, Bool.and_eq_true, Bool.not_eq_true', decide_eq_true_eq] at h2 ⊢
    rw [h2.1] at hf
    simp only [Bool.false_eq_true, if_false, decide_eq_true_eq] at hf
    omega
/-- A path of a pattern within another one matches that one. -/
theorem within_match {p q : Pat} {path : List UInt8} (h : within p q = true) (hm : (matchP p path).isSome = true) : (matchP q path).isSome = true := by
  obtain ⟨h1, h2, h3, h4⟩ := within_parts h
  obtain ⟨_, l, hl, hf, ha⟩ := matchP_isSome.1 hm
  exact matchP_isSome.2 ⟨h2, l, hl, counts_fits h3 hf, allIn_pm h4 ha⟩

/-! ### Meet -/

/-- The parts of the intersection: of the longer one and the shorter one. -/
def meetOf : List (List UInt8) → List (List UInt8) → Option (List (List UInt8))
  | ps, [] => some ps
  | [], _ :: _ => none
  | x :: ps, y :: qs => if inside x y then (meetOf ps qs).map fun r => x :: r else if inside y x then (meetOf ps qs).map fun r => y :: r else none
def meetLong (p q : Pat) : Option Pat :=     -- q has no more parts than p
  if (decide (q.parts.length < p.parts.length) && !q.rest) || (decide (p.parts.length = q.parts.length) && (p.rest != q.rest)) then none
  else (meetOf p.parts q.parts).map fun l => ⟨l, p.rest⟩
def meet (p q : Pat) : Option Pat :=
  if check p = 0 ∧ check q = 0 then (if p.parts.length < q.parts.length then meetLong q p else meetLong p q) else none

theorem meetOf_cons (x : List UInt8) (ps : List (List UInt8)) (y : List UInt8) (qs : List (List UInt8)) :
    meetOf (x :: ps) (y :: qs) = if inside x y then (meetOf ps qs).map fun r => x :: r else if inside y x then (meetOf ps qs).map fun r => y :: r else none := rfl
theorem meetOf_len : ∀ {ps qs ms : List (List UInt8)}, meetOf ps qs = some ms → ms.length = ps.length ∧ qs.length ≤ ps.length
  | ps, [], ms, h => by
    have e : meetOf ps [] = some ps := by cases ps <;> rfl
    rw [e] at h
    injection h with h
    subst h
    simp
  | [], _ :: _, _, h => by cases h
  | x :: ps, y :: qs, ms, h => by
    rw [meetOf_cons] at h
    split at h
    · cases hr : meetOf ps qs with
      | none => rw [hr] at h; cases h
      | some r =>
        rw [hr] at h
        simp only [Option.map_some, Option.some.injEq] at h
        subst h
        obtain ⟨h1, h2⟩ := meetOf_len hr
        exact ⟨by rw [List.length_cons, List.length_cons, h1], by rw [List.length_cons, List.length_cons]; omega⟩
    · split at h
      · cases hr : meetOf ps qs with
        | none => rw [hr] at h; cases h
        | some r =>
          rw [hr] at h
          simp only [Option.map_some, Option.some.injEq] at h
          subst h
          obtain ⟨h1, h2⟩ := meetOf_len hr
          exact ⟨by rw [List.length_cons, List.length_cons, h1], by rw [List.length_cons, List.length_cons]; omega⟩
      · cases h
theorem meetOf_nil (ps : List (List UInt8)) : meetOf ps [] = some ps := by cases ps <;> rfl
/-- Components match the intersection's parts exactly if they match both. -/
theorem meetOf_pm : ∀ {ps qs cs : List (List UInt8)}, qs.length ≤ ps.length →
    (allPm ps cs && allPm qs cs) = match meetOf ps qs with | none => false | some ms => allPm ms cs
  | ps, [], cs, _ => by rw [meetOf_nil]; simp [allPm]
  | [], _ :: _, _, h => by simp at h
  | x :: ps, y :: qs, [], hl => by
    simp only [allPm, Bool.false_and]
    cases hm : meetOf (x :: ps) (y :: qs) with
    | none => rfl
    | some ms =>
      have := (meetOf_len hm).1
      cases ms with
      | nil => simp at this
      | cons a r => rfl
  | x :: ps, y :: qs, c :: cs, hl => by
    have ih := meetOf_pm (cs := cs) (show qs.length ≤ ps.length by simpa using hl)
    rw [meetOf_cons]
    simp only [allPm]
    by_cases h1 : inside x y = true
    · rw [if_pos h1]
      have e : (pm x c && pm y c) = pm x c := by
        cases hx : pm x c with
        | false => rfl
        | true => rw [inside_pm h1 hx]; rfl
      cases hm : meetOf ps qs with
      | none =>
        rw [hm] at ih
        simp only [Option.map_none] at ih ⊢
        rw [Bool.and_assoc, ← Bool.and_assoc (allPm ps cs), Bool.and_comm (allPm ps cs), Bool.and_assoc, ih]
        simp
      | some ms =>
        rw [hm] at ih
        simp only [Option.map_some, allPm] at ih ⊢
        rw [← ih, ← e]
        cases pm x c <;> cases pm y c <;> simp
    · rw [if_neg h1]
      by_cases h2 : inside y x = true
      · rw [if_pos h2]
        have e : (pm x c && pm y c) = pm y c := by
          cases hy : pm y c with
          | false => simp
          | true => rw [inside_pm h2 hy]; rfl
        cases hm : meetOf ps qs with
        | none =>
          rw [hm] at ih
          simp only [Option.map_none] at ih ⊢
          rw [Bool.and_assoc, ← Bool.and_assoc (allPm ps cs), Bool.and_comm (allPm ps cs), Bool.and_assoc, ih]
          simp
        | some ms =>
          rw [hm] at ih
          simp only [Option.map_some, allPm] at ih ⊢
          rw [← ih, ← e]
          cases pm x c <;> cases pm y c <;> simp
      · rw [if_neg h2]
        have e : (pm x c && pm y c) = false := by
          cases hx : pm x c with
          | false => rfl
          | true =>
            cases hy : pm y c with
            | false => rfl
            | true =>
              rcases laminar hx hy with h | h
              · exact absurd h h1
              · exact absurd h h2
        simp only
        cases hx : pm x c with
        | false => simp
        | true =>
          rw [hx] at e
          simp only [Bool.true_and] at e
          rw [e]
          simp
theorem meetOf_parts : ∀ {ps qs ms : List (List UInt8)}, (∀ x ∈ ps, part x = true) → (∀ x ∈ qs, part x = true) → meetOf ps qs = some ms → ∀ x ∈ ms, part x = true
  | ps, [], ms, hp, _, h => by
    rw [meetOf_nil] at h
    injection h with h
    subst h
    exact hp
  | [], _ :: _, _, _, _, h => by cases h
  | x :: ps, y :: qs, ms, hp, hq, h => by
    rw [meetOf_cons] at h
    have ih := fun r hr => meetOf_parts (ps := ps) (qs := qs) (ms := r) (fun z hz => hp z (List.mem_cons_of_mem _ hz)) (fun z hz => hq z (List.mem_cons_of_mem _ hz)) hr
    split at h
    · cases hr : meetOf ps qs with
      | none => rw [hr] at h; cases h
      | some r =>
        rw [hr] at h
        simp only [Option.map_some, Option.some.injEq] at h
        subst h
        intro z hz
        rcases List.mem_cons.1 hz with rfl | hz
        · exact hp z (by simp)
        · exact ih r hr z hz
    · split at h
      · cases hr : meetOf ps qs with
        | none => rw [hr] at h; cases h
        | some r =>
          rw [hr] at h
          simp only [Option.map_some, Option.some.injEq] at h
          subst h
          intro z hz
          rcases List.mem_cons.1 hz with rfl | hz
          · exact hq z (by simp)
          · exact ih r hr z hz
      · cases h
theorem inside_head {x y : List UInt8} (hx : Pm.comp x = true) (hy : Pm.comp y = true) (h : inside x y = true ∨ inside y x = true) : x = y := by
  rcases h with h | h
  · rw [inside_comp (comp_star hy), decide_eq_true_eq] at h; exact h
  · rw [inside_comp (comp_star hx), decide_eq_true_eq] at h; exact h.symm
theorem meetLong_ok {p q m : Pat} (hp : check p = 0) (hq : check q = 0) (h : meetLong p q = some m) : check m = 0 ∧ m.rest = p.rest ∧ meetOf p.parts q.parts = some m.parts := by
  unfold meetLong at h
  split at h
  · cases h
  · cases hm : meetOf p.parts q.parts with
    | none => rw [hm] at h; cases h
    | some ms =>
      rw [hm] at h
      simp only [Option.map_some, Option.some.injEq] at h
      subst h
      refine ⟨?_, rfl, rfl⟩
      obtain ⟨hfp, hlp⟩ := check_ok.1 hp
      obtain ⟨hfq, _⟩ := check_ok.1 hq
      have hlen := (meetOf_len hm).1
      have hms := meetOf_parts (form_parts hfp) (form_parts hfq) hm
      refine check_ok.2 ⟨?_, by simp only; omega⟩
      obtain ⟨x, r, he, h1, h2, h3⟩ := form_iff.1 hfp
      obtain ⟨y, s, he', h1', h2', h3'⟩ := form_iff.1 hfq
      rw [he, he', meetOf_cons] at hm
      rw [he] at hlen
      have hxy : inside x y = true ∨ inside y x = true := by
        by_cases g1 : inside x y = true
        · exact .inl g1
        · by_cases g2 : inside y x = true
          · exact .inr g2
          · rw [if_neg g1, if_neg g2] at hm; cases hm
      have hxe := inside_head h2 h2' hxy
      subst hxe
      rw [inside_self, if_pos rfl] at hm
      cases hr : meetOf r s with
      | none => rw [hr] at hm; cases hm
      | some t =>
        rw [hr] at hm
        simp only [Option.map_some, Option.some.injEq] at hm
        subst hm
        refine form_iff.2 ⟨x, t, rfl, ?_, h2, fun z hz => hms z (List.mem_cons_of_mem _ hz)⟩
        rcases h1 with h1 | h1
        · left
          rintro rfl
          simp at hlen
          exact h1 hlen
        · exact .inr h1
theorem meetLong_match {p q : Pat} {path : List UInt8} (hp : check p = 0) (hq : check q = 0) (hl : q.parts.length ≤ p.parts.length) :
    ((matchP p path).isSome && (matchP q path).isSome) = match meetLong p q with | none => false | some m => (matchP m path).isSome := by
  have key : ∀ l, pathO path = some l → fits p l.length = true → fits q l.length = true → (decide (q.parts.length < p.parts.length) && !q.rest || decide (p.parts.length = q.parts.length) && (p.rest != q.rest)) = false := by
    intro l _ h1 h2
    unfold fits at h1 h2
    cases hqr : q.rest <;> cases hpr : p.rest <;> rw [hqr] at h2 <;> rw [hpr] at h1 <;> simp at h1 h2 ⊢ <;> omega
  cases hc : meetLong p q with
  | none =>
    simp only
    by_cases hb : (matchP p path).isSome = true ∧ (matchP q path).isSome = true
    · exfalso
      obtain ⟨_, l, hl1, hf1, ha1⟩ := matchP_isSome.1 hb.1
      obtain ⟨_, l2, hl2, hf2, ha2⟩ := matchP_isSome.1 hb.2
      rw [hl1] at hl2
      injection hl2 with hl2
      subst hl2
      have hk := key l hl1 hf1 hf2
      unfold meetLong at hc
      rw [hk] at hc
      simp only [Bool.false_eq_true, if_false] at hc
      have := meetOf_pm (cs := l) hl
      rw [ha1, ha2] at this
      cases hm : meetOf p.parts q.parts with
      | none => rw [hm] at this; cases this
      | some ms => rw [hm] at hc; cases hc
    · cases h1 : (matchP p path).isSome with
      | false => rfl
      | true =>
        cases h2 : (matchP q path).isSome with
        | false => rfl
        | true => exact absurd ⟨h1, h2⟩ hb
  | some m =>
    simp only
    obtain ⟨hm0, hmr, hmo⟩ := meetLong_ok hp hq hc
    have hml := (meetOf_len hmo).1
    have hfm : ∀ k, fits m k = fits p k := by
      intro k
      unfold fits
      rw [hmr, hml]
    rw [Bool.eq_iff_iff, Bool.and_eq_true]
    constructor
    · rintro ⟨g1, g2⟩
      obtain ⟨_, l, hl1, hf1, ha1⟩ := matchP_isSome.1 g1
      obtain ⟨_, l2, hl2, hf2, ha2⟩ := matchP_isSome.1 g2
      rw [hl1] at hl2
      injection hl2 with hl2
      subst hl2
      have := meetOf_pm (cs := l) hl
      rw [ha1, ha2, hmo] at this
      exact matchP_isSome.2 ⟨hm0, l, hl1, by rw [hfm]; exact hf1, this.symm⟩
    · intro g
      obtain ⟨_, l, hl1, hf1, ha1⟩ := matchP_isSome.1 g
      rw [hfm] at hf1
      have := meetOf_pm (cs := l) hl
      rw [hmo] at this
      simp only at this
      rw [ha1, Bool.and_eq_true] at this
      refine ⟨matchP_isSome.2 ⟨hp, l, hl1, hf1, this.1⟩, matchP_isSome.2 ⟨hq, l, hl1, ?_, this.2⟩⟩
      have hk : ¬ (decide (q.parts.length < p.parts.length) && !q.rest || decide (p.parts.length = q.parts.length) && (p.rest != q.rest)) = true := by
        intro hk
        unfold meetLong at hc
        rw [hk] at hc
        cases hc
      unfold fits at hf1 ⊢
      cases hqr : q.rest <;> cases hpr : p.rest <;> rw [hqr, hpr] at hk <;> rw [hpr] at hf1 <;> simp at hf1 hk ⊢ <;> omega
/-- A path matches the intersection exactly if it matches both. -/
theorem meet_match (p q : Pat) (path : List UInt8) : ((matchP p path).isSome && (matchP q path).isSome) = match meet p q with | none => false | some m => (matchP m path).isSome := by
  unfold meet
  by_cases h : check p = 0 ∧ check q = 0
  · rw [if_pos h]
    by_cases hl : p.parts.length < q.parts.length
    · rw [if_pos hl, Bool.and_comm]
      exact meetLong_match h.2 h.1 (by omega)
    · rw [if_neg hl]
      exact meetLong_match h.1 h.2 (by omega)
  · rw [if_neg h]
    simp only
    have hn : ∀ r : Pat, check r ≠ 0 → (matchP r path).isSome = false := by
      intro r hr
      unfold matchP
      rw [if_neg hr]
      rfl
    by_cases h0 : check p = 0
    · rw [hn q fun e => h ⟨h0, e⟩, Bool.and_false]
    · rw [hn p h0, Bool.false_and]
theorem meet_ok {p q m : Pat} (h : meet p q = some m) : check m = 0 := by
  unfold meet at h
  split at h
  · rename_i h0
    split at h
    · exact (meetLong_ok h0.2 h0.1 h).1
    · exact (meetLong_ok h0.1 h0.2 h).1
  · cases h
end Go.Proofs.YtembmegllpkmfaaGreatDoor.Pt

namespace Go.Proofs.YtembmegllpkmfaaGreatDoor.Pt
open Go

/-! ### Witnesses -/

/-- A short component of the part x that is no text of the part y, unless all of x are. -/
def witPart (x : List UInt8) (y : Option (List UInt8)) : List UInt8 :=
  if Lib.hasPrefix x [42] then (if y = some (81 :: x.drop 1) then 82 :: x.drop 1 else 81 :: x.drop 1) else x
def witOf : List (List UInt8) → List (List UInt8) → List (List UInt8)
  | [], _ => []
  | x :: ps, [] => witPart x none :: witOf ps []
  | x :: ps, y :: qs => witPart x (some y) :: witOf ps qs
theorem prefix_star {s : List UInt8} : Lib.hasPrefix (42 :: s) [42] = true := by unfold Lib.hasPrefix; rfl
theorem prefix_comp {x : List UInt8} (h : Pm.comp x = true) : Lib.hasPrefix x [42] = false := by
  cases x with
  | nil => cases h
  | cons c r =>
    have h1 := comp_nb h
    simp only [List.all_cons, Bool.and_eq_true] at h1
    have h2 : (42 : UInt8) ≠ c := by
      rintro rfl
      exact absurd h1.1 (by decide)
    simp [Lib.hasPrefix, List.isPrefixOf, h2]
theorem wit_star (s : List UInt8) (y : Option (List UInt8)) : witPart (42 :: s) y = if y = some (81 :: s) then 82 :: s else 81 :: s := by
  unfold witPart
  rw [prefix_star, if_pos rfl]
  rfl
theorem wit_comp {x : List UInt8} (y : Option (List UInt8)) (h : Pm.comp x = true) : witPart x y = x := by
  unfold witPart
  rw [prefix_comp h]
  rfl
theorem comp_q : Pm.comp [81] = true := by decide
theorem comp_r : Pm.comp [82] = true := by decide
theorem wit_form (s : List UInt8) (y : Option (List UInt8)) : ∃ c, Pm.comp [c] = true ∧ witPart (42 :: s) y = [c] ++ s := by
  rw [wit_star]
  split
  · exact ⟨82, comp_r, rfl⟩
  · exact ⟨81, comp_q, rfl⟩
theorem wit_is_comp {x : List UInt8} (y : Option (List UInt8)) (h : part x = true) : Pm.comp (witPart x y) = true := by
  rcases part_cases h with ⟨s, _, rfl, hs⟩ | ⟨_, hc⟩
  · obtain ⟨c, h1, h2⟩ := wit_form s y
    rw [h2]
    exact comp_append h1 hs
  · rw [wit_comp y hc]; exact hc
theorem wit_pm {x : List UInt8} (y : Option (List UInt8)) (h : part x = true) : pm x (witPart x y) = true := by
  rcases part_cases h with ⟨s, hst, rfl, _⟩ | ⟨hst, hc⟩
  · obtain ⟨c, h1, h2⟩ := wit_form s y
    rw [h2]
    exact (pm_star hst).2 ⟨[c], rfl, h1⟩
  · rw [wit_comp y hc]
    exact (pm_comp hst).2 rfl
theorem suffix_single {c : UInt8} {s t y : List UInt8} (h : [c] ++ s = y ++ t) (hy : y ≠ []) : Lib.hasSuffix s t = true := by
  cases y with
  | nil => exact absurd rfl hy
  | cons d r =>
    simp only [List.cons_append, List.nil_append, List.cons.injEq] at h
    exact suffix_iff.2 ⟨r, h.2⟩
/-- The witness tells whether a part lies within another one. -/
theorem wit_inside {x y : List UInt8} (hx : part x = true) (hy : part y = true) : pm y (witPart x (some y)) = inside x y := by
  rcases part_cases hx with ⟨s, hst, rfl, hs⟩ | ⟨hst, hc⟩
  · rcases part_cases hy with ⟨t, htt, _, _⟩ | ⟨htt, hcy⟩
    · obtain ⟨c, h1, h2⟩ := wit_form s (some y)
      rw [h2, inside_stars hst htt, Bool.eq_iff_iff, pm_star htt]
      constructor
      · rintro ⟨v, h3, hv⟩
        exact suffix_single h3 (Pm.comp_ne hv)
      · intro h
        obtain ⟨u, rfl⟩ := suffix_iff.1 h
        rw [List.all_append, Bool.and_eq_true] at hs
        exact ⟨[c] ++ u, by rw [List.append_assoc], comp_append h1 hs.1⟩
    · rw [inside_comp htt]
      have e1 : decide ((42 :: s : List UInt8) = y) = false := by
        rw [decide_eq_false_iff_not]
        rintro rfl
        rw [comp_star hcy] at hst
        cases hst
      rw [e1, Bool.eq_false_iff]
      intro h
      have h3 := (pm_comp htt).1 h
      rw [wit_star] at h3
      split at h3
      · rename_i h4
        injection h4 with h4
        rw [← h3] at h4
        simp at h4
      · rename_i h4
        exact h4 (by rw [← h3])
  · rw [wit_comp _ hc]
    cases htt : star y with
    | none =>
      rw [inside_comp htt, Bool.eq_iff_iff, pm_comp htt, decide_eq_true_eq]
    | some t => rw [inside_star hst htt]
theorem witOf_len : ∀ ps qs : List (List UInt8), (witOf ps qs).length = ps.length
  | [], _ => by simp [witOf]
  | x :: ps, [] => by rw [witOf, List.length_cons, List.length_cons, witOf_len ps []]
  | x :: ps, y :: qs => by rw [witOf, List.length_cons, List.length_cons, witOf_len ps qs]
theorem witOf_comp : ∀ (ps qs : List (List UInt8)), (∀ x ∈ ps, part x = true) → ∀ c ∈ witOf ps qs, Pm.comp c = true
  | [], _, _ => by simp [witOf]
  | x :: ps, [], h => by
    intro c hc
    rcases List.mem_cons.1 hc with rfl | hc
    · exact wit_is_comp _ (h x (by simp))
    · exact witOf_comp ps [] (fun z hz => h z (List.mem_cons_of_mem _ hz)) c hc
  | x :: ps, y :: qs, h => by
    intro c hc
    rcases List.mem_cons.1 hc with rfl | hc
    · exact wit_is_comp _ (h x (by simp))
    · exact witOf_comp ps qs (fun z hz => h z (List.mem_cons_of_mem _ hz)) c hc
theorem wit_own : ∀ (ps more qs : List (List UInt8)), (∀ x ∈ ps, part x = true) → allPm ps (witOf (ps ++ more) qs) = true
  | [], _, _, _ => rfl
  | x :: ps, more, [], h => by
    rw [List.cons_append, witOf, allPm, wit_pm _ (h x (by simp)), wit_own ps more [] fun z hz => h z (List.mem_cons_of_mem _ hz)]
    rfl
  | x :: ps, more, y :: qs, h => by
    rw [List.cons_append, witOf, allPm, wit_pm _ (h x (by simp)), wit_own ps more qs fun z hz => h z (List.mem_cons_of_mem _ hz)]
    rfl
theorem wit_other : ∀ (ps more qs : List (List UInt8)), (∀ x ∈ ps, part x = true) → (∀ x ∈ qs, part x = true) → qs.length ≤ ps.length → allPm qs (witOf (ps ++ more) qs) = allIn ps qs
  | ps, _, [], _, _, _ => by cases ps <;> rfl
  | [], _, _ :: _, _, _, h => by simp at h
  | x :: ps, more, y :: qs, h1, h2, h3 => by
    rw [List.cons_append, witOf, allPm, allIn, wit_inside (h1 x (by simp)) (h2 y (by simp)),
      wit_other ps more qs (fun z hz => h1 z (List.mem_cons_of_mem _ hz)) (fun z hz => h2 z (List.mem_cons_of_mem _ hz)) (by simpa using h3)]
theorem part_any : part [42] = true := by decide
/-- The witness with n components more than p has parts. -/
def witComps (p q : Pat) (n : Nat) : List (List UInt8) := witOf (p.parts ++ List.replicate n [42]) q.parts
theorem wit_path {p : Pat} (q : Pat) {n : Nat} (h : form p = true) (hn : p.rest = true → 1 ≤ n) : pathO (Pm.join (witComps p q n)) = some (witComps p q n) := by
  refine pathO_some.2 ⟨rfl, ?_, ?_⟩
  · unfold witComps
    rw [witOf_len, List.length_append, List.length_replicate]
    cases hr : p.rest with
    | true => have := form_pos h; have := hn hr; omega
    | false => have := form_two h hr; omega
  · refine witOf_comp _ _ fun x hx => ?_
    rcases List.mem_append.1 hx with hx | hx
    · exact form_parts h x hx
    · rw [List.eq_of_mem_replicate hx]
      exact part_any
theorem wit_len (p q : Pat) (n : Nat) : (witComps p q n).length = p.parts.length + n := by
  unfold witComps
  rw [witOf_len, List.length_append, List.length_replicate]
/-- Each witness matches its pattern. -/
theorem wit_matches {p : Pat} (q : Pat) {n : Nat} (h : check p = 0) (hn : if p.rest then 1 ≤ n else n = 0) : (matchP p (Pm.join (witComps p q n))).isSome = true := by
  have hf := (check_ok.1 h).1
  refine matchP_isSome.2 ⟨h, _, wit_path q hf fun hr => by rw [hr] at hn; exact hn, ?_, ?_⟩
  · rw [wit_len]
    unfold fits
    cases hr : p.rest with
    | true => rw [hr] at hn; simp only [if_true, decide_eq_true_eq] at hn ⊢; omega
    | false => rw [hr] at hn; simp only [Bool.false_eq_true, if_false, decide_eq_true_eq] at hn ⊢; omega
  · exact wit_own _ _ _ (form_parts hf)
theorem wit_other_match {p q : Pat} {n : Nat} (hp : check p = 0) (hq : check q = 0) (hn : if p.rest then 1 ≤ n else n = 0) :
    (matchP q (Pm.join (witComps p q n))).isSome = (fits q (p.parts.length + n) && allPm q.parts (witComps p q n)) := by
  have hf := (check_ok.1 hp).1
  have hpath := wit_path q hf (n := n) fun hr => by rw [hr] at hn; exact hn
  rw [Bool.eq_iff_iff, matchP_isSome, Bool.and_eq_true]
  constructor
  · rintro ⟨_, l, hl, h1, h2⟩
    rw [hpath] at hl
    injection hl with hl
    subst hl
    rw [wit_len] at h1
    exact ⟨h1, h2⟩
  · rintro ⟨h1, h2⟩
    exact ⟨hq, _, hpath, by rw [wit_len]; exact h1, h2⟩
/-- The witnesses tell whether a pattern lies within another one: without Rest. -/
theorem outside_plain {p q : Pat} (hp : check p = 0) (hq : check q = 0) (hr : p.rest = false) : within p q = (matchP q (Pm.join (witComps p q 0))).isSome := by
  rw [wit_other_match hp hq (by rw [hr]; simp), Nat.add_zero]
  have h1 := form_parts (check_ok.1 hp).1
  have h2 := form_parts (check_ok.1 hq).1
  unfold within counts
  rw [decide_eq_true hp, decide_eq_true hq, hr, Bool.true_and, Bool.true_and]
  unfold fits
  by_cases hl : q.parts.length ≤ p.parts.length
  · have e : allPm q.parts (witComps p q 0) = allIn p.parts q.parts := wit_other _ _ _ h1 h2 hl
    rw [e, decide_eq_true hl, Bool.true_and]
    cases q.rest <;> simp
  · rw [decide_eq_false hl, Bool.false_and, Bool.false_and]
    have e : (if q.rest = true then decide (q.parts.length < p.parts.length) else decide (p.parts.length = q.parts.length)) = false := by
      split <;> rw [decide_eq_false_iff_not] <;> omega
    rw [e]
    rfl
/-- .. with Rest: one that has one component more, and one that has two. -/
theorem outside_rest {p q : Pat} (hp : check p = 0) (hq : check q = 0) (hr : p.rest = true) :
    (within p q = true → ∀ n, 1 ≤ n → (matchP q (Pm.join (witComps p q n))).isSome = true) ∧
    ((matchP q (Pm.join (witComps p q 1))).isSome = true → (matchP q (Pm.join (witComps p q 2))).isSome = true → within p q = true) := by
  have h1 := form_parts (check_ok.1 hp).1
  have h2 := form_parts (check_ok.1 hq).1
  constructor
  · intro h n hn
    exact within_match h (wit_matches q hp (by rw [hr]; simpa using hn))
  · intro g1 g2
    rw [wit_other_match hp hq (by rw [hr]; simp), Bool.and_eq_true] at g1 g2
    have hqr : q.rest = true := by
      cases hqr : q.rest with
      | true => rfl
      | false =>
        unfold fits at g1 g2
        rw [hqr] at g1 g2
        simp only [Bool.false_eq_true, if_false, decide_eq_true_eq] at g1 g2
        omega
    have hl : q.parts.length ≤ p.parts.length := by
      have := g1.1
      unfold fits at this
      rw [hqr] at this
      simp only [if_true, decide_eq_true_eq] at this
      omega
    have e : allPm q.parts (witComps p q 1) = allIn p.parts q.parts := wit_other _ _ _ h1 h2 hl
    unfold within counts
    rw [decide_eq_true hp, decide_eq_true hq, decide_eq_true hl, hqr, hr, ← e, g1.2]
    simp

/-! ### Bindings (in the shape of a pattern) -/

def bindOf : List (List UInt8) → List (List UInt8) → List Pat
  | [], _ => []
  | _ :: _, [] => []
  | x :: ps, y :: qs => match star x with
    | none => bindOf ps qs
    | some s => ⟨[y.take (y.length - s.length)], false⟩ :: bindOf ps qs
theorem bindOf_comp {x : List UInt8} (ps : List (List UInt8)) (y : List UInt8) (qs : List (List UInt8)) (h : star x = none) : bindOf (x :: ps) (y :: qs) = bindOf ps qs := by rw [bindOf, h]
theorem bindOf_star {x s : List UInt8} (ps : List (List UInt8)) (y : List UInt8) (qs : List (List UInt8)) (h : star x = some s) : bindOf (x :: ps) (y :: qs) = ⟨[y.take (y.length - s.length)], false⟩ :: bindOf ps qs := by rw [bindOf, h]
def bind (p q : Pat) : Option (List Pat) := if within q p then some (bindOf p.parts q.parts ++ if p.rest then [⟨q.parts.drop p.parts.length, q.rest⟩] else []) else none
def single (b : Pat) : Bool := decide (b.parts.length = 1) && !b.rest && part (b.parts.headD [])
def substOf : List (List UInt8) → List Pat → Option (List (List UInt8))
  | [], _ => some []
  | x :: ps, l => match star x with
    | none => (substOf ps l).map fun r => x :: r
    | some s => match l with
      | [] => none
      | b :: l => if single b then (substOf ps l).map fun r => (b.parts.headD [] ++ s) :: r else none
theorem substOf_comp {x : List UInt8} (ps : List (List UInt8)) (l : List Pat) (h : star x = none) : substOf (x :: ps) l = (substOf ps l).map fun r => x :: r := by rw [substOf, h]
theorem substOf_star {x s : List UInt8} (ps : List (List UInt8)) (b : Pat) (l : List Pat) (h : star x = some s) : substOf (x :: ps) (b :: l) = if single b then (substOf ps l).map fun r => (b.parts.headD [] ++ s) :: r else none := by rw [substOf, h]
def none_ : Pat := ⟨[], false⟩
/-- A binding of Rest. -/
def restOk (b : Pat) : Bool := (decide (b.parts ≠ []) || b.rest) && b.parts.all part
def substPat (p : Pat) (l : List Pat) : Option Pat :=
  match substOf p.parts l with
  | none => none
  | some ps => if p.rest then (if restOk (l.getD (stars p.parts) none_) then some ⟨ps ++ (l.getD (stars p.parts) none_).parts, (l.getD (stars p.parts) none_).rest⟩ else none) else some ⟨ps, false⟩
def substErr (p : Pat) (l : List Pat) : Nat :=
  if check p = 0 then (if l.length = wilds p then (match substPat p l with | none => 33 | some w => if w.parts.length ≤ 12 then 0 else 31) else 33) else check p
def subst (p : Pat) (l : List Pat) : Pat := if substErr p l = 0 then (match substPat p l with | none => none_ | some w => w) else none_
theorem substErr_zero {p : Pat} {l : List Pat} : substErr p l = 0 ↔ check p = 0 ∧ l.length = wilds p ∧ ∃ w, substPat p l = some w ∧ w.parts.length ≤ 12 := by
  unfold substErr
  by_cases h0 : check p = 0
  · rw [if_pos h0]
    by_cases h1 : l.length = wilds p
    · rw [if_pos h1]
      cases substPat p l with
      | none => simp
      | some w =>
        simp only
        by_cases h2 : w.parts.length ≤ 12
        · rw [if_pos h2]; exact ⟨fun _ => ⟨h0, h1, w, rfl, h2⟩, fun _ => rfl⟩
        · rw [if_neg h2]
          constructor
          · intro h; cases h
          · rintro ⟨_, _, w', e, h3⟩
            injection e with e
            subst e
            exact absurd h3 h2
    · rw [if_neg h1]; simp [h1]
  · rw [if_neg h0]; simp [h0]
theorem inside_split {x y s : List UInt8} (hs : star x = some s) (hy : part y = true) (h : inside y x = true) : ∃ u, y = u ++ s ∧ part u = true := by
  rcases part_cases hy with ⟨t, ht, rfl, htn⟩ | ⟨ht, _⟩
  · rw [inside_stars ht hs] at h
    obtain ⟨u, rfl⟩ := suffix_iff.1 h
    rw [List.all_append, Bool.and_eq_true] at htn
    exact ⟨42 :: u, by simp, part_star (star_mk htn.1)⟩
  · rw [inside_star ht hs] at h
    obtain ⟨u, rfl, hu⟩ := (pm_star hs).1 h
    exact ⟨u, rfl, part_comp hu⟩
theorem inside_join {x u s : List UInt8} (hs : star x = some s) (hu : part u = true) : inside (u ++ s) x = true ∧ part (u ++ s) = true := by
  have hsn := (star_some.1 hs).2
  rcases part_cases hu with ⟨t, _, rfl, htn⟩ | ⟨_, hc⟩
  · have h1 : star (42 :: t ++ s) = some (t ++ s) := star_mk (by show (t ++ s).all Pm.nb = true; rw [List.all_append, htn, hsn]; rfl)
    exact ⟨by rw [inside_stars h1 hs]; exact suffix_iff.2 ⟨t, rfl⟩, part_star h1⟩
  · have h1 := comp_append hc hsn
    exact ⟨by rw [inside_star (comp_star h1) hs]; exact (pm_star hs).2 ⟨u, rfl, hc⟩, part_comp h1⟩
/-- Bindings are undone by substitution. -/
theorem subst_bind : ∀ {ps qs : List (List UInt8)} (more : List Pat), (∀ x ∈ qs, part x = true) → allIn qs ps = true → substOf ps (bindOf ps qs ++ more) = some (qs.take ps.length) ∧ (bindOf ps qs).length = stars ps
  | [], _, _, _, _ => by simp [substOf, bindOf, stars]
  | _ :: _, [], _, _, h => by cases h
  | x :: ps, y :: qs, more, hq, h => by
    simp only [allIn, Bool.and_eq_true] at h
    obtain ⟨ih, ih2⟩ := subst_bind more (fun z hz => hq z (List.mem_cons_of_mem _ hz)) h.2
    cases hs : star x with
    | none =>
      rw [bindOf_comp _ _ _ hs, substOf_comp _ _ hs, ih, stars_cons, if_neg (isStar_none hs), ih2]
      have e := h.1
      rw [inside_comp hs, decide_eq_true_eq] at e
      subst e
      simp
    | some s =>
      obtain ⟨u, rfl, hu⟩ := inside_split hs (hq y (by simp)) h.1
      have e : single ⟨[u], false⟩ = true := by simp [single, hu]
      rw [bindOf_star _ _ _ hs, take_suffix, List.cons_append, substOf_star _ _ _ hs, stars_cons, if_pos (isStar_of hs), if_pos e, ih]
      exact ⟨rfl, by rw [List.length_cons, ih2]⟩
theorem narrow_bind {p q : Pat} {m : List Pat} (h : bind p q = some m) : substErr p m = 0 ∧ subst p m = q := by
  unfold bind at h
  split at h
  · rename_i hw
    injection h with h
    obtain ⟨hq0, hp0, hc, ha⟩ := within_parts hw
    have hqp := form_parts (check_ok.1 hq0).1
    have hcl : p.parts.length ≤ q.parts.length := by
      unfold counts at hc
      rw [Bool.and_eq_true, decide_eq_true_eq] at hc
      exact hc.1
    have key : m.length = wilds p ∧ substPat p m = some q := by
      cases hr : p.rest with
      | false =>
        rw [hr] at h
        simp only [Bool.false_eq_true, if_false, List.append_nil] at h
        obtain ⟨h1, h2⟩ := subst_bind [] hqp ha
        rw [List.append_nil] at h1
        subst h
        unfold counts at hc
        rw [hr] at hc
        simp only [Bool.false_eq_true, if_false, Bool.and_eq_true, Bool.not_eq_true', decide_eq_true_eq] at hc
        refine ⟨by unfold wilds; rw [hr]; simpa using h2, ?_⟩
        unfold substPat
        rw [h1, hr]
        simp only [Bool.false_eq_true, if_false, Option.some.injEq]
        refine Pat.ext' ?_ hc.2.1.symm
        simp only
        rw [← hc.2.2, List.take_length]
      | true =>
        rw [hr] at h
        simp only [if_true] at h
        obtain ⟨h1, h2⟩ := subst_bind [⟨q.parts.drop p.parts.length, q.rest⟩] hqp ha
        subst h
        refine ⟨by unfold wilds; rw [hr]; simp [h2], ?_⟩
        have hg : (bindOf p.parts q.parts ++ [(⟨q.parts.drop p.parts.length, q.rest⟩ : Pat)]).getD (stars p.parts) none_ = ⟨q.parts.drop p.parts.length, q.rest⟩ := by
          rw [← h2]
          simp [List.getD]
        have hro : restOk ⟨q.parts.drop p.parts.length, q.rest⟩ = true := by
          unfold restOk
          rw [Bool.and_eq_true, Bool.or_eq_true, decide_eq_true_eq, List.all_eq_true]
          refine ⟨?_, fun x hx => hqp x (List.mem_of_mem_drop hx)⟩
          unfold counts at hc
          rw [hr] at hc
          simp only [if_true, Bool.and_eq_true, Bool.or_eq_true, decide_eq_true_eq] at hc
          rcases hc.2 with h3 | h3
          · left
            intro e
            have := congrArg List.length e
            simp at this
            omega
          · exact .inr h3
        unfold substPat
        rw [h1, hr]
        simp only [if_true]
        rw [hg, if_pos hro]
        simp only [Option.some.injEq]
        refine Pat.ext' ?_ rfl
        simp only
        rw [List.take_append_drop]
    have he : substErr p m = 0 := substErr_zero.2 ⟨hp0, key.1, q, key.2, (check_ok.1 hq0).2⟩
    refine ⟨he, ?_⟩
    unfold subst
    rw [if_pos he, key.2]
  · cases h
/-- Substitutions are undone by binding. -/
theorem bind_subst : ∀ {ps : List (List UInt8)} {l : List Pat} {r : List (List UInt8)} (more : List (List UInt8)), substOf ps l = some r → stars ps ≤ l.length →
    bindOf ps (r ++ more) = l.take (stars ps) ∧ r.length = ps.length ∧ allIn (r ++ more) ps = true
  | [], l, r, more, h, _ => by
    simp only [substOf, Option.some.injEq] at h
    subst h
    refine ⟨by simp [bindOf, stars], rfl, ?_⟩
    cases more <;> rfl
  | x :: ps, l, r, more, h, hn => by
    rw [stars_cons] at hn
    cases hs : star x with
    | none =>
      rw [if_neg (isStar_none hs)] at hn
      rw [substOf_comp _ _ hs] at h
      cases hr : substOf ps l with
      | none => rw [hr] at h; cases h
      | some t =>
        rw [hr] at h
        simp only [Option.map_some, Option.some.injEq] at h
        subst h
        obtain ⟨h1, h2, h3⟩ := bind_subst more hr (by omega)
        rw [List.cons_append, bindOf_comp _ _ _ hs, stars_cons, if_neg (isStar_none hs), allIn, inside_self, h3]
        exact ⟨h1, by rw [List.length_cons, List.length_cons, h2], rfl⟩
    | some s =>
      rw [if_pos (isStar_of hs)] at hn
      cases l with
      | nil => simp at hn
      | cons b l =>
        rw [substOf_star _ _ _ hs] at h
        split at h
        · rename_i hb
          cases hr : substOf ps l with
          | none => rw [hr] at h; cases h
          | some t =>
            rw [hr] at h
            simp only [Option.map_some, Option.some.injEq] at h
            subst h
            obtain ⟨h1, h2, h3⟩ := bind_subst more hr (by simp at hn; omega)
            unfold single at hb
            simp only [Bool.and_eq_true, decide_eq_true_eq, Bool.not_eq_true'] at hb
            obtain ⟨⟨hb1, hb2⟩, hb3⟩ := hb
            obtain ⟨bp, br⟩ := b
            simp only at hb1 hb2 hb3
            subst hb2
            cases bp with
            | nil => simp at hb1
            | cons u w =>
              cases w with
              | cons _ _ => simp at hb1
              | nil =>
                simp only [List.headD_cons] at hb3 ⊢
                rw [List.cons_append, bindOf_star _ _ _ hs, take_suffix, stars_cons, if_pos (isStar_of hs), List.take_succ_cons, allIn, (inside_join hs hb3).1, h3, h1]
                exact ⟨rfl, by rw [List.length_cons, List.length_cons, h2], rfl⟩
        · cases h
theorem subst_parts : ∀ {ps : List (List UInt8)} {l : List Pat} {r : List (List UInt8)}, (∀ x ∈ ps, part x = true) → substOf ps l = some r → ∀ x ∈ r, part x = true
  | [], l, r, _, h => by
    simp only [substOf, Option.some.injEq] at h
    subst h
    simp
  | x :: ps, l, r, hp, h => by
    cases hs : star x with
    | none =>
      rw [substOf_comp _ _ hs] at h
      cases hr : substOf ps l with
      | none => rw [hr] at h; cases h
      | some t =>
        rw [hr] at h
        simp only [Option.map_some, Option.some.injEq] at h
        subst h
        intro z hz
        rcases List.mem_cons.1 hz with rfl | hz
        · exact hp z (by simp)
        · exact subst_parts (fun z hz => hp z (List.mem_cons_of_mem _ hz)) hr z hz
    | some s =>
      cases l with
      | nil => rw [substOf, hs] at h; cases h
      | cons b l =>
        rw [substOf_star _ _ _ hs] at h
        split at h
        · rename_i hb
          cases hr : substOf ps l with
          | none => rw [hr] at h; cases h
          | some t =>
            rw [hr] at h
            simp only [Option.map_some, Option.some.injEq] at h
            subst h
            unfold single at hb
            simp only [Bool.and_eq_true] at hb
            intro z hz
            rcases List.mem_cons.1 hz with rfl | hz
            · exact (inside_join hs hb.2).2
            · exact subst_parts (fun z hz => hp z (List.mem_cons_of_mem _ hz)) hr z hz
        · cases h
theorem narrow_subst {p : Pat} {l : List Pat} (h : substErr p l = 0) : bind p (subst p l) = some l ∧ within (subst p l) p = true := by
  obtain ⟨h0, hlen, w, hw, h12⟩ := substErr_zero.1 h
  have he : subst p l = w := by
    unfold subst
    rw [if_pos h, hw]
  rw [he]
  have hform := (check_ok.1 h0).1
  unfold substPat at hw
  cases hso : substOf p.parts l with
  | none => rw [hso] at hw; cases hw
  | some r =>
    rw [hso] at hw
    simp only at hw
    have hrp := subst_parts (form_parts hform) hso
    obtain ⟨x, t, hpe, hx1, hx2, _⟩ := form_iff.1 hform
    have hhead : ∃ r', r = x :: r' := by
      rw [hpe, substOf_comp _ _ (comp_star hx2)] at hso
      cases hr : substOf t l with
      | none => rw [hr] at hso; cases hso
      | some r' =>
        rw [hr] at hso
        simp only [Option.map_some, Option.some.injEq] at hso
        exact ⟨r', hso.symm⟩
    obtain ⟨r', hr'⟩ := hhead
    unfold wilds at hlen
    cases hrest : p.rest with
    | false =>
      rw [hrest] at hw hlen
      simp only [Bool.false_eq_true, if_false, Option.some.injEq, Nat.add_zero] at hw hlen
      subst hw
      obtain ⟨h1, h2, h3⟩ := bind_subst [] hso (by omega)
      rw [List.append_nil] at h1 h3
      rw [← hlen, List.take_length] at h1
      have hcw : check ⟨r, false⟩ = 0 := by
        refine check_ok.2 ⟨form_iff.2 ⟨x, r', hr', ?_, hx2, fun z hz => hrp z (by rw [hr']; exact List.mem_cons_of_mem _ hz)⟩, h12⟩
        left
        rintro rfl
        have := form_two hform hrest
        rw [hr'] at h2
        simp at h2
        omega
      have hwi : within ⟨r, false⟩ p = true := by
        unfold within counts
        rw [decide_eq_true hcw, decide_eq_true h0, hrest]
        simp [h2, h3]
      refine ⟨?_, hwi⟩
      unfold bind
      rw [if_pos hwi, hrest]
      simp only [Bool.false_eq_true, if_false, List.append_nil, h1]
    | true =>
      rw [hrest] at hw hlen
      simp only [if_true] at hw hlen
      split at hw
      · rename_i hro
        simp only [Option.some.injEq] at hw
        generalize hb : l.getD (stars p.parts) none_ = b at hw hro
        subst hw
        obtain ⟨h1, h2, h3⟩ := bind_subst b.parts hso (by omega)
        unfold restOk at hro
        rw [Bool.and_eq_true, Bool.or_eq_true, decide_eq_true_eq, List.all_eq_true] at hro
        have hcw : check ⟨r ++ b.parts, b.rest⟩ = 0 := by
          refine check_ok.2 ⟨form_iff.2 ⟨x, r' ++ b.parts, by rw [hr']; rfl, ?_, hx2, ?_⟩, h12⟩
          · rcases hro.1 with h4 | h4
            · left
              intro e
              exact h4 (List.append_eq_nil_iff.1 e).2
            · exact .inr h4
          · intro z hz
            rcases List.mem_append.1 hz with hz | hz
            · exact hrp z (by rw [hr']; exact List.mem_cons_of_mem _ hz)
            · exact hro.2 z hz
        have hwi : within ⟨r ++ b.parts, b.rest⟩ p = true := by
          unfold within counts
          rw [decide_eq_true hcw, decide_eq_true h0, hrest, h3]
          simp only [Bool.true_and, if_true, Bool.and_true, Bool.and_eq_true, decide_eq_true_eq, Bool.or_eq_true, List.length_append]
          refine ⟨by omega, ?_⟩
          rcases hro.1 with h4 | h4
          · left
            have := List.length_pos_iff.2 h4
            omega
          · exact .inr h4
        refine ⟨?_, hwi⟩
        unfold bind
        rw [if_pos hwi, hrest]
        simp only [if_true]
        rw [h1, ← h2, List.drop_left]
        have hlt : stars p.parts < l.length := by omega
        have e : b = l[stars p.parts] := by rw [← hb]; simp [List.getD, List.getElem?_eq_getElem hlt]
        have e2 : (⟨b.parts, b.rest⟩ : Pat) = l[stars p.parts] := e
        rw [e2, ← List.take_succ_eq_append_getElem hlt, List.take_of_length_le (by omega)]
      · cases hw

/-! ### Two patterns with one part after the first -/

def two (x : List UInt8) : Pat := ⟨[[97], x], false⟩
theorem two_within {x y : List UInt8} (hx : check (two x) = 0) (hy : check (two y) = 0) : within (two x) (two y) = inside x y := by
  unfold within counts
  rw [decide_eq_true hx, decide_eq_true hy]
  simp [two, allIn, inside_self]
theorem two_meet {x y : List UInt8} (hx : check (two x) = 0) (hy : check (two y) = 0) :
    meet (two x) (two y) = if inside x y then some (two x) else if inside y x then some (two y) else none := by
  unfold meet
  rw [if_pos ⟨hx, hy⟩]
  have e1 : ¬ (two x).parts.length < (two y).parts.length := by simp [two]
  rw [if_neg e1]
  unfold meetLong
  have e2 : meetOf (two x).parts (two y).parts = if inside x y then some [[97], x] else if inside y x then some [[97], y] else none := by
    show meetOf [[97], x] [[97], y] = _
    rw [meetOf_cons, inside_self, if_pos rfl, meetOf_cons, meetOf_nil]
    by_cases h1 : inside x y = true
    · simp [h1]
    · by_cases h2 : inside y x = true
      · simp [h1, h2]
      · simp [h1, h2]
  rw [e2]
  by_cases h1 : inside x y = true
  · simp [h1, two]
  · by_cases h2 : inside y x = true
    · simp [h1, h2, two]
    · simp [h1, h2, two]
end Go.Proofs.YtembmegllpkmfaaGreatDoor.Pt

namespace Go.Proofs.YtembmegllpkmfaaGreatDoor.Pt
open Go

/-- The form of a part: 2 with a star, 1 without, 0 if it is none. -/
def formN (x : List UInt8) : Nat := if isStar x then 2 else if Pm.comp x then 1 else 0
theorem trim_cons (c : UInt8) (r : List UInt8) : Lib.trimLeftB (c :: r) 46 = if (c == 46) = true then Lib.trimLeftB r 46 else c :: r := by
  unfold Lib.trimLeftB
  rw [List.dropWhile_cons]
theorem comp_head (c : UInt8) (r : List UInt8) : Pm.comp (c :: r) = (c != 46 && (c :: r).all Pm.nb) := rfl
theorem trim_nb : ∀ s : List UInt8, (Lib.trimLeftB s 46 = [] ∨ Pm.comp (Lib.trimLeftB s 46) = true) ↔ s.all Pm.nb = true
  | [] => by simp [Lib.trimLeftB]
  | c :: r => by
    rw [trim_cons]
    by_cases h : c = 46
    · subst h
      rw [if_pos (by decide), trim_nb r]
      simp [show Pm.nb 46 = true by decide]
    · rw [if_neg (by simpa using h), comp_head]
      simp [h]
theorem trim_len (s : List UInt8) : (Lib.trimLeftB s 46).length ≤ s.length := by
  unfold Lib.trimLeftB
  exact (List.dropWhile_sublist _).length_le
theorem form_star (s : List UInt8) : formN (42 :: s) = if s.all Pm.nb = true then 2 else 0 := by
  unfold formN isStar
  rw [star_cons]
  by_cases h : s.all Pm.nb = true
  · simp [h]
  · have hc : Pm.comp (42 :: s) = false := by
      rw [comp_head, List.all_cons, show Pm.nb 42 = false by decide]
      simp
    simp [h, hc]
theorem star_prefix {x s : List UInt8} (h : star x = some s) : Lib.hasPrefix x [42] = true := by
  rw [(star_some.1 h).1]
  exact prefix_star
theorem form_plain {x : List UInt8} (h : Lib.hasPrefix x [42] = false) : formN x = if Pm.comp x then 1 else 0 := by
  unfold formN isStar
  cases hs : star x with
  | none => rfl
  | some s => rw [star_prefix hs] at h; cases h
theorem prefix_cons {x : List UInt8} (h : Lib.hasPrefix x [42] = true) : x = 42 :: x.drop 1 := by
  cases x with
  | nil => simp [Lib.hasPrefix] at h
  | cons c r =>
    simp [Lib.hasPrefix, List.isPrefixOf] at h
    subst h
    rfl
theorem part_form (x : List UInt8) : part x = decide (formN x ≠ 0) := by
  unfold part formN
  cases isStar x <;> cases Pm.comp x <;> rfl
theorem form_two_iff {x : List UInt8} : formN x = 2 ↔ ∃ s, star x = some s := by
  unfold formN isStar
  cases hs : star x with
  | none => cases Pm.comp x <;> simp
  | some s => simp
theorem form_one_iff {x : List UInt8} : formN x = 1 ↔ Pm.comp x = true := by
  unfold formN
  constructor
  · intro h
    split at h
    · cases h
    · split at h
      · assumption
      · cases h
  · intro h
    have : isStar x = false := by
      unfold isStar
      rw [comp_star h]
      rfl
    simp [this, h]
theorem form_le (x : List UInt8) : formN x = 0 ∨ formN x = 1 ∨ formN x = 2 := by
  unfold formN
  cases isStar x <;> cases Pm.comp x <;> simp
theorem form_part {x : List UInt8} (h : part x = true) : (formN x = 1 ∧ star x = none ∧ Pm.comp x = true) ∨ (formN x = 2 ∧ ∃ s, star x = some s ∧ x = 42 :: s ∧ s.all Pm.nb = true) := by
  rcases part_cases h with ⟨s, h1, h2, h3⟩ | ⟨h1, h2⟩
  · exact .inr ⟨form_two_iff.2 ⟨s, h1⟩, s, h1, h2, h3⟩
  · exact .inl ⟨form_one_iff.2 h2, h1, h2⟩

/-- What the star of the part x stands for in y. -/
def narrO (x y : List UInt8) : Option (List UInt8) :=
  match star x with
  | some s => if Lib.hasSuffix y s = true ∧ y.take (y.length - s.length) ≠ [] then some (y.take (y.length - s.length)) else none
  | none => if Pm.comp x = true ∧ x = y then some [] else none
def narrsOf : List (List UInt8) → List (List UInt8) → Option (List (List UInt8))
  | [], _ => some []
  | _ :: _, [] => none
  | x :: ps, y :: ys => match narrO x y with
    | none => none
    | some u => (narrsOf ps ys).map fun r => if u = [] then r else u :: r
def narr (p q : Pat) : Option (List (List UInt8)) := if counts q p then narrsOf p.parts q.parts else none
theorem narrsOf_cons (x : List UInt8) (ps : List (List UInt8)) (y : List UInt8) (ys : List (List UInt8)) :
    narrsOf (x :: ps) (y :: ys) = match narrO x y with
      | none => none
      | some u => (narrsOf ps ys).map fun r => if u = [] then r else u :: r := rfl
theorem narrO_capture {x c : List UInt8} (hx : part x = true) (hc : Pm.comp c = true) : narrO x c = capture x c := by
  unfold narrO capture
  rcases part_cases hx with ⟨s, h1, h2, h3⟩ | ⟨h1, h2⟩
  · rw [h1]
    simp only
    by_cases hs : Lib.hasSuffix c s = true
    · obtain ⟨u, rfl⟩ := suffix_iff.1 hs
      rw [take_suffix]
      by_cases hu : u = []
      · subst hu
        simp [Pm.comp]
      · rw [if_pos ⟨hs, hu⟩, if_pos ⟨hs, comp_prefix hc hu⟩]
    · simp [hs]
  · rw [h1]
    simp [h2]
theorem narrO_star {x y u : List UInt8} (h : narrO x y = some u) : (u = []) ↔ ¬ isStar x = true := by
  unfold narrO at h
  unfold isStar
  cases hs : star x with
  | none =>
    rw [hs] at h
    simp only at h
    split at h
    · injection h with h
      subst h
      simp
    · cases h
  | some s =>
    rw [hs] at h
    simp only at h
    split at h
    · rename_i h2
      injection h with h
      subst h
      simp [h2.2]
    · cases h
theorem narr_caps : ∀ {ps cs : List (List UInt8)}, (∀ x ∈ ps, part x = true) → (∀ c ∈ cs, Pm.comp c = true) → narrsOf ps cs = capsOf ps cs
  | [], _, _, _ => rfl
  | _ :: _, [], _, _ => rfl
  | x :: ps, c :: cs, h1, h2 => by
    have ih := narr_caps (fun z hz => h1 z (List.mem_cons_of_mem _ hz)) (fun z hz => h2 z (List.mem_cons_of_mem _ hz))
    have e := narrO_capture (h1 x (by simp)) (h2 c (by simp))
    rw [narrsOf_cons, capsOf_cons, ← e, ih]
    cases h : narrO x c with
    | none => rfl
    | some u =>
      have hu := narrO_star h
      by_cases hs : isStar x = true
      · have : u ≠ [] := fun h3 => (hu.1 h3) hs
        simp [hs, this]
      · have := hu.2 hs
        simp [hs, this]
theorem counts_path (p : Pat) (l : List (List UInt8)) : counts ⟨l, false⟩ p = fits p l.length := by
  unfold counts fits
  cases p.rest with
  | false =>
    simp only [Bool.false_eq_true, if_false, Bool.not_false, Bool.true_and]
    by_cases h : l.length = p.parts.length
    · simp [h]
    · simp [h]
  | true =>
    simp only [if_true, Bool.or_false]
    by_cases h : p.parts.length < l.length
    · simp [h]; omega
    · simp [h]
theorem match_narr {p : Pat} {s : List UInt8} {l : List (List UInt8)} (hp : check p = 0) (hs : pathO s = some l) :
    matchP p s = (narr p ⟨l, false⟩).map fun r => if p.rest then r ++ [Lib.join (l.drop p.parts.length) [47]] else r := by
  unfold matchP narr
  rw [if_pos hp, hs, counts_path, narr_caps (form_parts (check_ok.1 hp).1) (pathO_some.1 hs).2.2]
  simp only
  split <;> rfl
theorem inside_narr {x y : List UInt8} (hx : part x = true) (hy : part y = true) : (narrO x y).isSome = inside y x := by
  rcases part_cases hy with ⟨t, h1, h2, h3⟩ | ⟨h1, h2⟩
  · unfold narrO
    rcases part_cases hx with ⟨s, g1, g2, g3⟩ | ⟨g1, g2⟩
    · rw [g1, inside_stars h1 g1]
      simp only
      by_cases hs : Lib.hasSuffix t s = true
      · obtain ⟨u, rfl⟩ := suffix_iff.1 hs
        have e1 : Lib.hasSuffix y s = true := suffix_iff.2 ⟨42 :: u, by rw [h2]; rfl⟩
        have e2 : y.take (y.length - s.length) = 42 :: u := by rw [h2, ← List.cons_append, take_suffix]
        rw [e2, if_pos ⟨e1, by simp⟩, hs]
        rfl
      · have hs' : Lib.hasSuffix t s = false := by simpa using hs
        rw [hs', if_neg]
        · rfl
        · rintro ⟨e1, e2⟩
          obtain ⟨u, hu⟩ := suffix_iff.1 e1
          rw [hu, take_suffix] at e2
          rw [h2] at hu
          cases u with
          | nil => exact e2 rfl
          | cons a u =>
            injection hu with _ hu
            exact hs (suffix_iff.2 ⟨u, hu⟩)
    · rw [g1, inside_comp g1]
      simp only
      rw [g2]
      by_cases e : x = y
      · simp [e]
      · have : ¬ y = x := fun h => e h.symm
        simp [e, this]
  · rw [narrO_capture hx h2]
    rcases part_cases hx with ⟨s, g1, g2, g3⟩ | ⟨g1, g2⟩
    · rw [inside_star h1 g1]
      rfl
    · rw [inside_comp g1, capture_comp g1]
      by_cases e : x = y
      · simp [e]
      · have : ¬ y = x := fun h => e h.symm
        simp [e, this]
theorem narrO_take {x y u s : List UInt8} (hs : star x = some s) (h : narrO x y = some u) : u = y.take (y.length - s.length) := by
  unfold narrO at h
  rw [hs] at h
  simp only at h
  split at h
  · injection h with h
    exact h.symm
  · cases h
theorem narrs_in : ∀ {ps qs : List (List UInt8)}, (∀ x ∈ ps, part x = true) → (∀ x ∈ qs, part x = true) →
    (narrsOf ps qs).isSome = allIn qs ps ∧ ∀ l, narrsOf ps qs = some l → bindOf ps qs = l.map fun u => ⟨[u], false⟩
  | [], qs, _, _ => by
    refine ⟨by cases qs <;> rfl, fun l h => ?_⟩
    simp only [narrsOf, Option.some.injEq] at h
    subst h
    rfl
  | _ :: _, [], _, _ => ⟨rfl, fun l h => by cases h⟩
  | x :: ps, y :: qs, h1, h2 => by
    obtain ⟨i1, i2⟩ := narrs_in (fun z hz => h1 z (List.mem_cons_of_mem _ hz)) (fun z hz => h2 z (List.mem_cons_of_mem _ hz))
    have e := inside_narr (h1 x (by simp)) (h2 y (by simp))
    rw [narrsOf_cons, allIn, ← e]
    cases hn : narrO x y with
    | none => exact ⟨rfl, fun l h => by cases h⟩
    | some u =>
      refine ⟨by simp [i1], fun l h => ?_⟩
      simp only [Option.map_eq_some_iff] at h
      obtain ⟨r, hr, rfl⟩ := h
      have hu := narrO_star hn
      cases hs : star x with
      | none =>
        have : u = [] := hu.2 (isStar_none hs)
        rw [if_pos this, bindOf_comp _ _ _ hs]
        exact i2 r hr
      | some s =>
        have : ¬ u = [] := fun h3 => hu.1 h3 (isStar_of hs)
        rw [if_neg this, bindOf_star _ _ _ hs, i2 r hr, ← narrO_take hs hn]
        rfl
theorem within_narr {p q : Pat} (hp : check p = 0) (hq : check q = 0) : (narr p q).isSome = within q p := by
  unfold narr within
  rw [decide_eq_true hp, decide_eq_true hq, ← (narrs_in (form_parts (check_ok.1 hp).1) (form_parts (check_ok.1 hq).1)).1]
  cases counts q p <;> simp
theorem bind_narr {p q : Pat} (hp : check p = 0) (hq : check q = 0) : bind p q = (narr p q).map fun l => (l.map fun u => ⟨[u], false⟩) ++ if p.rest then [⟨q.parts.drop p.parts.length, q.rest⟩] else [] := by
  unfold bind
  rw [← within_narr hp hq]
  cases h : narr p q with
  | none => rfl
  | some l =>
    unfold narr at h
    split at h
    · rw [(narrs_in (form_parts (check_ok.1 hp).1) (form_parts (check_ok.1 hq).1)).2 l h]
      rfl
    · cases h

theorem inside_anti {x y : List UInt8} (hx : part x = true) (hy : part y = true) (h1 : inside x y = true) (h2 : inside y x = true) : x = y := by
  rcases part_cases hy with ⟨t, a1, a2, a3⟩ | ⟨a1, a2⟩
  · rcases part_cases hx with ⟨s, g1, g2, g3⟩ | ⟨g1, g2⟩
    · rw [inside_stars g1 a1] at h1
      rw [inside_stars a1 g1] at h2
      obtain ⟨u, hu⟩ := suffix_iff.1 h1
      obtain ⟨v, hv⟩ := suffix_iff.1 h2
      have l1 := congrArg List.length hu
      have l2 := congrArg List.length hv
      rw [List.length_append] at l1 l2
      have : u = [] := List.eq_nil_of_length_eq_zero (by omega)
      subst this
      rw [g2, a2, hu]
      rfl
    · rw [inside_comp g1, decide_eq_true_eq] at h2
      exact h2.symm
  · rw [inside_comp a1, decide_eq_true_eq] at h1
    exact h1
theorem meetOf_comm : ∀ {ps qs : List (List UInt8)}, ps.length = qs.length → (∀ x ∈ ps, part x = true) → (∀ x ∈ qs, part x = true) → meetOf ps qs = meetOf qs ps
  | [], [], _, _, _ => rfl
  | [], _ :: _, h, _, _ => by simp at h
  | _ :: _, [], h, _, _ => by simp at h
  | x :: ps, y :: qs, h, h1, h2 => by
    have ih := meetOf_comm (ps := ps) (qs := qs) (by simpa using h) (fun z hz => h1 z (List.mem_cons_of_mem _ hz)) (fun z hz => h2 z (List.mem_cons_of_mem _ hz))
    rw [meetOf_cons, meetOf_cons, ih]
    by_cases a : inside x y = true
    · by_cases b : inside y x = true
      · have := inside_anti (h1 x (by simp)) (h2 y (by simp)) a b
        subst this
        rfl
      · simp [a, b]
    · by_cases b : inside y x = true
      · simp [a, b]
      · simp [a, b]
theorem meetLong_comm {p q : Pat} (hp : check p = 0) (hq : check q = 0) (h : p.parts.length = q.parts.length) : meetLong p q = meetLong q p := by
  unfold meetLong
  rw [meetOf_comm h (form_parts (check_ok.1 hp).1) (form_parts (check_ok.1 hq).1), h]
  cases hr : p.rest <;> cases hs : q.rest <;> simp
/-- The intersection as the program makes it: the short one first. -/
theorem meet_short (p q : Pat) : meet p q = if check p = 0 ∧ check q = 0 then (if q.parts.length < p.parts.length then meetLong p q else meetLong q p) else none := by
  unfold meet
  by_cases h : check p = 0 ∧ check q = 0
  · rw [if_pos h, if_pos h]
    by_cases h1 : p.parts.length < q.parts.length
    · rw [if_pos h1, if_neg (by omega)]
    · rw [if_neg h1]
      by_cases h2 : q.parts.length < p.parts.length
      · rw [if_pos h2]
      · rw [if_neg h2]
        exact meetLong_comm h.1 h.2 (by omega)
  · rw [if_neg h, if_neg h]

/-- The parts with these texts in place of their stars. -/
def fillsOf : List (List UInt8) → List (List UInt8) → List (List UInt8)
  | [], _ => []
  | x :: ps, cs => match star x with
    | none => x :: fillsOf ps cs
    | some s => (cs.headD [] ++ s) :: fillsOf ps (cs.drop 1)
theorem fillsOf_comp {x : List UInt8} (ps cs : List (List UInt8)) (h : star x = none) : fillsOf (x :: ps) cs = x :: fillsOf ps cs := by rw [fillsOf, h]
theorem fillsOf_star {x s : List UInt8} (ps cs : List (List UInt8)) (h : star x = some s) : fillsOf (x :: ps) cs = (cs.headD [] ++ s) :: fillsOf ps (cs.drop 1) := by rw [fillsOf, h]
theorem fillsOf_len : ∀ ps cs : List (List UInt8), (fillsOf ps cs).length = ps.length
  | [], _ => rfl
  | x :: ps, cs => by
    cases h : star x with
    | none => rw [fillsOf_comp _ _ h, List.length_cons, fillsOf_len ps cs, List.length_cons]
    | some s => rw [fillsOf_star _ _ h, List.length_cons, fillsOf_len ps _, List.length_cons]
theorem fillsOf_take : ∀ (ps cs : List (List UInt8)), fillsOf ps (cs.take (stars ps)) = fillsOf ps cs
  | [], _ => rfl
  | x :: ps, cs => by
    cases h : star x with
    | none =>
      rw [fillsOf_comp _ _ h, fillsOf_comp _ _ h, stars_cons, if_neg (isStar_none h), Nat.add_zero, fillsOf_take ps cs]
    | some s =>
      rw [fillsOf_star _ _ h, fillsOf_star _ _ h, stars_cons, if_pos (isStar_of h)]
      cases cs with
      | nil => simp
      | cons y cs =>
        rw [List.take_succ_cons]
        simp only [List.headD_cons, List.drop_succ_cons, List.drop_zero]
        rw [fillsOf_take ps cs]
theorem fillOf_fills : ∀ {ps cs : List (List UInt8)}, stars ps ≤ cs.length → fillOf ps cs = if (cs.take (stars ps)).all Pm.comp = true then some (fillsOf ps cs) else none
  | [], _, _ => by simp [fillOf, fillsOf, stars]
  | x :: ps, cs, hl => by
    cases h : star x with
    | none =>
      rw [stars_cons, if_neg (isStar_none h), Nat.add_zero] at hl ⊢
      rw [fillOf_comp _ _ h, fillsOf_comp _ _ h, fillOf_fills hl]
      split <;> rfl
    | some s =>
      rw [stars_cons, if_pos (isStar_of h)] at hl ⊢
      cases cs with
      | nil => simp at hl
      | cons y cs =>
        rw [fillOf_star _ _ _ h, fillsOf_star _ _ h, List.take_succ_cons, List.all_cons, fillOf_fills (by simpa using hl)]
        cases Pm.comp y with
        | false => simp
        | true =>
          simp only [Bool.true_and, if_true, List.headD_cons, List.drop_succ_cons, List.drop_zero]
          split <;> rfl
def capsOk (p : Pat) (caps : List (List UInt8)) : Bool := decide (caps.length = wilds p) && (caps.take (stars p.parts)).all Pm.comp && (!p.rest || (Pm.segs (caps.getD (stars p.parts) [])).all Pm.comp)
theorem join_segs_last (l : List (List UInt8)) (c : List UInt8) : Pm.join (l ++ Pm.segs c) = Pm.join (l ++ [c]) := by
  unfold Pm.join
  cases l with
  | nil => rw [List.nil_append, List.nil_append, Pm.join_segs _ c (Nat.le_refl _), Lib.join_one]
  | cons x r => rw [Pm.join_append _ _ (by simp) (Pm.segs_ne c), Pm.join_append _ _ (by simp) (by simp), Pm.join_segs _ c (Nat.le_refl _), Lib.join_one]
theorem fill_err (p : Pat) (caps : List (List UInt8)) : fillErr p caps = if check p = 0 then (if capsOk p caps then 0 else 32) else check p := by
  unfold fillErr capsOk
  by_cases hc : check p = 0
  · rw [if_pos hc, if_pos hc]
    by_cases hl : caps.length = wilds p
    · have hst : stars p.parts ≤ caps.length := by rw [hl]; unfold wilds; omega
      rw [if_pos hl, decide_eq_true hl]
      unfold fillComps
      rw [fillOf_fills hst]
      cases (caps.take (stars p.parts)).all Pm.comp with
      | false => simp
      | true =>
        cases p.rest with
        | false => simp
        | true => cases (Pm.segs (caps.getD (stars p.parts) [])).all Pm.comp <;> simp
    · simp [hl]
  · rw [if_neg hc, if_neg hc]
theorem fill_text {p : Pat} {caps : List (List UInt8)} (hc : check p = 0) (hk : capsOk p caps = true) : filled p caps = Pm.join (fillsOf p.parts caps ++ caps.drop (stars p.parts)) := by
  unfold filled
  rw [fill_err, if_pos hc, if_pos hk, if_pos rfl]
  unfold capsOk at hk
  simp only [Bool.and_eq_true, decide_eq_true_eq] at hk
  obtain ⟨⟨hl, h1⟩, h2⟩ := hk
  have hst : stars p.parts ≤ caps.length := by rw [hl]; unfold wilds; omega
  unfold fillComps
  rw [fillOf_fills hst, if_pos h1]
  simp only
  cases hr : p.rest with
  | false =>
    simp only [Bool.false_eq_true, if_false]
    rw [List.drop_of_length_le (by rw [hl]; simp [wilds, hr]), List.append_nil]
  | true =>
    rw [hr] at h2
    simp only [Bool.not_true, Bool.false_or] at h2
    rw [if_pos rfl, if_pos h2]
    simp only
    have hlt : stars p.parts < caps.length := by rw [hl]; simp [wilds, hr]
    have hd : caps.drop (stars p.parts) = [caps.getD (stars p.parts) []] := by
      rw [List.drop_eq_getElem_cons hlt, List.drop_of_length_le (by rw [hl]; simp [wilds, hr])]
      simp [List.getD_eq_getElem?_getD, List.getElem?_eq_getElem hlt]
    rw [hd, join_segs_last]

theorem substOf_fills : ∀ {ps : List (List UInt8)} {l : List Pat}, stars ps ≤ l.length → substOf ps l = if (l.take (stars ps)).all single = true then some (fillsOf ps (l.map fun b => b.parts.headD [])) else none
  | [], _, _ => by simp [substOf, fillsOf, stars]
  | x :: ps, l, hl => by
    cases h : star x with
    | none =>
      rw [stars_cons, if_neg (isStar_none h), Nat.add_zero] at hl ⊢
      rw [substOf_comp _ _ h, fillsOf_comp _ _ h, substOf_fills hl]
      split <;> rfl
    | some s =>
      rw [stars_cons, if_pos (isStar_of h)] at hl ⊢
      cases l with
      | nil => simp at hl
      | cons y l =>
        rw [substOf_star _ _ _ h, fillsOf_star _ _ h, List.take_succ_cons, List.all_cons, substOf_fills (by simpa using hl)]
        cases single y with
        | false => simp
        | true =>
          simp only [Bool.true_and, if_true, List.map_cons, List.headD_cons, List.drop_succ_cons, List.drop_zero]
          split <;> rfl
def bindsOk (p : Pat) (l : List Pat) : Bool := decide (l.length = wilds p) && (l.take (stars p.parts)).all single && (!p.rest || restOk (l.getD (stars p.parts) none_))
theorem subst_err (p : Pat) (l : List Pat) : substErr p l = if check p = 0 then (if bindsOk p l then (if p.parts.length + (if p.rest then (l.getD (stars p.parts) none_).parts.length else 0) ≤ 12 then 0 else 31) else 33) else check p := by
  unfold substErr bindsOk
  by_cases hc : check p = 0
  · rw [if_pos hc, if_pos hc]
    by_cases hl : l.length = wilds p
    · have hst : stars p.parts ≤ l.length := by rw [hl]; unfold wilds; omega
      rw [if_pos hl, decide_eq_true hl]
      unfold substPat
      rw [substOf_fills hst]
      cases (l.take (stars p.parts)).all single with
      | false => simp
      | true =>
        cases p.rest with
        | false => simp [fillsOf_len]
        | true => cases restOk (l.getD (stars p.parts) none_) <;> simp [fillsOf_len]
    · simp [hl]
  · rw [if_neg hc, if_neg hc]
theorem subst_val {p : Pat} {l : List Pat} (h : substErr p l = 0) : subst p l = ⟨fillsOf p.parts (l.map fun b => b.parts.headD []) ++ (if p.rest then (l.getD (stars p.parts) none_).parts else []), p.rest && (l.getD (stars p.parts) none_).rest⟩ := by
  obtain ⟨hc, hl, w, hw, _⟩ := substErr_zero.1 h
  unfold subst
  rw [if_pos h, hw]
  simp only
  have hst : stars p.parts ≤ l.length := by rw [hl]; unfold wilds; omega
  unfold substPat at hw
  rw [substOf_fills hst] at hw
  split at hw
  · cases hw
  · rename_i ps he
    split at he
    · injection he with he
      subst he
      cases hr : p.rest with
      | false =>
        rw [hr] at hw
        simp only [Bool.false_eq_true, if_false, Option.some.injEq] at hw
        subst hw
        simp
      | true =>
        rw [hr] at hw
        simp only [if_true] at hw
        split at hw
        · injection hw with hw
          subst hw
          simp
        · cases hw
    · cases he
end Go.Proofs.YtembmegllpkmfaaGreatDoor.Pt

namespace Go.Proofs.YtembmegllpkmfaaGreatDoor.Pt
open Go

structure Rul where
  ex : Bool
  left : Pat
  right : Pat
def rcheck (r : Rul) : Nat := if check r.left = 0 then (if check r.right = 0 then (if stars r.left.parts = stars r.right.parts ∧ r.left.rest = r.right.rest then 0 else 42) else 41) else 40
theorem rcheck_zero {r : Rul} : rcheck r = 0 ↔ check r.left = 0 ∧ check r.right = 0 ∧ stars r.left.parts = stars r.right.parts ∧ r.left.rest = r.right.rest := by
  unfold rcheck
  constructor
  · intro h
    split at h
    · rename_i h1
      split at h
      · rename_i h2
        split at h
        · rename_i h3
          exact ⟨h1, h2, h3⟩
        · cases h
      · cases h
    · cases h
  · rintro ⟨h1, h2, h3⟩
    rw [if_pos h1, if_pos h2, if_pos h3]
def zeroR : Rul := ⟨false, none_, none_⟩
def turnR (r : Rul) : Rul := ⟨r.ex, r.right, r.left⟩
theorem turn_turn (r : Rul) : turnR (turnR r) = r := rfl
theorem turn_check {r : Rul} (h : rcheck r = 0) : rcheck (turnR r) = 0 := by
  obtain ⟨h1, h2, h3, h4⟩ := rcheck_zero.1 h
  exact rcheck_zero.2 ⟨h2, h1, h3.symm, h4.symm⟩
def fwd (r : Rul) (s : List UInt8) : Option (List UInt8) :=
  if rcheck r = 0 then (match matchP r.left s with
    | none => none
    | some caps => if fillErr r.right caps = 0 then some (filled r.right caps) else none) else none
/-- The restriction to the left paths of p; its error. -/
def nleft (r : Rul) (p : Pat) : Option Rul :=
  if rcheck r = 0 then (if check p = 0 then (match meet r.left p with
    | none => none
    | some m => if substErr r.right ((bind r.left m).getD []) = 0 then some ⟨false, m, subst r.right ((bind r.left m).getD [])⟩ else none) else none) else none
def nleftE (r : Rul) (p : Pat) : Nat :=
  if rcheck r = 0 then (if check p = 0 then (match meet r.left p with
    | none => 0
    | some m => if substErr r.right ((bind r.left m).getD []) = 0 then 0 else 43) else check p) else rcheck r
def nright (r : Rul) (p : Pat) : Option Rul := (nleft (turnR r) p).map turnR
def nrightE (r : Rul) (p : Pat) : Nat := if rcheck r = 0 then nleftE (turnR r) p else rcheck r
/-- The composition as the program makes it. -/
def chain (a b : Rul) : Option Rul :=
  if rcheck a = 0 ∧ rcheck b = 0 then (match nright a b.left with
    | none => none
    | some x => match nleft b x.right with
      | none => none
      | some y => some ⟨false, x.left, y.right⟩) else none
def chainE (a b : Rul) : Nat :=
  if rcheck a = 0 then (if rcheck b = 0 then (match nright a b.left with
    | none => nrightE a b.left
    | some x => nleftE b x.right) else rcheck b) else rcheck a
/-- The same as the reference makes it. -/
def chainR (a b : Rul) : Option Rul :=
  if rcheck a = 0 ∧ rcheck b = 0 then (match meet a.right b.left with
    | none => none
    | some m => match nright a m, nleft b m with
      | some x, some y => some ⟨false, x.left, y.right⟩
      | _, _ => none) else none
def chainRE (a b : Rul) : Nat :=
  if rcheck a = 0 then (if rcheck b = 0 then (match meet a.right b.left with
    | none => 0
    | some m => match nright a m, nleft b m with
      | some _, some _ => 0
      | _, _ => 43) else rcheck b) else rcheck a

theorem star_app {u s : List UInt8} (hu : part u = true) (hs : s.all Pm.nb = true) : star (u ++ s) = (star u).map fun t => t ++ s := by
  rcases part_cases hu with ⟨t, h1, h2, h3⟩ | ⟨h1, h2⟩
  · rw [h1, h2]
    exact star_mk (s := t ++ s) (by rw [List.all_append, h3, hs]; rfl)
  · rw [h1, comp_star (comp_append h2 hs)]
    rfl
theorem fills_fills : ∀ {ps X C : List (List UInt8)}, (∀ x ∈ ps, part x = true) → (∀ x ∈ X, part x = true) → stars ps ≤ X.length → fillsOf (fillsOf ps X) C = fillsOf ps (fillsOf X C)
  | [], _, _, _, _, _ => rfl
  | x :: ps, X, C, h1, h2, hl => by
    have ih := fun X' C' g2 gl => fills_fills (ps := ps) (X := X') (C := C') (fun z hz => h1 z (List.mem_cons_of_mem _ hz)) g2 gl
    cases hs : star x with
    | none =>
      rw [stars_cons, if_neg (isStar_none hs)] at hl
      rw [fillsOf_comp _ _ hs, fillsOf_comp _ _ hs, fillsOf_comp _ _ hs, ih X C h2 (by omega)]
    | some s =>
      rw [stars_cons, if_pos (isStar_of hs)] at hl
      cases X with
      | nil => simp at hl
      | cons u X =>
        have hnb := (star_some.1 hs).2
        have h2' : ∀ z ∈ X, part z = true := fun z hz => h2 z (List.mem_cons_of_mem _ hz)
        have hl' : stars ps ≤ X.length := by simp at hl; omega
        rw [fillsOf_star ps (u :: X) hs, List.headD_cons, List.drop_succ_cons, List.drop_zero]
        have e := star_app (h2 u (by simp)) hnb
        cases hu : star u with
        | none =>
          rw [hu] at e
          rw [fillsOf_comp _ _ e, ih X C h2' hl', fillsOf_comp X C hu, fillsOf_star ps _ hs, List.headD_cons, List.drop_succ_cons, List.drop_zero]
        | some t =>
          rw [hu] at e
          rw [fillsOf_star (s := t ++ s) _ _ e, ih X _ h2' hl', fillsOf_star X C hu, fillsOf_star ps _ hs, List.headD_cons, List.drop_succ_cons, List.drop_zero, List.append_assoc]
theorem stars_fills : ∀ {ps X : List (List UInt8)}, (∀ x ∈ ps, part x = true) → (∀ x ∈ X, part x = true) → stars ps = X.length → stars (fillsOf ps X) = stars X
  | [], X, _, _, h => by
    have : X = [] := List.eq_nil_of_length_eq_zero (by rw [← h]; rfl)
    subst this
    rfl
  | x :: ps, X, h1, h2, hl => by
    have ih := fun X' g2 gl => stars_fills (ps := ps) (X := X') (fun z hz => h1 z (List.mem_cons_of_mem _ hz)) g2 gl
    cases hs : star x with
    | none =>
      rw [stars_cons, if_neg (isStar_none hs), Nat.add_zero] at hl
      rw [fillsOf_comp _ _ hs, stars_cons, if_neg (isStar_none hs), Nat.add_zero, ih X h2 hl]
    | some s =>
      rw [stars_cons, if_pos (isStar_of hs)] at hl
      cases X with
      | nil => simp at hl
      | cons u X =>
        have h2' : ∀ z ∈ X, part z = true := fun z hz => h2 z (List.mem_cons_of_mem _ hz)
        rw [fillsOf_star ps (u :: X) hs, List.headD_cons, List.drop_succ_cons, List.drop_zero, stars_cons, stars_cons, ih X h2' (by simpa using hl)]
        have e := star_app (h2 u (by simp)) (star_some.1 hs).2
        unfold isStar
        rw [e]
        cases star u <;> rfl
theorem fills_append : ∀ (ps qs C : List (List UInt8)), fillsOf (ps ++ qs) C = fillsOf ps C ++ fillsOf qs (C.drop (stars ps))
  | [], _, _ => by simp [fillsOf, stars]
  | x :: ps, qs, C => by
    rw [List.cons_append, stars_cons]
    cases hs : star x with
    | none => rw [fillsOf_comp _ _ hs, fillsOf_comp _ _ hs, fills_append ps qs C, if_neg (isStar_none hs)]; rfl
    | some s =>
      rw [fillsOf_star _ _ hs, fillsOf_star _ _ hs, fills_append ps qs _, if_pos (isStar_of hs), List.drop_drop, Nat.add_comm 1]
      rfl
theorem fills_comp : ∀ {X C : List (List UInt8)}, (∀ x ∈ X, part x = true) → stars X ≤ C.length → (C.take (stars X)).all Pm.comp = true → (fillsOf X C).all Pm.comp = true
  | [], _, _, _, _ => rfl
  | x :: X, C, h1, hl, hc => by
    have ih := fun C' => fills_comp (X := X) (C := C') (fun z hz => h1 z (List.mem_cons_of_mem _ hz))
    rw [stars_cons] at hl hc
    rcases part_cases (h1 x (by simp)) with ⟨s, g1, g2, g3⟩ | ⟨g1, g2⟩
    · rw [if_pos (isStar_of g1)] at hl hc
      rw [fillsOf_star _ _ g1]
      cases C with
      | nil => simp at hl
      | cons y C =>
        rw [List.take_succ_cons, List.all_cons, Bool.and_eq_true] at hc
        rw [List.headD_cons, List.drop_succ_cons, List.drop_zero, List.all_cons, comp_append hc.1 g3, Bool.true_and]
        exact ih C (by simpa using hl) hc.2
    · rw [if_neg (isStar_none g1), Nat.add_zero] at hl hc
      rw [fillsOf_comp _ _ g1, List.all_cons, g2, Bool.true_and]
      exact ih C hl hc
theorem stars_append (a b : List (List UInt8)) : stars (a ++ b) = stars a + stars b := by simp [stars]

def heads (l : List Pat) : List (List UInt8) := l.map fun b => b.parts.headD []
/-- The captures of the wide pattern out of those of the narrowed one. -/
def app (n : Nat) (r : Bool) (l : List Pat) (C : List (List UInt8)) : List (List UInt8) :=
  fillsOf ((heads l).take n) C ++ if r then [Lib.join (fillsOf (l.getD n none_).parts (C.drop (stars ((heads l).take n))) ++ C.drop (stars ((heads l).take n) + stars (l.getD n none_).parts)) [47]] else []

theorem subst_check {p : Pat} {l : List Pat} (h : substErr p l = 0) : check (subst p l) = 0 := (within_parts (narrow_subst h).2).1
theorem subst_form {p : Pat} {l : List Pat} (h : substErr p l = 0) : check p = 0 ∧ l.length = wilds p ∧ (∀ x ∈ (heads l).take (stars p.parts), part x = true) ∧ ((heads l).take (stars p.parts)).length = stars p.parts ∧ (p.rest = true → restOk (l.getD (stars p.parts) none_) = true) ∧
    (subst p l).parts = fillsOf p.parts ((heads l).take (stars p.parts)) ++ (if p.rest then (l.getD (stars p.parts) none_).parts else []) ∧ (subst p l).rest = (p.rest && (l.getD (stars p.parts) none_).rest) := by
  have e := subst_err p l
  rw [h] at e
  have hc := (substErr_zero.1 h).1
  rw [if_pos hc] at e
  have hb : bindsOk p l = true := by
    cases hb : bindsOk p l with
    | true => rfl
    | false => rw [hb] at e; simp at e
  unfold bindsOk at hb
  simp only [Bool.and_eq_true, decide_eq_true_eq, Bool.or_eq_true, Bool.not_eq_true', List.all_eq_true] at hb
  obtain ⟨⟨h1, h2⟩, h3⟩ := hb
  have hv := subst_val h
  refine ⟨hc, h1, ?_, ?_, ?_, ?_, ?_⟩
  · intro x hx
    unfold heads at hx
    rw [← List.map_take] at hx
    obtain ⟨b, hb, rfl⟩ := List.mem_map.1 hx
    have := h2 b hb
    unfold single at this
    rw [Bool.and_eq_true] at this
    exact this.2
  · rw [List.length_take]
    unfold heads
    rw [List.length_map, h1]
    unfold wilds
    omega
  · intro hr
    rcases h3 with h3 | h3
    · rw [h3] at hr; cases hr
    · exact h3
  · rw [hv, fillsOf_take]
    rfl
  · rw [hv]
theorem all_of_segs {L : List (List UInt8)} {c : List UInt8} (h1 : L.all Pm.comp = true) (h2 : (Pm.segs c).all Pm.comp = true) : (Pm.segs (Lib.join (L ++ [c]) [47])).all Pm.comp = true := by
  have e : Lib.join (L ++ [c]) [47] = Lib.join (L ++ Pm.segs c) [47] := by
    have := join_segs_last L c
    unfold Pm.join at this
    simpa using this.symm
  have h3 : (L ++ Pm.segs c).all Pm.comp = true := by rw [List.all_append, h1, h2]; rfl
  have e2 := segs_parts (l := L ++ Pm.segs c) (by simp [Pm.segs_ne]) (fun x hx => part_slash (part_comp (List.all_eq_true.1 h3 x hx)))
  have e3 : (Pm.join (L ++ Pm.segs c)).drop 2 = Lib.join (L ++ Pm.segs c) [47] := rfl
  rw [e3] at e2
  rw [e, e2]
  exact h3
theorem segs_comps {L : List (List UInt8)} (hne : L ≠ []) (h1 : L.all Pm.comp = true) : (Pm.segs (Lib.join L [47])).all Pm.comp = true := by
  have e2 := segs_parts (l := L) hne (fun x hx => part_slash (part_comp (List.all_eq_true.1 h1 x hx)))
  have e3 : (Pm.join L).drop 2 = Lib.join L [47] := rfl
  rw [e3] at e2
  rw [e2]
  exact h1
theorem join_one_app (L : List (List UInt8)) {R : List (List UInt8)} (hR : R ≠ []) : Pm.join (L ++ [Lib.join R [47]]) = Pm.join (L ++ R) := by
  unfold Pm.join
  cases L with
  | nil => rw [List.nil_append, List.nil_append, Lib.join_one]
  | cons x r => rw [Pm.join_append _ _ (by simp) hR, Pm.join_append _ _ (by simp) (by simp), Lib.join_one]
theorem capsOk_iff {p : Pat} {C : List (List UInt8)} : fillErr p C = 0 ↔ check p = 0 ∧ C.length = wilds p ∧ (C.take (stars p.parts)).all Pm.comp = true ∧ (p.rest = true → (Pm.segs (C.getD (stars p.parts) [])).all Pm.comp = true) := by
  rw [fill_err]
  constructor
  · intro h
    by_cases hc : check p = 0
    · rw [if_pos hc] at h
      cases hk : capsOk p C with
      | false => rw [hk] at h; simp at h
      | true =>
        unfold capsOk at hk
        simp only [Bool.and_eq_true, decide_eq_true_eq, Bool.or_eq_true, Bool.not_eq_true'] at hk
        refine ⟨hc, hk.1.1, hk.1.2, fun hr => ?_⟩
        rcases hk.2 with h3 | h3
        · rw [h3] at hr; cases hr
        · exact h3
    · rw [if_neg hc] at h
      exact absurd h hc
  · rintro ⟨hc, h1, h2, h3⟩
    have hk : capsOk p C = true := by
      unfold capsOk
      rw [decide_eq_true h1, h2]
      cases hr : p.rest with
      | false => rfl
      | true => rw [h3 hr]; rfl
    rw [if_pos hc, hk]
    rfl
/-- What fills the narrowed pattern fills the wide one, by these captures. -/
theorem fill_subst {p : Pat} {l : List Pat} {C : List (List UInt8)} (h : substErr p l = 0) (hC : fillErr (subst p l) C = 0) :
    fillErr p (app (stars p.parts) p.rest l C) = 0 ∧ filled p (app (stars p.parts) p.rest l C) = filled (subst p l) C := by
  obtain ⟨hc, hlen, hX, hXl, hrb, hwp, hwr⟩ := subst_form h
  have hpp := form_parts (check_ok.1 hc).1
  obtain ⟨hcw, hCl, hC1, hC2⟩ := capsOk_iff.1 hC
  have hkw : capsOk (subst p l) C = true := by
    cases hk : capsOk (subst p l) C with
    | true => rfl
    | false =>
      rw [fill_err, if_pos hcw, hk] at hC
      simp at hC
  have hft := fill_text hcw hkw
  unfold app
  generalize hb : l.getD (stars p.parts) none_ = b at hrb hwp hwr ⊢
  generalize (heads l).take (stars p.parts) = X at hX hXl hwp ⊢
  have hsf := stars_fills (ps := p.parts) (X := X) hpp hX hXl.symm
  have hff := fun C' => fills_fills (ps := p.parts) (X := X) (C := C') hpp hX (by omega)
  generalize hw : subst p l = w at *
  cases hr : p.rest with
  | false =>
    rw [hr] at hwp hwr
    simp only [Bool.false_eq_true, if_false, List.append_nil, Bool.false_and] at hwp hwr ⊢
    have hsw : stars w.parts = stars X := by rw [hwp, hsf]
    have hCX : C.length = stars X := by rw [hCl]; unfold wilds; rw [hwr, hsw]; simp
    have hall := fills_comp (C := C) hX (by omega) (by rw [← hsw]; exact hC1)
    have hk : fillErr p (fillsOf X C) = 0 := by
      refine capsOk_iff.2 ⟨hc, ?_, ?_, fun h => by rw [hr] at h; cases h⟩
      · rw [fillsOf_len, hXl]; unfold wilds; rw [hr]; simp
      · rw [List.take_of_length_le (by rw [fillsOf_len, hXl]; exact Nat.le_refl _)]; exact hall
    refine ⟨hk, ?_⟩
    have hkk : capsOk p (fillsOf X C) = true := by
      cases hk2 : capsOk p (fillsOf X C) with
      | true => rfl
      | false => rw [fill_err, if_pos hc, hk2] at hk; simp at hk
    rw [hft, fill_text hc hkk, hwp, hff, hsf, List.drop_of_length_le (by rw [fillsOf_len, hXl]; exact Nat.le_refl _), List.drop_of_length_le (l := C) (i := stars X) (by omega)]
  | true =>
    rw [hr] at hwp hwr
    simp only [if_true, Bool.true_and] at hwp hwr ⊢
    have hro := hrb hr
    unfold restOk at hro
    rw [Bool.and_eq_true, Bool.or_eq_true, decide_eq_true_eq, List.all_eq_true] at hro
    have hsw : stars w.parts = stars X + stars b.parts := by rw [hwp, stars_append, hsf]
    have hCX : C.length = stars X + stars b.parts + if b.rest then 1 else 0 := by rw [hCl]; unfold wilds; rw [hwr, hsw]
    rw [hsw] at hC1 hC2
    have hC1' := List.all_eq_true.1 hC1
    have hall := fills_comp (C := C) hX (by omega) (List.all_eq_true.2 fun x hx => hC1' x (by
      rw [List.mem_take_iff_getElem] at hx ⊢
      obtain ⟨i, hi, rfl⟩ := hx
      exact ⟨i, by omega, rfl⟩))
    have hall2 := fills_comp (X := b.parts) (C := C.drop (stars X)) hro.2 (by rw [List.length_drop]; omega) (List.all_eq_true.2 fun x hx => hC1' x (by
      rw [List.take_drop] at hx
      exact List.mem_of_mem_drop hx))
    generalize hR : fillsOf b.parts (C.drop (stars X)) ++ C.drop (stars X + stars b.parts) = R
    have hRne : R ≠ [] := by
      intro h0
      rw [← hR] at h0
      have h1 := congrArg List.length h0
      rw [List.length_append, fillsOf_len, List.length_drop, List.length_nil] at h1
      rcases hro.1 with h2 | h2
      · have := List.length_pos_iff.2 h2; omega
      · rw [h2] at hCX; simp at hCX; omega
    have hRs : (Pm.segs (Lib.join R [47])).all Pm.comp = true := by
      cases hbr : b.rest with
      | false =>
        rw [hbr] at hCX
        simp only [Bool.false_eq_true, if_false, Nat.add_zero] at hCX
        have hd0 : C.drop (stars X + stars b.parts) = [] := List.drop_of_length_le (by omega)
        rw [hd0, List.append_nil] at hR
        subst hR
        exact segs_comps hRne hall2
      | true =>
        rw [hbr] at hCX
        simp only [if_true] at hCX
        have hlt : stars X + stars b.parts < C.length := by omega
        have hd : C.drop (stars X + stars b.parts) = [C.getD (stars X + stars b.parts) []] := by
          rw [List.drop_eq_getElem_cons hlt, List.drop_of_length_le (by omega)]
          simp [List.getD_eq_getElem?_getD, List.getElem?_eq_getElem hlt]
        rw [hd] at hR
        subst hR
        exact all_of_segs hall2 (hC2 (by rw [hwr, hbr]))
    have hlen2 : (fillsOf X C).length = stars p.parts := by rw [fillsOf_len, hXl]
    have hk : fillErr p (fillsOf X C ++ [Lib.join R [47]]) = 0 := by
      refine capsOk_iff.2 ⟨hc, ?_, ?_, fun _ => ?_⟩
      · rw [List.length_append, hlen2]; unfold wilds; rw [hr]; rfl
      · rw [List.take_left' hlen2]; exact hall
      · rw [List.getD_eq_getElem?_getD, List.getElem?_append_right (by omega), hlen2]
        simpa using hRs
    refine ⟨hk, ?_⟩
    have hkk : capsOk p (fillsOf X C ++ [Lib.join R [47]]) = true := by
      cases hk2 : capsOk p (fillsOf X C ++ [Lib.join R [47]]) with
      | true => rfl
      | false => rw [fill_err, if_pos hc, hk2] at hk; simp at hk
    rw [hft, fill_text hc hkk, List.drop_left' hlen2, ← fillsOf_take p.parts (fillsOf X C ++ _), List.take_left' hlen2, join_one_app _ hRne, hwp, fills_append, hff, hsf, stars_append, hsf, List.append_assoc, hR]
end Go.Proofs.YtembmegllpkmfaaGreatDoor.Pt

namespace Go.Proofs.YtembmegllpkmfaaGreatDoor.Pt
open Go

theorem within_of_all {p q : Pat} (hp : check p = 0) (hq : check q = 0) (h : ∀ s, (matchP p s).isSome = true → (matchP q s).isSome = true) : within p q = true := by
  cases hr : p.rest with
  | false =>
    rw [outside_plain hp hq hr]
    exact h _ (wit_matches q hp (by rw [hr]; rfl))
  | true =>
    have hw := fun n (hn : 1 ≤ n) => h _ (wit_matches q (n := n) hp (by rw [hr]; exact hn))
    exact (outside_rest hp hq hr).2 (hw 1 (by omega)) (hw 2 (by omega))
theorem some_path {p : Pat} (hp : check p = 0) : ∃ s, (matchP p s).isSome = true := by
  cases hr : p.rest with
  | false => exact ⟨_, wit_matches p (n := 0) hp (by rw [hr]; rfl)⟩
  | true => exact ⟨_, wit_matches p (n := 1) hp (by rw [hr]; exact Nat.le_refl 1)⟩
theorem allIn_anti : ∀ {ps qs : List (List UInt8)}, ps.length = qs.length → (∀ x ∈ ps, part x = true) → (∀ x ∈ qs, part x = true) → allIn ps qs = true → allIn qs ps = true → ps = qs
  | [], [], _, _, _, _, _ => rfl
  | [], _ :: _, h, _, _, _, _ => by simp at h
  | _ :: _, [], h, _, _, _, _ => by simp at h
  | x :: ps, y :: qs, h, h1, h2, a, b => by
    simp only [allIn, Bool.and_eq_true] at a b
    have e := inside_anti (h1 x (by simp)) (h2 y (by simp)) a.1 b.1
    have ih := allIn_anti (ps := ps) (qs := qs) (by simpa using h) (fun z hz => h1 z (List.mem_cons_of_mem _ hz)) (fun z hz => h2 z (List.mem_cons_of_mem _ hz)) a.2 b.2
    rw [e, ih]
theorem within_anti {p q : Pat} (h1 : within p q = true) (h2 : within q p = true) : p = q := by
  obtain ⟨a1, a2, a3, a4⟩ := within_parts h1
  obtain ⟨_, _, b3, b4⟩ := within_parts h2
  unfold counts at a3 b3
  simp only [Bool.and_eq_true, decide_eq_true_eq] at a3 b3
  have hl : p.parts.length = q.parts.length := by omega
  refine Pat.ext' (allIn_anti hl (form_parts (check_ok.1 a1).1) (form_parts (check_ok.1 a2).1) a4 b4) ?_
  have x3 := a3.2
  have y3 := b3.2
  cases hp : p.rest <;> cases hq : q.rest <;> simp_all
theorem pat_ext {p q : Pat} (hp : check p = 0) (hq : check q = 0) (h : ∀ s, (matchP p s).isSome = (matchP q s).isSome) : p = q :=
  within_anti (within_of_all hp hq fun s hs => by rw [← h s]; exact hs) (within_of_all hq hp fun s hs => by rw [h s]; exact hs)
theorem meet_some {p q m : Pat} (h : meet p q = some m) (s : List UInt8) : ((matchP p s).isSome && (matchP q s).isSome) = (matchP m s).isSome := by
  have := meet_match p q s
  rw [h] at this
  exact this
theorem meet_none {p q : Pat} (h : meet p q = none) (s : List UInt8) : ((matchP p s).isSome && (matchP q s).isSome) = false := by
  have := meet_match p q s
  rw [h] at this
  exact this
theorem meet_checks {p q m : Pat} (h : meet p q = some m) : check p = 0 ∧ check q = 0 ∧ check m = 0 := by
  refine ⟨?_, ?_, meet_ok h⟩
  · unfold meet at h
    split at h
    · rename_i h0; exact h0.1
    · cases h
  · unfold meet at h
    split at h
    · rename_i h0; exact h0.2
    · cases h
theorem meet_within {p q m : Pat} (h : meet p q = some m) : within m p = true ∧ within m q = true := by
  obtain ⟨hp, hq, hm⟩ := meet_checks h
  refine ⟨within_of_all hm hp fun s hs => ?_, within_of_all hm hq fun s hs => ?_⟩
  · rw [← meet_some h, Bool.and_eq_true] at hs; exact hs.1
  · rw [← meet_some h, Bool.and_eq_true] at hs; exact hs.2
theorem meet_self {p m : Pat} (h : within m p = true) : meet p m = some m := by
  obtain ⟨hm, hp, _, _⟩ := within_parts h
  cases hx : meet p m with
  | none =>
    obtain ⟨s, hs⟩ := some_path hm
    have := meet_none hx s
    rw [hs, within_match h hs] at this
    cases this
  | some x =>
    congr 1
    refine pat_ext (meet_ok hx) hm fun s => ?_
    rw [← meet_some hx]
    cases hs : (matchP m s).isSome with
    | false => simp
    | true => rw [within_match h hs]; rfl
theorem bind_within {p q : Pat} (h : within q p = true) : ∃ l, bind p q = some l ∧ substErr p l = 0 ∧ subst p l = q := by
  unfold bind
  rw [if_pos h]
  refine ⟨_, rfl, narrow_bind ?_⟩
  unfold bind
  rw [if_pos h]
theorem meet_comm {p q : Pat} : meet p q = meet q p := by
  have hw : ∀ {a b m : Pat}, meet a b = some m → meet b a = some m := fun {a b m} h => by
    obtain ⟨ha, hb, hm⟩ := meet_checks h
    cases hx : meet b a with
    | none =>
      obtain ⟨s, hs⟩ := some_path hm
      have h1 := meet_some h s
      have h2 := meet_none hx s
      rw [Bool.and_comm, h1, hs] at h2
      cases h2
    | some x =>
      congr 1
      refine pat_ext (meet_ok hx) hm fun s => ?_
      rw [← meet_some hx, ← meet_some h, Bool.and_comm]
  cases hx : meet p q with
  | some m => rw [hw hx]
  | none =>
    cases hy : meet q p with
    | none => rfl
    | some m => rw [hw hy] at hx; cases hx

theorem same_caps {p q : Pat} {C : List (List UInt8)} (h1 : stars p.parts = stars q.parts) (h2 : p.rest = q.rest) (hq : check q = 0) (h : fillErr p C = 0) : fillErr q C = 0 := by
  obtain ⟨_, a2, a3, a4⟩ := capsOk_iff.1 h
  refine capsOk_iff.2 ⟨hq, ?_, ?_, ?_⟩
  · rw [a2]; unfold wilds; rw [h1, h2]
  · rw [← h1]; exact a3
  · rw [← h1, ← h2]; exact a4
theorem fwd_some {r : Rul} {s t : List UInt8} : fwd r s = some t ↔ rcheck r = 0 ∧ ∃ C, matchP r.left s = some C ∧ matchP r.right t = some C := by
  unfold fwd
  constructor
  · intro h
    split at h
    · rename_i hc
      refine ⟨hc, ?_⟩
      split at h
      · cases h
      · rename_i C hC
        split at h
        · rename_i hf
          injection h with h
          subst h
          exact ⟨C, hC, match_fill hf⟩
        · cases h
    · cases h
  · rintro ⟨hc, C, h1, h2⟩
    obtain ⟨f1, f2⟩ := fill_match h2
    rw [if_pos hc, h1]
    simp only
    rw [if_pos f1, f2]
theorem fwd_turn {r : Rul} {s t : List UInt8} : fwd r s = some t ↔ fwd (turnR r) t = some s := by
  rw [fwd_some, fwd_some]
  constructor
  · rintro ⟨h, C, h1, h2⟩
    exact ⟨turn_check h, C, h2, h1⟩
  · rintro ⟨h, C, h1, h2⟩
    exact ⟨turn_check h, C, h2, h1⟩
theorem fwd_match {r : Rul} (hc : rcheck r = 0) (s : List UInt8) : (fwd r s).isSome = (matchP r.left s).isSome := by
  cases h : matchP r.left s with
  | none =>
    unfold fwd
    rw [if_pos hc, h]
    rfl
  | some C =>
    obtain ⟨_, c2, c3, c4⟩ := rcheck_zero.1 hc
    unfold fwd
    rw [if_pos hc, h]
    simp only
    rw [if_pos (same_caps c3 c4 c2 (fill_match h).1)]
    rfl
theorem fwd_back {r : Rul} {s t : List UInt8} (h : fwd r s = some t) : (matchP r.left s).isSome = true ∧ (matchP r.right t).isSome = true := by
  obtain ⟨_, C, h1, h2⟩ := fwd_some.1 h
  rw [h1, h2]
  exact ⟨rfl, rfl⟩
theorem opt_ext {α : Type} {a b : Option α} (h : ∀ x, a = some x ↔ b = some x) : a = b := by
  cases ha : a with
  | none =>
    cases hb : b with
    | none => rfl
    | some x => rw [(h x).2 hb] at ha; cases ha
  | some x => rw [(h x).1 ha]
theorem rul_ext {a b : Rul} (ha : rcheck a = 0) (hb : rcheck b = 0) (he : a.ex = b.ex) (h : ∀ s, fwd a s = fwd b s) : a = b := by
  obtain ⟨a1, a2, _, _⟩ := rcheck_zero.1 ha
  obtain ⟨b1, b2, _, _⟩ := rcheck_zero.1 hb
  have hl : a.left = b.left := pat_ext a1 b1 fun s => by rw [← fwd_match ha, ← fwd_match hb, h]
  have hr : a.right = b.right := pat_ext a2 b2 fun t => by
    have ea := fwd_match (turn_check ha) t
    have eb := fwd_match (turn_check hb) t
    rw [show a.right = (turnR a).left from rfl, show b.right = (turnR b).left from rfl, ← ea, ← eb]
    congr 1
    refine opt_ext fun x => ?_
    rw [← fwd_turn, ← fwd_turn, h]
  obtain ⟨e1, l1, r1⟩ := a
  obtain ⟨e2, l2, r2⟩ := b
  simp only at he hl hr
  rw [he, hl, hr]

/-- How many wildcards a narrowed pattern has. -/
theorem subst_kinds {p q : Pat} {l : List Pat} (hp : substErr p l = 0) (hq : substErr q l = 0) (hs : stars p.parts = stars q.parts) (hr : p.rest = q.rest) :
    stars (subst p l).parts = stars (subst q l).parts ∧ (subst p l).rest = (subst q l).rest := by
  obtain ⟨p1, _, p3, p4, _, p6, p7⟩ := subst_form hp
  obtain ⟨q1, _, q3, q4, _, q6, q7⟩ := subst_form hq
  rw [p7, q7, p6, q6, stars_append, stars_append, stars_fills (form_parts (check_ok.1 p1).1) p3 p4.symm, stars_fills (form_parts (check_ok.1 q1).1) q3 q4.symm, hs, hr]
  exact ⟨rfl, rfl⟩
theorem nleft_form {r n : Rul} {p : Pat} (h : nleft r p = some n) : rcheck r = 0 ∧ check p = 0 ∧ ∃ m l, meet r.left p = some m ∧ bind r.left m = some l ∧ substErr r.left l = 0 ∧ subst r.left l = m ∧ substErr r.right l = 0 ∧ n = ⟨false, m, subst r.right l⟩ ∧ rcheck n = 0 := by
  unfold nleft at h
  split at h
  · rename_i hr
    split at h
    · rename_i hp
      split at h
      · cases h
      · rename_i m hm
        obtain ⟨l, hb, h1, h2⟩ := bind_within (meet_within hm).1
        rw [hb] at h
        simp only [Option.getD_some] at h
        split at h
        · rename_i hs
          injection h with h
          subst h
          obtain ⟨_, _, c3, c4⟩ := rcheck_zero.1 hr
          have hk := subst_kinds h1 hs c3 c4
          rw [h2] at hk
          exact ⟨hr, hp, m, l, hm, hb, h1, h2, hs, rfl, rcheck_zero.2 ⟨meet_ok hm, subst_check hs, hk⟩⟩
        · cases h
    · cases h
  · cases h
theorem nleft_sub {r n : Rul} {p : Pat} (h : nleft r p = some n) {s t : List UInt8} (hf : fwd n s = some t) : fwd r s = some t ∧ (matchP p s).isSome = true := by
  obtain ⟨hr, hp, m, l, hm, hb, h1, h2, h3, rfl, hc⟩ := nleft_form h
  obtain ⟨_, C, g1, g2⟩ := fwd_some.1 hf
  simp only at g1 g2
  obtain ⟨_, _, c3, c4⟩ := rcheck_zero.1 hr
  have hms := meet_some hm s
  rw [g1, Option.isSome_some, Bool.and_eq_true] at hms
  refine ⟨fwd_some.2 ⟨hr, app (stars r.left.parts) r.left.rest l C, ?_, ?_⟩, hms.2⟩
  · obtain ⟨f1, f2⟩ := fill_match g1
    rw [← h2] at f1 f2
    obtain ⟨k1, k2⟩ := fill_subst h1 f1
    have := match_fill k1
    rw [k2, f2] at this
    exact this
  · obtain ⟨f1, f2⟩ := fill_match g2
    obtain ⟨k1, k2⟩ := fill_subst h3 f1
    have := match_fill k1
    rw [k2, f2] at this
    rw [c3, c4]
    exact this
theorem nleft_fwd {r n : Rul} {p : Pat} (h : nleft r p = some n) (s : List UInt8) : fwd n s = if (matchP p s).isSome = true then fwd r s else none := by
  refine opt_ext fun t => ?_
  constructor
  · intro hf
    obtain ⟨h1, h2⟩ := nleft_sub h hf
    rw [if_pos h2, h1]
  · intro hf
    split at hf
    · rename_i hp
      obtain ⟨hr, _, m, l, hm, _, _, _, _, hn, hc⟩ := nleft_form h
      have hms := meet_some hm s
      rw [hp, (fwd_back hf).1] at hms
      have he := fwd_match hc s
      rw [hn] at he
      simp only at he
      rw [← hms] at he
      obtain ⟨t', ht⟩ := Option.isSome_iff_exists.1 he
      rw [← hn] at ht
      have := (nleft_sub h ht).1
      rw [hf] at this
      rw [ht, this]
    · cases hf
theorem nright_form {r n : Rul} {p : Pat} (h : nright r p = some n) : ∃ n', nleft (turnR r) p = some n' ∧ n = turnR n' := by
  unfold nright at h
  cases hx : nleft (turnR r) p with
  | none => rw [hx] at h; cases h
  | some n' =>
    rw [hx] at h
    injection h with h
    exact ⟨n', rfl, h.symm⟩
theorem nright_fwd {r n : Rul} {p : Pat} (h : nright r p = some n) {s t : List UInt8} : fwd n s = some t ↔ fwd r s = some t ∧ (matchP p t).isSome = true := by
  obtain ⟨n', hn, rfl⟩ := nright_form h
  rw [← fwd_turn, nleft_fwd hn, fwd_turn (r := r)]
  constructor
  · intro hf
    split at hf
    · rename_i hp; exact ⟨hf, hp⟩
    · cases hf
  · rintro ⟨h1, h2⟩
    rw [if_pos h2]
    exact h1
theorem nleft_none {r : Rul} {p : Pat} (h : nleft r p = none) (he : nleftE r p = 0) (s : List UInt8) : (matchP r.left s).isSome = true → (matchP p s).isSome = false := by
  unfold nleft at h
  unfold nleftE at he
  by_cases hr : rcheck r = 0
  · by_cases hp : check p = 0
    · rw [if_pos hr, if_pos hp] at h he
      cases hm : meet r.left p with
      | none =>
        intro hs
        have := meet_none hm s
        rw [hs] at this
        simpa using this
      | some m =>
        rw [hm] at h he
        simp only at h he
        split at h
        · cases h
        · rename_i hx
          rw [if_neg hx] at he
          cases he
    · rw [if_pos hr, if_neg hp] at he
      exact absurd he hp
  · rw [if_neg hr] at he
    exact absurd he hr
theorem nleft_says {r : Rul} {p : Pat} (he : nleftE r p = 0) (s : List UInt8) : (nleft r p).bind (fun n => fwd n s) = if (matchP p s).isSome = true then fwd r s else none := by
  cases h : nleft r p with
  | some n => exact nleft_fwd h s
  | none =>
    have := nleft_none h he s
    split
    · rename_i hp
      cases hf : fwd r s with
      | none => rfl
      | some t =>
        rw [this (fwd_back hf).1] at hp
        cases hp
    · rfl
theorem nleftE_zero {r : Rul} {p : Pat} (he : nleftE r p = 0) : rcheck r = 0 ∧ check p = 0 := by
  unfold nleftE at he
  split at he
  · rename_i hr
    split at he
    · rename_i hp; exact ⟨hr, hp⟩
    · rename_i hp; exact absurd he hp
  · rename_i hr; exact absurd he hr
theorem nleft_some_E {r n : Rul} {p : Pat} (h : nleft r p = some n) : nleftE r p = 0 := by
  obtain ⟨hr, hp, m, l, hm, hb, _, _, hs, _, _⟩ := nleft_form h
  unfold nleftE
  rw [if_pos hr, if_pos hp, hm]
  show (if substErr r.right ((bind r.left m).getD []) = 0 then 0 else 43) = 0
  rw [hb, Option.getD_some, if_pos hs]

/-! ### Composition -/

theorem chain_form {a b c : Rul} (h : chain a b = some c) : rcheck a = 0 ∧ rcheck b = 0 ∧ ∃ x y m, meet a.right b.left = some m ∧ nright a b.left = some x ∧ nleft b m = some y ∧ x.right = m ∧ y.left = m ∧ rcheck x = 0 ∧ rcheck y = 0 ∧ c = ⟨false, x.left, y.right⟩ ∧ rcheck c = 0 := by
  unfold chain at h
  split at h
  · rename_i h0
    split at h
    · cases h
    · rename_i x hx
      split at h
      · cases h
      · rename_i y hy
        injection h with h
        subst h
        obtain ⟨n', hn, rfl⟩ := nright_form hx
        obtain ⟨_, _, m, l, hm, _, _, _, _, hnn, hcn⟩ := nleft_form hn
        have hxr : (turnR n').right = m := by rw [hnn]; rfl
        rw [hxr] at hy
        obtain ⟨_, _, m2, l2, hm2, _, _, _, _, hyy, hcy⟩ := nleft_form hy
        have hmm : m2 = m := by
          have := meet_self (meet_within hm).2
          rw [this] at hm2
          injection hm2 with e
          exact e.symm
        have hyl : y.left = m := by rw [hyy]; exact hmm
        have hcx := turn_check hcn
        obtain ⟨x1, x2, x3, x4⟩ := rcheck_zero.1 hcx
        obtain ⟨y1, y2, y3, y4⟩ := rcheck_zero.1 hcy
        rw [hxr] at x3 x4
        rw [hyl] at y3 y4
        exact ⟨h0.1, h0.2, turnR n', y, m, hm, hx, hy, hxr, hyl, hcx, hcy, rfl, rcheck_zero.2 ⟨x1, y2, x3.trans y3, x4.trans y4⟩⟩
  · cases h
theorem chain_fwd {a b c : Rul} (h : chain a b = some c) (s : List UInt8) : fwd c s = (fwd a s).bind (fwd b) := by
  obtain ⟨ha, hb, x, y, m, hm, hx, hy, hxr, hyl, hcx, hcy, rfl, hcc⟩ := chain_form h
  refine opt_ext fun z => ?_
  rw [Option.bind_eq_some_iff]
  constructor
  · intro hf
    obtain ⟨_, C, g1, g2⟩ := fwd_some.1 hf
    simp only at g1 g2
    obtain ⟨x1, x2, x3, x4⟩ := rcheck_zero.1 hcx
    have hf := same_caps x3 x4 x2 (fill_match g1).1
    have hmm := match_fill hf
    have e1 : fwd x s = some (filled x.right C) := fwd_some.2 ⟨hcx, C, g1, hmm⟩
    have e2 : fwd y (filled x.right C) = some z := fwd_some.2 ⟨hcy, C, by rw [hyl, ← hxr]; exact hmm, g2⟩
    refine ⟨_, (nright_fwd hx).1 e1 |>.1, ?_⟩
    exact (nleft_sub hy e2).1
  · rintro ⟨t, h1, h2⟩
    have h3 := (fwd_back h1).2
    have h4 := (fwd_back h2).1
    have h5 := meet_some hm t
    rw [h3, h4] at h5
    have e1 : fwd x s = some t := (nright_fwd hx).2 ⟨h1, h4⟩
    have e2 : fwd y t = some z := by rw [nleft_fwd hy, if_pos (show (matchP m t).isSome = true from h5.symm)]; exact h2
    obtain ⟨_, C, g1, g2⟩ := fwd_some.1 e1
    obtain ⟨_, D, g3, g4⟩ := fwd_some.1 e2
    rw [hxr] at g2
    rw [hyl, g2] at g3
    injection g3 with g3
    subst g3
    exact fwd_some.2 ⟨hcc, C, g1, g4⟩
theorem chain_none {a b : Rul} (h : chain a b = none) (he : chainE a b = 0) (s : List UInt8) : (fwd a s).bind (fwd b) = none := by
  unfold chainE at he
  unfold chain at h
  split at he
  · rename_i ha
    split at he
    · rename_i hb
      rw [if_pos ⟨ha, hb⟩] at h
      have hno : (∀ t, (matchP a.right t).isSome = true → (matchP b.left t).isSome = false) → (fwd a s).bind (fwd b) = none := fun hn => by
        cases h1 : fwd a s with
        | none => rfl
        | some t =>
          cases h2 : fwd b t with
          | none => simpa using h2
          | some z =>
            have := hn t (fwd_back h1).2
            rw [(fwd_back h2).1] at this
            cases this
      split at he
      · rename_i hx
        rw [nrightE, if_pos ha] at he
        unfold nright at hx
        simp only [Option.map_eq_none_iff] at hx
        exact hno (nleft_none hx he)
      · rename_i x hx
        rw [hx] at h
        simp only at h
        split at h
        · rename_i hy
          obtain ⟨n', hn, rfl⟩ := nright_form hx
          obtain ⟨_, _, m, l, hm, _, _, _, _, hnn, hcn⟩ := nleft_form hn
          have hxr : (turnR n').right = m := by rw [hnn]; rfl
          refine hno fun t ht => ?_
          cases hbt : (matchP b.left t).isSome with
          | false => rfl
          | true =>
            have h5 := meet_some hm t
            rw [hbt, show (turnR a).left = a.right from rfl, ht] at h5
            have := nleft_none hy he t hbt
            rw [hxr, ← h5] at this
            cases this
        · cases h
    · rename_i hb; exact absurd he hb
  · rename_i ha; exact absurd he ha
/-- The composition relates what the two lines relate, one behind the other. -/
theorem chain_says {a b : Rul} (he : chainE a b = 0) (s : List UInt8) : (chain a b).bind (fun c => fwd c s) = (fwd a s).bind (fwd b) := by
  cases h : chain a b with
  | some c => exact chain_fwd h s
  | none => exact (chain_none h he s).symm
theorem nright_mid {a : Rul} {p m : Pat} (ha : rcheck a = 0) (hm : meet a.right p = some m) : nright a m = nright a p ∧ nrightE a m = nrightE a p := by
  obtain ⟨_, hp, hmc⟩ := meet_checks hm
  have hs := meet_self (meet_within hm).1
  have ht := turn_check ha
  unfold nright nrightE nleft nleftE
  rw [if_pos ht, if_pos ht, if_pos hp, if_pos hmc, if_pos hp, if_pos hmc, show (turnR a).left = a.right from rfl, hm, hs]
  exact ⟨rfl, rfl⟩
theorem chain_ref (a b : Rul) : chainR a b = chain a b ∧ chainRE a b = chainE a b := by
  unfold chainR chain chainRE chainE
  by_cases ha : rcheck a = 0
  · by_cases hb : rcheck b = 0
    · rw [if_pos ⟨ha, hb⟩, if_pos ⟨ha, hb⟩, if_pos ha, if_pos hb, if_pos ha, if_pos hb]
      have hbl := (rcheck_zero.1 hb).1
      have ht := turn_check ha
      cases hm : meet a.right b.left with
      | none =>
        have hx : nright a b.left = none := by
          unfold nright nleft
          rw [if_pos ht, if_pos hbl, show (turnR a).left = a.right from rfl, hm]
          rfl
        have he : nrightE a b.left = 0 := by
          unfold nrightE nleftE
          rw [if_pos ha, if_pos ht, if_pos hbl, show (turnR a).left = a.right from rfl, hm]
        rw [hx, he]
        exact ⟨rfl, rfl⟩
      | some m =>
        obtain ⟨e1, e2⟩ := nright_mid ha hm
        simp only
        rw [e1]
        cases hx : nright a b.left with
        | none =>
          have he : nrightE a b.left = 43 := by
            unfold nright nleft at hx
            unfold nrightE nleftE
            rw [if_pos ht, if_pos hbl, show (turnR a).left = a.right from rfl, hm] at hx
            rw [if_pos ha, if_pos ht, if_pos hbl, show (turnR a).left = a.right from rfl, hm]
            simp only at hx ⊢
            split at hx
            · cases hx
            · rename_i h0
              rw [if_neg h0]
          rw [he]
          exact ⟨rfl, rfl⟩
        | some x =>
          obtain ⟨n', hn, rfl⟩ := nright_form hx
          obtain ⟨_, _, m', l, hm', _, _, _, _, hnn, hcn⟩ := nleft_form hn
          have hmm : m' = m := by
            rw [show (turnR a).left = a.right from rfl, hm] at hm'
            injection hm' with e
            exact e.symm
          have hxr : (turnR n').right = m := by rw [hnn]; exact hmm
          simp only [hxr]
          have hs := meet_self (meet_within hm).2
          have hmc := meet_ok hm
          cases hy : nleft b m with
          | none =>
            have he : nleftE b m = 43 := by
              unfold nleft at hy
              unfold nleftE
              rw [if_pos hb, if_pos hmc, hs] at hy ⊢
              simp only at hy ⊢
              split at hy
              · cases hy
              · rename_i h0
                rw [if_neg h0]
            rw [he]
            exact ⟨rfl, rfl⟩
          | some y =>
            rw [nleft_some_E hy]
            exact ⟨rfl, rfl⟩
    · have hn : ¬ (rcheck a = 0 ∧ rcheck b = 0) := fun h => hb h.2
      rw [if_neg hn, if_neg hn, if_pos ha, if_neg hb, if_pos ha, if_neg hb]
      exact ⟨rfl, rfl⟩
  · have hn : ¬ (rcheck a = 0 ∧ rcheck b = 0) := fun h => ha h.1
    rw [if_neg hn, if_neg hn, if_neg ha, if_neg ha]
    exact ⟨rfl, rfl⟩
theorem chain_ex {a b c : Rul} (h : chain a b = some c) : c.ex = false := by
  obtain ⟨_, _, x, y, m, _, _, _, _, _, _, _, rfl, _⟩ := chain_form h
  rfl
theorem chain_ok {a b c : Rul} (h : chain a b = some c) : rcheck c = 0 := by
  obtain ⟨_, _, x, y, m, _, _, _, _, _, _, _, _, hc⟩ := chain_form h
  exact hc
theorem line_path {c : Rul} (h : rcheck c = 0) : ∃ s t, fwd c s = some t := by
  obtain ⟨s, hs⟩ := some_path (rcheck_zero.1 h).1
  rw [← fwd_match h] at hs
  obtain ⟨t, ht⟩ := Option.isSome_iff_exists.1 hs
  exact ⟨s, t, ht⟩
/-- Three lines in either order. -/
theorem chain_assoc {a b c : Rul} (h1 : chainE a b = 0) (h2 : chainE b c = 0) (h3 : ∀ x, chain a b = some x → chainE x c = 0) (h4 : ∀ y, chain b c = some y → chainE a y = 0) :
    (chain a b).bind (fun x => chain x c) = (chain b c).bind (fun y => chain a y) := by
  have hl : ∀ s, ((chain a b).bind (fun x => chain x c)).bind (fun l => fwd l s) = ((fwd a s).bind (fwd b)).bind (fwd c) := fun s => by
    rw [← chain_says h1]
    cases hx : chain a b with
    | none => rfl
    | some x => exact chain_says (h3 x hx) s
  have hr : ∀ s, ((chain b c).bind (fun y => chain a y)).bind (fun l => fwd l s) = ((fwd a s).bind (fwd b)).bind (fwd c) := fun s => by
    have e : (fun t => (fwd b t).bind (fwd c)) = fun t => (chain b c).bind (fun y => fwd y t) := funext fun t => (chain_says h2 t).symm
    rw [show ((fwd a s).bind (fwd b)).bind (fwd c) = (fwd a s).bind fun t => (fwd b t).bind (fwd c) from Option.bind_assoc _ _ _, e]
    cases hy : chain b c with
    | none =>
      cases fwd a s <;> rfl
    | some y => exact chain_says (h4 y hy) s
  have hc1 : ∀ l, (chain a b).bind (fun x => chain x c) = some l → rcheck l = 0 ∧ l.ex = false := fun l hl => by
    rw [Option.bind_eq_some_iff] at hl
    obtain ⟨x, _, hx⟩ := hl
    exact ⟨chain_ok hx, chain_ex hx⟩
  have hc2 : ∀ l, (chain b c).bind (fun y => chain a y) = some l → rcheck l = 0 ∧ l.ex = false := fun l hl => by
    rw [Option.bind_eq_some_iff] at hl
    obtain ⟨x, _, hx⟩ := hl
    exact ⟨chain_ok hx, chain_ex hx⟩
  generalize (chain a b).bind (fun x => chain x c) = L at hl hc1 ⊢
  generalize (chain b c).bind (fun y => chain a y) = R at hr hc2 ⊢
  cases L with
  | none =>
    cases R with
    | none => rfl
    | some r =>
      obtain ⟨s, t, hs⟩ := line_path (hc2 r rfl).1
      have e1 := hl s
      have e2 := hr s
      rw [← e1] at e2
      simp only [Option.bind_some, Option.bind_none] at e2
      rw [hs] at e2
      cases e2
  | some l =>
    cases R with
    | none =>
      obtain ⟨s, t, hs⟩ := line_path (hc1 l rfl).1
      have e1 := hl s
      have e2 := hr s
      rw [← e2] at e1
      simp only [Option.bind_some, Option.bind_none] at e1
      rw [hs] at e1
      cases e1
    | some r =>
      congr 1
      refine rul_ext (hc1 l rfl).1 (hc2 r rfl).1 ((hc1 l rfl).2.trans (hc2 r rfl).2.symm) fun s => ?_
      have e1 := hl s
      have e2 := hr s
      simp only [Option.bind_some] at e1 e2
      rw [e1, e2]
end Go.Proofs.YtembmegllpkmfaaGreatDoor.Pt

namespace Go.Proofs.YtembmegllpkmfaaGreatDoor.Pt
open Go

def szs (N : Nat) (p : Pat) : Prop := ∀ x ∈ p.parts, x.length ≤ N
theorem szs.more {N M : Nat} {p : Pat} (h : szs N p) (hm : N ≤ M) : szs M p := fun x hx => Nat.le_trans (h x hx) hm
theorem szs_none (N : Nat) : szs N none_ := fun x hx => by cases hx
theorem meetOf_sizes {N : Nat} : ∀ {ps qs ms : List (List UInt8)}, (∀ x ∈ ps, x.length ≤ N) → (∀ x ∈ qs, x.length ≤ N) → meetOf ps qs = some ms → ∀ x ∈ ms, x.length ≤ N
  | ps, [], ms, hp, _, h => by
    rw [meetOf_nil] at h
    injection h with h
    subst h
    exact hp
  | [], _ :: _, _, _, _, h => by cases h
  | x :: ps, y :: qs, ms, hp, hq, h => by
    rw [meetOf_cons] at h
    have ih := fun r hr => meetOf_sizes (ps := ps) (qs := qs) (ms := r) (fun z hz => hp z (List.mem_cons_of_mem _ hz)) (fun z hz => hq z (List.mem_cons_of_mem _ hz)) hr
    split at h
    · simp only [Option.map_eq_some_iff] at h
      obtain ⟨r, hr, rfl⟩ := h
      intro z hz
      rcases List.mem_cons.1 hz with rfl | hz
      · exact hp _ (by simp)
      · exact ih r hr z hz
    · split at h
      · simp only [Option.map_eq_some_iff] at h
        obtain ⟨r, hr, rfl⟩ := h
        intro z hz
        rcases List.mem_cons.1 hz with rfl | hz
        · exact hq _ (by simp)
        · exact ih r hr z hz
      · cases h
theorem meetLong_sizes {N : Nat} {p q m : Pat} (hp : szs N p) (hq : szs N q) (h : meetLong p q = some m) : szs N m := by
  unfold meetLong at h
  split at h
  · cases h
  · simp only [Option.map_eq_some_iff] at h
    obtain ⟨r, hr, rfl⟩ := h
    exact meetOf_sizes hp hq hr
theorem meet_sizes {N : Nat} {p q m : Pat} (hp : szs N p) (hq : szs N q) (h : meet p q = some m) : szs N m := by
  unfold meet at h
  split at h
  · split at h
    · exact meetLong_sizes hq hp h
    · exact meetLong_sizes hp hq h
  · cases h
theorem bindOf_sizes {N : Nat} : ∀ {ps qs : List (List UInt8)}, (∀ x ∈ qs, x.length ≤ N) → ∀ b ∈ bindOf ps qs, szs N b ∧ b.parts.length = 1
  | [], qs, _, b, h => by
    have : bindOf [] qs = [] := by cases qs <;> rfl
    rw [this] at h
    cases h
  | x :: ps, [], _, b, h => by
    have : bindOf (x :: ps) [] = [] := rfl
    rw [this] at h
    cases h
  | x :: ps, y :: qs, hq, b, h => by
    have ih := bindOf_sizes (ps := ps) (qs := qs) (fun z hz => hq z (List.mem_cons_of_mem _ hz))
    cases hs : star x with
    | none => rw [bindOf_comp _ _ _ hs] at h; exact ih b h
    | some s =>
      rw [bindOf_star _ _ _ hs] at h
      rcases List.mem_cons.1 h with rfl | h
      · refine ⟨fun z hz => ?_, rfl⟩
        simp only [List.mem_singleton] at hz
        subst hz
        rw [List.length_take]
        have := hq y (by simp)
        omega
      · exact ih b h
theorem bind_sizes {N : Nat} {p q : Pat} {l : List Pat} (hq : szs N q) (h : bind p q = some l) : ∀ b ∈ l, szs N b ∧ b.parts.length ≤ 12 := by
  unfold bind at h
  split at h
  · rename_i hw
    have h12 := (check_ok.1 (within_parts hw).1).2
    injection h with h
    subst h
    intro b hb
    rcases List.mem_append.1 hb with hb | hb
    · have := bindOf_sizes hq b hb
      exact ⟨this.1, by omega⟩
    · split at hb
      · simp only [List.mem_singleton] at hb
        subst hb
        refine ⟨fun z hz => hq z (List.mem_of_mem_drop hz), ?_⟩
        simp only [List.length_drop]
        omega
      · cases hb
  · cases h
theorem fillsOf_sizes {N M : Nat} : ∀ {ps cs : List (List UInt8)}, (∀ x ∈ ps, x.length ≤ N) → (∀ x ∈ cs, x.length ≤ M) → ∀ z ∈ fillsOf ps cs, z.length ≤ N + M
  | [], _, _, _, z, hz => by cases hz
  | x :: ps, cs, h1, h2, z, hz => by
    cases hs : star x with
    | none =>
      rw [fillsOf_comp _ _ hs] at hz
      rcases List.mem_cons.1 hz with rfl | hz
      · have := h1 z (by simp); omega
      · exact fillsOf_sizes (fun z hz => h1 z (List.mem_cons_of_mem _ hz)) h2 z hz
    | some s =>
      rw [fillsOf_star _ _ hs] at hz
      rcases List.mem_cons.1 hz with rfl | hz
      · have h3 := h1 x (by simp)
        rw [(star_some.1 hs).1, List.length_cons] at h3
        rw [List.length_append]
        have h4 : (cs.headD []).length ≤ M := by
          cases cs with
          | nil => simp
          | cons c r => exact h2 c (by simp)
        omega
      · exact fillsOf_sizes (fun z hz => h1 z (List.mem_cons_of_mem _ hz)) (fun z hz => h2 z (List.mem_of_mem_drop hz)) z hz
theorem subst_sizes {N M : Nat} {p : Pat} {l : List Pat} (hp : szs N p) (hl : ∀ b ∈ l, szs M b) : szs (N + M) (subst p l) := by
  by_cases h : substErr p l = 0
  · rw [subst_val h]
    intro x hx
    simp only at hx
    rcases List.mem_append.1 hx with hx | hx
    · refine fillsOf_sizes (N := N) (M := M) hp (fun y hy => ?_) x hx
      obtain ⟨b, hb, rfl⟩ := List.mem_map.1 hy
      cases hbp : b.parts with
      | nil => simp
      | cons c r => exact hl b hb c (by rw [hbp]; simp)
    · split at hx
      · have hm : ∀ b ∈ l ++ [none_], szs M b := fun b hb => by
          rcases List.mem_append.1 hb with hb | hb
          · exact hl b hb
          · rw [List.mem_singleton.1 hb]; exact szs_none M
        have : l.getD (stars p.parts) none_ ∈ l ++ [none_] := by
          rw [List.getD_eq_getElem?_getD]
          cases hg : l[stars p.parts]? with
          | none => simp
          | some b => exact List.mem_append_left _ (List.mem_of_getElem? hg)
        have := hm _ this x hx
        omega
      · cases hx
  · unfold subst
    rw [if_neg h]
    exact (szs_none _)
theorem nleft_sizes {N M : Nat} {r n : Rul} {p : Pat} (h : nleft r p = some n) (hl : szs N r.left) (hp : szs N p) (hr : szs M r.right) : szs N n.left ∧ szs (M + N) n.right := by
  obtain ⟨_, _, m, l, hm, hb, _, _, _, rfl, _⟩ := nleft_form h
  have hms := meet_sizes hl hp hm
  exact ⟨hms, subst_sizes hr fun b hb' => (bind_sizes hms hb b hb').1⟩
end Go.Proofs.YtembmegllpkmfaaGreatDoor.Pt

namespace Go.Proofs.YtembmegllpkmfaaGreatDoor.Pt
open Go

/-- What a list of parts captures, parted at one of its parts; and another part, and others behind it, may stand there. -/
theorem caps_split : ∀ {us : List (List UInt8)} {x : List UInt8} {vs l C : List (List UInt8)}, capsOf (us ++ x :: vs) l = some C →
    ∃ l1 c l2 C1 y C2, l = l1 ++ c :: l2 ∧ l1.length = us.length ∧ C1.length = stars us ∧ capture x c = some y ∧ capsOf vs l2 = some C2 ∧
      C = C1 ++ ((if isStar x then [y] else []) ++ C2) ∧
      ∀ x' y' vs' C2', capture x' c = some y' → capsOf vs' l2 = some C2' → capsOf (us ++ x' :: vs') l = some (C1 ++ ((if isStar x' then [y'] else []) ++ C2'))
  | [], x, vs, [], C, h => by simp [capsOf] at h
  | [], x, vs, c :: l2, C, h => by
    rw [List.nil_append, capsOf_cons] at h
    cases hc : capture x c with
    | none => rw [hc] at h; cases h
    | some y =>
      rw [hc] at h
      simp only at h
      cases h2 : capsOf vs l2 with
      | none => rw [h2] at h; cases h
      | some C2 =>
        rw [h2] at h
        simp only [Option.map_some, Option.some.injEq] at h
        refine ⟨[], c, l2, [], y, C2, rfl, rfl, rfl, hc, h2, ?_, ?_⟩
        · rw [← h]; by_cases hx : isStar x = true <;> simp [hx]
        · intro x' y' vs' C2' h3 h4
          rw [List.nil_append, capsOf_cons, h3]
          simp only
          rw [h4]
          by_cases hx : isStar x' = true <;> simp [hx]
  | u :: us, x, vs, [], C, h => by simp [capsOf] at h
  | u :: us, x, vs, d :: l, C, h => by
    rw [List.cons_append, capsOf_cons] at h
    cases hc : capture u d with
    | none => rw [hc] at h; cases h
    | some z =>
      rw [hc] at h
      simp only at h
      cases h2 : capsOf (us ++ x :: vs) l with
      | none => rw [h2] at h; cases h
      | some C0 =>
        rw [h2] at h
        simp only [Option.map_some, Option.some.injEq] at h
        obtain ⟨l1, c, l2, C1, y, C2, e1, e2, e3, e4, e5, e6, e7⟩ := caps_split h2
        refine ⟨d :: l1, c, l2, (if isStar u then z :: C1 else C1), y, C2, by rw [e1]; rfl, by simp [e2], ?_, e4, e5, ?_, ?_⟩
        · rw [stars_cons]; by_cases hu : isStar u = true <;> simp [hu, e3]
        · rw [← h, e6]; by_cases hu : isStar u = true <;> simp [hu]
        · intro x' y' vs' C2' h3 h4
          have h5 := e7 x' y' vs' C2' h3 h4
          rw [List.cons_append, capsOf_cons, hc]
          simp only
          rw [h5]
          by_cases hu : isStar u = true <;> simp [hu]
theorem capture_none_eq {x c y : List UInt8} (hx : star x = none) (h : capture x c = some y) : x = c := by
  rw [capture_comp hx] at h
  split at h
  · rename_i h2; exact h2
  · cases h
theorem capture_star_eq {x c y s : List UInt8} (hx : star x = some s) (h : capture x c = some y) : c = y ++ s := by
  unfold capture at h
  rw [hx] at h
  simp only at h
  split at h
  · rename_i h2
    obtain ⟨u, hu⟩ := suffix_iff.1 h2.1
    injection h with h
    rw [← h, hu]
    simp
  · cases h
theorem split_same {l1 l1' : List (List UInt8)} {c c' : List UInt8} {l2 l2' : List (List UInt8)} (h : l1 ++ c :: l2 = l1' ++ c' :: l2') (hl : l1.length = l1'.length) : l1 = l1' ∧ c = c' ∧ l2 = l2' := by
  obtain ⟨h1, h2⟩ := List.append_inj h hl
  injection h2 with h3 h4
  exact ⟨h1, h3, h4⟩
/-- Two stars behind equal parts that capture the same of one path have one suffix. -/
theorem stars_same {us : List (List UInt8)} {x y s s' : List UInt8} {vs ws l C : List (List UInt8)} (hx : star x = some s) (hy : star y = some s')
    (h1 : capsOf (us ++ x :: vs) l = some C) (h2 : capsOf (us ++ y :: ws) l = some C) : x = y := by
  obtain ⟨l1, c, l2, C1, z, C2, e1, e2, e3, e4, e5, e6, _⟩ := caps_split h1
  obtain ⟨l1', c', l2', C1', z', C2', f1, f2, f3, f4, f5, f6, _⟩ := caps_split h2
  obtain ⟨_, hc, _⟩ := split_same (e1.symm.trans f1) (e2.trans f2.symm)
  obtain ⟨_, hC⟩ := List.append_inj (e6.symm.trans f6) (e3.trans f3.symm)
  have ix : isStar x = true := by unfold isStar; rw [hx]; rfl
  have iy : isStar y = true := by unfold isStar; rw [hy]; rfl
  rw [if_pos ix, if_pos iy] at hC
  simp only [List.cons_append, List.nil_append] at hC
  injection hC with hz _
  have g1 := capture_star_eq hx e4
  have g2 := capture_star_eq hy f4
  rw [← hc, g1, ← hz] at g2
  have hs := List.append_cancel_left g2
  rw [(star_some.1 hx).1, (star_some.1 hy).1, hs]
/-- A component behind parts stands in whatever they match: so it may be written in place of a star there. -/
theorem comp_there {us : List (List UInt8)} {x y : List UInt8} {vs ws l C D : List (List UInt8)} (hy : star y = none)
    (h1 : capsOf (us ++ x :: vs) l = some C) (h2 : capsOf (us ++ y :: ws) l = some D) : (capture x y).isSome = true ∧ (capsOf (us ++ y :: vs) l).isSome = true := by
  obtain ⟨l1, c, l2, C1, z, C2, e1, e2, e3, e4, e5, e6, e7⟩ := caps_split h1
  obtain ⟨l1', c', l2', C1', z', C2', f1, f2, f3, f4, f5, f6, _⟩ := caps_split h2
  obtain ⟨_, hc, hl⟩ := split_same (e1.symm.trans f1) (e2.trans f2.symm)
  have g := capture_none_eq hy f4
  rw [← hc] at f4 g
  refine ⟨by rw [g, e4]; rfl, ?_⟩
  rw [e7 y z' vs C2 f4 e5]
  rfl
theorem comps_same {us : List (List UInt8)} {x y : List UInt8} {vs ws l C D : List (List UInt8)} (hx : star x = none) (hy : star y = none)
    (h1 : capsOf (us ++ x :: vs) l = some C) (h2 : capsOf (us ++ y :: ws) l = some D) : x = y := by
  have h := (comp_there hy h1 h2).1
  cases hc : capture x y with
  | none => rw [hc] at h; cases h
  | some z => exact capture_none_eq hx hc
/-- Two patterns with one kind of rest that match one path with the same captures: their parts capture the same of it. -/
theorem two_match {p q : Pat} {t : List UInt8} {C : List (List UInt8)} (hr : p.rest = q.rest) (hp : matchP p t = some C) (hq : matchP q t = some C) :
    ∃ l D, pathO t = some l ∧ capsOf p.parts l = some D ∧ capsOf q.parts l = some D ∧ fits p l.length = true ∧ fits q l.length = true ∧ (p.rest = true → Lib.join (l.drop p.parts.length) [47] = Lib.join (l.drop q.parts.length) [47]) := by
  obtain ⟨_, l, cs, h1, h2, h3, h4⟩ := matchP_some.1 hp
  obtain ⟨_, l', cs', g1, g2, g3, g4⟩ := matchP_some.1 hq
  obtain rfl : l = l' := Option.some.inj (h1.symm.trans g1)
  rw [← hr] at g4
  rw [h4] at g4
  cases hpr : p.rest with
  | false =>
    rw [hpr] at g4
    simp only [Bool.false_eq_true, if_false] at g4
    subst g4
    exact ⟨l, cs, h1, h3, g3, h2, g2, fun h => by cases h⟩
  | true =>
    rw [hpr] at g4
    simp only [if_true] at g4
    obtain ⟨e1, e2⟩ := List.append_inj' g4 rfl
    subst e1
    injection e2 with e2 _
    exact ⟨l, cs, h1, h3, g3, h2, g2, fun _ => e2⟩

theorem wanted_check {us : List (List UInt8)} {x y : List UInt8} {vs ws : List (List UInt8)} {r : Bool} (hp : check ⟨us ++ x :: vs, r⟩ = 0) (hq : check ⟨us ++ y :: ws, r⟩ = 0) : check ⟨us ++ y :: vs, r⟩ = 0 := by
  obtain ⟨fp, lp⟩ := check_ok.1 hp
  obtain ⟨fq, lq⟩ := check_ok.1 hq
  refine check_ok.2 ⟨?_, by simpa using lp⟩
  unfold form at fp fq ⊢
  simp only [Bool.and_eq_true, Bool.or_eq_true, decide_eq_true_eq, List.length_append, List.length_cons] at fp fq ⊢
  refine ⟨⟨fp.1.1, ?_⟩, ?_⟩
  · cases us with
    | nil => exact fq.1.2
    | cons u us => exact fp.1.2
  · cases us with
    | nil => exact fp.2
    | cons u us =>
      have h1 := fp.2
      have h2 := fq.2
      simp only [List.cons_append, List.tail_cons, List.all_append, List.all_cons, Bool.and_eq_true] at h1 h2 ⊢
      exact ⟨h1.1, h2.2.1, h1.2.2⟩
/-- Both lines' first unlike parts are stars: no path in common. -/
theorem agree_stars {a b : Rul} {us : List (List UInt8)} {x y s s' : List UInt8} {vs ws : List (List UInt8)} {p t : List UInt8} (hl : a.left = b.left) (ha : a.right.parts = us ++ x :: vs) (hb : b.right.parts = us ++ y :: ws)
    (hx : star x = some s) (hy : star y = some s') (hxy : x ≠ y) (h1 : fwd a p = some t) (h2 : fwd b p = some t) : False := by
  obtain ⟨ca, C, m1, m2⟩ := fwd_some.1 h1
  obtain ⟨cb, C', n1, n2⟩ := fwd_some.1 h2
  rw [hl] at m1
  obtain rfl : C = C' := Option.some.inj (m1.symm.trans n1)
  have hr : a.right.rest = b.right.rest := by rw [← (rcheck_zero.1 ca).2.2.2, ← (rcheck_zero.1 cb).2.2.2, hl]
  obtain ⟨l, D, _, g1, g2, _⟩ := two_match hr m2 n2
  rw [ha] at g1
  rw [hb] at g2
  exact hxy (stars_same hx hy g1 g2)
/-- One of the first unlike parts is a component: common paths have it there. -/
theorem agree_comp {a b : Rul} {us : List (List UInt8)} {x y : List UInt8} {vs ws : List (List UInt8)} {p t : List UInt8} (hl : a.left = b.left) (ha : a.right.parts = us ++ x :: vs) (hb : b.right.parts = us ++ y :: ws)
    (hy : star y = none) (h1 : fwd a p = some t) (h2 : fwd b p = some t) : check ⟨us ++ y :: vs, a.right.rest⟩ = 0 ∧ (matchP ⟨us ++ y :: vs, a.right.rest⟩ t).isSome = true ∧ (star x = none → x = y) := by
  obtain ⟨ca, C, m1, m2⟩ := fwd_some.1 h1
  obtain ⟨cb, C', n1, n2⟩ := fwd_some.1 h2
  rw [hl] at m1
  obtain rfl : C = C' := Option.some.inj (m1.symm.trans n1)
  have hr : a.right.rest = b.right.rest := by rw [← (rcheck_zero.1 ca).2.2.2, ← (rcheck_zero.1 cb).2.2.2, hl]
  obtain ⟨l, D, g0, g1, g2, f1, f2, _⟩ := two_match hr m2 n2
  rw [ha] at g1
  rw [hb] at g2
  have hp : check ⟨us ++ x :: vs, a.right.rest⟩ = 0 := by rw [← ha]; exact (rcheck_zero.1 ca).2.1
  have hq : check ⟨us ++ y :: ws, a.right.rest⟩ = 0 := by rw [← hb, hr]; exact (rcheck_zero.1 cb).2.1
  have hw := wanted_check hp hq
  refine ⟨hw, ?_, fun hx => comps_same hx hy g1 g2⟩
  have h3 := (comp_there hy g1 g2).2
  cases h4 : capsOf (us ++ y :: vs) l with
  | none => rw [h4] at h3; cases h3
  | some E =>
    have h5 : matchP ⟨us ++ y :: vs, a.right.rest⟩ t = some (if a.right.rest then E ++ [Lib.join (l.drop (us ++ y :: vs).length) [47]] else E) := by
      refine matchP_some.2 ⟨hw, l, E, g0, ?_, h4, rfl⟩
      unfold fits at f1 ⊢
      rw [ha] at f1
      simpa using f1
    rw [h5]
    rfl
/-- Equal right parts: one map. -/
theorem agree_same {a b : Rul} (ha : rcheck a = 0) (hb : rcheck b = 0) (hl : a.left = b.left) (h : a.right.parts = b.right.parts) (p : List UInt8) : fwd a p = fwd b p := by
  have hr : a.right = b.right := Pat.ext' h (by rw [← (rcheck_zero.1 ha).2.2.2, ← (rcheck_zero.1 hb).2.2.2, hl])
  refine opt_ext fun t => ?_
  rw [fwd_some, fwd_some, hl, hr]
  simp [ha, hb]

/-- Narrowed to paths that hold all common ones, the lines have the same common paths. -/
theorem agree_narrowed {a b a1 b1 : Rul} {W : Pat} (h1 : nright a W = some a1) (h2 : nleft b a1.left = some b1) (hW : ∀ p t, fwd a p = some t → fwd b p = some t → (matchP W t).isSome = true) (p t : List UInt8) :
    (fwd a1 p = some t ∧ fwd b1 p = some t) ↔ (fwd a p = some t ∧ fwd b p = some t) := by
  constructor
  · rintro ⟨f1, f2⟩
    exact ⟨((nright_fwd h1).1 f1).1, (nleft_sub h2 f2).1⟩
  · rintro ⟨f1, f2⟩
    have g1 := (nright_fwd h1).2 ⟨f1, hW p t f1 f2⟩
    refine ⟨g1, ?_⟩
    rw [nleft_fwd h2, if_pos (fwd_back g1).1]
    exact f2
theorem agree_dead {a b : Rul} {W : Pat} (h1 : nright a W = none) (he : nrightE a W = 0) (hW : ∀ p t, fwd a p = some t → fwd b p = some t → (matchP W t).isSome = true) (p t : List UInt8) (f1 : fwd a p = some t) (f2 : fwd b p = some t) : False := by
  have hr : rcheck a = 0 := (fwd_some.1 f1).1
  unfold nrightE at he
  rw [if_pos hr] at he
  have hn : nleft (turnR a) W = none := by
    unfold nright at h1
    cases hx : nleft (turnR a) W with
    | none => rfl
    | some n => rw [hx] at h1; cases h1
  have g := nleft_none hn he t (fwd_back (fwd_turn.1 f1)).1
  rw [hW p t f1 f2] at g
  cases g
theorem fills_len : ∀ ps C : List (List UInt8), (fillsOf ps C).length = ps.length
  | [], C => by simp [fillsOf]
  | x :: ps, C => by
    unfold fillsOf
    split <;> simp [fills_len ps]
/-- No limit is exceeded where no part is added. -/
theorem nleftE_same {r : Rul} {p m : Pat} (hr : rcheck r = 0) (hp : check p = 0) (hm : meet r.left p = some m) (hl : m.parts.length ≤ r.left.parts.length) : nleftE r p = 0 := by
  obtain ⟨l, hb, h1, h2⟩ := bind_within (meet_within hm).1
  obtain ⟨c1, c2, c3, c4⟩ := rcheck_zero.1 hr
  have e := subst_err r.left l
  rw [h1, if_pos c1] at e
  have hbo : bindsOk r.left l = true := by
    cases hbo : bindsOk r.left l with
    | true => rfl
    | false => rw [hbo] at e; simp at e
  have hbr : bindsOk r.right l = true := by
    rw [← hbo]
    unfold bindsOk wilds
    rw [c3, c4]
  obtain ⟨_, _, _, _, _, f6, _⟩ := subst_form h1
  rw [h2] at f6
  have hfl : (fillsOf r.left.parts ((heads l).take (stars r.left.parts))).length = r.left.parts.length := fills_len _ _
  have hrest : (if r.left.rest then (l.getD (stars r.left.parts) none_).parts.length else 0) = 0 := by
    have := congrArg List.length f6
    rw [List.length_append, hfl] at this
    split
    · rename_i hh
      rw [if_pos hh] at this
      omega
    · rfl
  rw [c3, c4] at hrest
  have h12 := (check_ok.1 c2).2
  have e2 : substErr r.right l = 0 := by
    rw [subst_err, if_pos c2, if_pos hbr, hrest, if_pos (by omega)]
  unfold nleftE
  rw [if_pos hr, if_pos hp, hm]
  simp only
  rw [hb, Option.getD_some, if_pos e2]

/-- Where the left side gains no part, the right side gains none. -/
theorem nleft_same {r n : Rul} {p : Pat} (h : nleft r p = some n) (hl : n.left.parts.length ≤ r.left.parts.length) : n.right.parts.length = r.right.parts.length := by
  obtain ⟨hr, hp, m, l, hm, hb, h1, h2, hs, rfl, hn⟩ := nleft_form h
  obtain ⟨c1, c2, c3, c4⟩ := rcheck_zero.1 hr
  obtain ⟨_, _, _, _, _, f6, _⟩ := subst_form h1
  obtain ⟨_, _, _, _, _, g6, _⟩ := subst_form hs
  rw [h2] at f6
  simp only at hl ⊢
  have e1 := congrArg List.length f6
  have e2 := congrArg List.length g6
  rw [List.length_append, fills_len] at e1 e2
  rw [← c3, ← c4] at e2
  omega
/-- A component that fits a star written in its place: a narrower pattern. -/
theorem wanted_within {p : Pat} {us : List (List UInt8)} {x y : List UInt8} {vs : List (List UInt8)} (hp : check p = 0) (he : p.parts = us ++ x :: vs) (hy : star y = none)
    {m : Pat} (hm : meet p ⟨us ++ y :: vs, p.rest⟩ = some m) : m = ⟨us ++ y :: vs, p.rest⟩ := by
  obtain ⟨_, hw, hmm⟩ := meet_checks hm
  have hcap : ∃ z, capture x y = some z := by
    obtain ⟨t, ht⟩ := some_path hmm
    have h := meet_some hm t
    rw [ht, Bool.and_eq_true] at h
    obtain ⟨C, hC⟩ := Option.isSome_iff_exists.1 h.1
    obtain ⟨D, hD⟩ := Option.isSome_iff_exists.1 h.2
    obtain ⟨_, l, cs, h1, _, h3, _⟩ := matchP_some.1 hC
    obtain ⟨_, l', cs', g1, _, g3, _⟩ := matchP_some.1 hD
    obtain rfl : l = l' := Option.some.inj (h1.symm.trans g1)
    rw [he] at h3
    exact Option.isSome_iff_exists.1 (comp_there hy h3 g3).1
  obtain ⟨z, hz⟩ := hcap
  have hin : within ⟨us ++ y :: vs, p.rest⟩ p = true := by
    refine within_of_all hw hp fun t ht => ?_
    obtain ⟨D, hD⟩ := Option.isSome_iff_exists.1 ht
    obtain ⟨_, l, cs, g1, g2, g3, _⟩ := matchP_some.1 hD
    obtain ⟨l1, c, l2, C1, y', C2, e1, e2, e3, e4, e5, e6, e7⟩ := caps_split g3
    have hc := capture_none_eq hy e4
    have h3 := e7 x z vs C2 (by rw [← hc]; exact hz) e5
    refine Option.isSome_iff_exists.2 ⟨_, matchP_some.2 ⟨hp, l, _, g1, ?_, by rw [he]; exact h3, rfl⟩⟩
    unfold fits at g2 ⊢
    rw [he]
    simpa using g2
  have h := meet_self hin
  rw [hm] at h
  exact Option.some.inj h
/-- Both lines are narrowed to the component: their left sides stay equal, the right sides keep their lengths, one star is gone. -/
theorem agree_some {a b a1 : Rul} {us : List (List UInt8)} {x y s : List UInt8} {vs : List (List UInt8)} (hb : rcheck b = 0) (hl : a.left = b.left) (ha : a.right.parts = us ++ x :: vs)
    (hx : star x = some s) (hy : star y = none) (h : nright a ⟨us ++ y :: vs, a.right.rest⟩ = some a1) :
    rcheck a1 = 0 ∧ nleftE b a1.left = 0 ∧ a1.right.parts.length = a.right.parts.length ∧ stars a1.left.parts < stars a.left.parts ∧
      ∃ b1, nleft b a1.left = some b1 ∧ rcheck b1 = 0 ∧ a1.left = b1.left ∧ b1.right.parts.length = b.right.parts.length := by
  obtain ⟨n', hn, rfl⟩ := nright_form h
  have hn0 := hn
  obtain ⟨hr, hp, m, l, hm, hbd, h1, h2, hs, rfl, hnc⟩ := nleft_form hn
  obtain ⟨c1, c2, c3, c4⟩ := rcheck_zero.1 hr
  have hmW := wanted_within (p := a.right) c1 ha hy hm
  have hlen : m.parts.length = a.right.parts.length := by rw [hmW, ha]; simp
  have hsame := nleft_same hn0 (Nat.le_of_eq hlen)
  have hrc := turn_check hnc
  have ix : isStar x = true := by unfold isStar; rw [hx]; rfl
  have iy : isStar y = false := by unfold isStar; rw [hy]; rfl
  have hst : stars (subst a.left l).parts < stars a.left.parts := by
    have k1 := (rcheck_zero.1 hrc).2.2.1
    have k2 : stars a.right.parts = stars a.left.parts := c3
    have k3 : stars (subst a.left l).parts = stars m.parts := k1
    rw [k3, ← k2, hmW, ha, stars_append, stars_append, stars_cons, stars_cons, if_pos ix, iy]
    simp
  have hwi : within (subst a.left l) b.left = true := by rw [← hl]; exact (narrow_subst hs).2
  have hmb := meet_self hwi
  have hck := subst_check hs
  have hle : (subst a.left l).parts.length ≤ b.left.parts.length := by rw [← hl]; exact Nat.le_of_eq hsame
  have hE := nleftE_same hb hck hmb hle
  refine ⟨hrc, hE, hlen, hst, ?_⟩
  cases hnb : nleft b (subst a.left l) with
  | none =>
    obtain ⟨t, ht⟩ := some_path hck
    have h3 := nleft_none hnb hE t (within_match hwi ht)
    cases h3.symm.trans ht
  | some b1 =>
    obtain ⟨_, _, m2, l2, hm2, _, _, _, _, hb1, hb1c⟩ := nleft_form hnb
    have hbl : b1.left = subst a.left l := by
      rw [hb1]
      exact Option.some.inj (hm2.symm.trans hmb)
    exact ⟨b1, hnb, hb1c, hbl.symm, nleft_same hnb (by rw [hbl]; exact hle)⟩
/-- Right sides of unlike lengths: no path in common. -/
theorem agree_len {a b : Rul} {p t : List UInt8} (hl : a.left = b.left) (hn : a.right.parts.length ≠ b.right.parts.length) (h1 : fwd a p = some t) (h2 : fwd b p = some t) : False := by
  obtain ⟨ca, C, m1, m2⟩ := fwd_some.1 h1
  obtain ⟨cb, C', n1, n2⟩ := fwd_some.1 h2
  rw [hl] at m1
  obtain rfl : C = C' := Option.some.inj (m1.symm.trans n1)
  have hr : a.right.rest = b.right.rest := by rw [← (rcheck_zero.1 ca).2.2.2, ← (rcheck_zero.1 cb).2.2.2, hl]
  obtain ⟨l, D, g0, _, _, f1, f2, f3⟩ := two_match hr m2 n2
  unfold fits at f1 f2
  rw [← hr] at f2
  cases hp : a.right.rest with
  | false =>
    rw [hp] at f1 f2
    simp only [Bool.false_eq_true, if_false, decide_eq_true_eq] at f1 f2
    omega
  | true =>
    rw [hp] at f1 f2
    simp only [if_true, decide_eq_true_eq] at f1 f2
    have hc := (pathO_some.1 g0).2.2
    have k := fun n (hn : n < l.length) => Pm.segs_join (l.drop n) (fun h => by have := congrArg List.length h; simp at this; omega) (fun x hx => Pm.comp_slash (hc x (List.mem_of_mem_drop hx)))
    have e := congrArg Pm.segs (f3 hp)
    rw [k _ f1, k _ f2] at e
    have e2 := congrArg List.length e
    simp only [List.length_drop] at e2
    omega
/-- What Agree answers: the paths that both lines relate to one path. -/
def AgreeIs (a b : Rul) (o : Option Pat) : Prop :=
  (∀ m, o = some m → check m = 0) ∧ ∀ p, (∃ t, fwd a p = some t ∧ fwd b p = some t) ↔ ∃ m, o = some m ∧ (matchP m p).isSome = true
theorem AgreeIs.one {a b : Rul} {o o' : Option Pat} (h : AgreeIs a b o) (h' : AgreeIs a b o') : o = o' := by
  have k := fun p => (h.2 p).symm.trans (h'.2 p)
  cases o with
  | none =>
    cases o' with
    | none => rfl
    | some m =>
      obtain ⟨s, hs⟩ := some_path (h'.1 m rfl)
      obtain ⟨_, e, _⟩ := (k s).2 ⟨m, rfl, hs⟩
      cases e
  | some m =>
    cases o' with
    | none =>
      obtain ⟨s, hs⟩ := some_path (h.1 m rfl)
      obtain ⟨_, e, _⟩ := (k s).1 ⟨m, rfl, hs⟩
      cases e
    | some m' =>
      refine congrArg some (pat_ext (h.1 m rfl) (h'.1 m' rfl) fun s => ?_)
      have := k s
      simp only [Option.some.injEq, exists_eq_left'] at this
      exact Bool.eq_iff_iff.2 this
theorem AgreeIs.swap {a b : Rul} {o : Option Pat} (h : AgreeIs a b o) : AgreeIs b a o :=
  ⟨h.1, fun p => by rw [← h.2 p]; exact ⟨fun ⟨t, x, y⟩ => ⟨t, y, x⟩, fun ⟨t, x, y⟩ => ⟨t, y, x⟩⟩⟩
theorem AgreeIs.of {a b a1 b1 : Rul} {o : Option Pat} (h : AgreeIs a1 b1 o) (hc : ∀ p t, (fwd a1 p = some t ∧ fwd b1 p = some t) ↔ (fwd a p = some t ∧ fwd b p = some t)) : AgreeIs a b o :=
  ⟨h.1, fun p => by rw [← h.2 p]; exact ⟨fun ⟨t, x⟩ => ⟨t, (hc p t).2 x⟩, fun ⟨t, x⟩ => ⟨t, (hc p t).1 x⟩⟩⟩
theorem AgreeIs.dead {a b : Rul} (h : ∀ p t, fwd a p = some t → fwd b p = some t → False) : AgreeIs a b none :=
  ⟨fun _ h => (by cases h), fun p => ⟨fun ⟨t, x, y⟩ => (h p t x y).elim, fun ⟨_, e, _⟩ => by cases e⟩⟩
theorem AgreeIs.whole {a b : Rul} (ha : rcheck a = 0) (hb : rcheck b = 0) (hl : a.left = b.left) (h : a.right.parts = b.right.parts) : AgreeIs a b (some a.left) := by
  refine ⟨fun m hm => by injection hm with hm; rw [← hm]; exact (rcheck_zero.1 ha).1, fun p => ?_⟩
  have e := fwd_match ha p
  constructor
  · rintro ⟨t, x, _⟩
    exact ⟨_, rfl, by rw [← e, x]; rfl⟩
  · rintro ⟨m, hm, hp⟩
    injection hm with hm
    rw [← hm, ← e] at hp
    obtain ⟨t, ht⟩ := Option.isSome_iff_exists.1 hp
    exact ⟨t, ht, by rw [← agree_same ha hb hl h p]; exact ht⟩
/-- Parts of at most L bytes, stars of at most S. -/
def szc (S L : Nat) (l : List (List UInt8)) : Prop := ∀ x ∈ l, x.length ≤ L ∧ (isStar x = true → x.length ≤ S)
theorem bindOf_self : ∀ vs : List (List UInt8), ∀ b ∈ bindOf vs vs, b = ⟨[[42]], false⟩
  | [], b, h => by cases h
  | x :: vs, b, h => by
    cases hs : star x with
    | none => rw [bindOf_comp _ _ _ hs] at h; exact bindOf_self vs b h
    | some s =>
      rw [bindOf_star _ _ _ hs] at h
      rcases List.mem_cons.1 h with rfl | h
      · rw [(star_some.1 hs).1]
        simp
      · exact bindOf_self vs b h
theorem bindOf_at : ∀ (us : List (List UInt8)) {x y s : List UInt8} {vs : List (List UInt8)}, star x = some s → ∀ b ∈ bindOf (us ++ x :: vs) (us ++ y :: vs), b = ⟨[[42]], false⟩ ∨ b = ⟨[y.take (y.length - s.length)], false⟩
  | [], x, y, s, vs, hx, b, h => by
    rw [List.nil_append, List.nil_append, bindOf_star _ _ _ hx] at h
    rcases List.mem_cons.1 h with rfl | h
    · exact .inr rfl
    · exact .inl (bindOf_self vs b h)
  | u :: us, x, y, s, vs, hx, b, h => by
    rw [List.cons_append, List.cons_append] at h
    cases hu : star u with
    | none => rw [bindOf_comp _ _ _ hu] at h; exact bindOf_at us hx b h
    | some z =>
      rw [bindOf_star _ _ _ hu] at h
      rcases List.mem_cons.1 h with rfl | h
      · left
        rw [(star_some.1 hu).1]
        simp
      · exact bindOf_at us hx b h
theorem fills_szc {S L M : Nat} : ∀ {ps C : List (List UInt8)}, szc S L ps → (∀ u ∈ C, u = [42] ∨ (part u = true ∧ star u = none ∧ u.length ≤ M)) → stars ps ≤ C.length → szc S (max L (M + S)) (fillsOf ps C)
  | [], C, _, _, _ => by
    intro x hx
    simp [fillsOf] at hx
  | x :: ps, C, hp, hC, hl => by
    have hp' : szc S L ps := fun y hy => hp y (List.mem_cons_of_mem _ hy)
    have hx0 := hp x (by simp)
    rw [stars_cons] at hl
    intro y hy
    cases hs : star x with
    | none =>
      rw [fillsOf_comp _ _ hs] at hy
      rcases List.mem_cons.1 hy with rfl | hy
      · exact ⟨by omega, hx0.2⟩
      · exact fills_szc hp' hC (by omega) y hy
    | some s =>
      have ix : isStar x = true := by unfold isStar; rw [hs]; rfl
      rw [if_pos ix] at hl
      rw [fillsOf_star _ _ hs] at hy
      have hxe := (star_some.1 hs).1
      have hnb := (star_some.1 hs).2
      have hxl := hx0.2 ix
      cases C with
      | nil => simp at hl
      | cons u C =>
        rcases List.mem_cons.1 hy with rfl | hy
        · simp only [List.headD_cons]
          rcases hC u (by simp) with rfl | ⟨h1, h2, h3⟩
          · have e : ([42] : List UInt8) ++ s = x := by rw [hxe]; rfl
            rw [e]
            exact ⟨by omega, hx0.2⟩
          · have e : star (u ++ s) = none := by rw [star_app h1 hnb, h2]; rfl
            have hsl : s.length ≤ S := by rw [hxe] at hxl; simp at hxl; omega
            refine ⟨by rw [List.length_append]; omega, fun h => ?_⟩
            unfold isStar at h
            rw [e] at h
            cases h
        · exact fills_szc hp' (fun v hv => hC v (List.mem_cons_of_mem _ hv)) (by simp at hl; omega) y (by simpa using hy)
theorem subst_szc {S L M : Nat} {p : Pat} {l : List Pat} (h : substErr p l = 0) (hp : szc S L p.parts) (hC : ∀ u ∈ heads l, part u = true → u = [42] ∨ (part u = true ∧ star u = none ∧ u.length ≤ M)) (hr : p.rest = true → (l.getD (stars p.parts) none_).parts = []) : szc S (max L (M + S)) (subst p l).parts := by
  obtain ⟨_, _, f3, f4, _, f6, _⟩ := subst_form h
  have e : (if p.rest then (l.getD (stars p.parts) none_).parts else []) = [] := by
    split
    · rename_i hh; exact hr hh
    · rfl
  rw [f6, e, List.append_nil]
  exact fills_szc hp (fun u hu => hC u (List.mem_of_mem_take hu) (f3 u hu)) (Nat.le_of_eq f4.symm)
/-- A round of Agree: stars stay as long as they were, components grow by the longest star and the component taken. -/
theorem agree_sizes {a b a1 b1 : Rul} {us : List (List UInt8)} {x y s : List UInt8} {vs : List (List UInt8)} {S L M : Nat} (hb : rcheck b = 0) (hl : a.left = b.left) (ha : a.right.parts = us ++ x :: vs)
    (hx : star x = some s) (hy : star y = none) (h : nright a ⟨us ++ y :: vs, a.right.rest⟩ = some a1) (h2 : nleft b a1.left = some b1)
    (sl : szc S L a.left.parts) (sr : szc S L a.right.parts) (sb : szc S L b.right.parts) (hyl : y.length ≤ M) :
    szc S (max L (M + S)) a1.left.parts ∧ szc S (max L (M + S)) a1.right.parts ∧ b1.left = a1.left ∧ szc S (max L (M + S)) b1.right.parts := by
  obtain ⟨n', hn, rfl⟩ := nright_form h
  obtain ⟨hr, hp, m, l, hm, hbd, h1, h2', hs, rfl, hnc⟩ := nleft_form hn
  obtain ⟨c1, c2, c3, c4⟩ := rcheck_zero.1 hr
  have hmW := wanted_within (p := a.right) c1 ha hy hm
  have hbw : bind a.right m = some l := hbd
  have hz : capture x y = some (y.take (y.length - s.length)) := by
    have hwi := (narrow_subst h1).2
    rw [h2', hmW] at hwi
    obtain ⟨t, ht⟩ := some_path hp
    obtain ⟨D, hD⟩ := Option.isSome_iff_exists.1 ht
    obtain ⟨C, hC⟩ := Option.isSome_iff_exists.1 (within_match hwi ht)
    obtain ⟨_, k, cs, g1, _, g3, _⟩ := matchP_some.1 hC
    obtain ⟨_, k', cs', f1, _, f3, _⟩ := matchP_some.1 hD
    obtain rfl : k = k' := Option.some.inj (g1.symm.trans f1)
    have g3' : capsOf (us ++ x :: vs) k = some cs := by rw [← ha]; exact g3
    obtain ⟨z, hz⟩ := Option.isSome_iff_exists.1 (comp_there hy g3' f3).1
    have e := capture_star_eq hx hz
    rw [hz, e]
    simp
  have hsy := capture_star_eq hx hz
  have hbl : l = bindOf a.right.parts m.parts ++ (if a.right.rest then [⟨m.parts.drop a.right.parts.length, m.rest⟩] else []) := by
    unfold bind at hbw
    split at hbw
    · injection hbw with hbw; exact hbw.symm
    · cases hbw
  have hdrop : m.parts.drop a.right.parts.length = [] := by rw [hmW, ha]; simp
  have hheads : ∀ u ∈ heads l, part u = true → u = [42] ∨ (part u = true ∧ star u = none ∧ u.length ≤ M) := by
    intro u hu hpu
    unfold heads at hu
    obtain ⟨v, hv, rfl⟩ := List.mem_map.1 hu
    rw [hbl] at hv
    rcases List.mem_append.1 hv with hv | hv
    · rw [ha, hmW] at hv
      rcases bindOf_at us hx v hv with rfl | rfl
      · exact .inl rfl
      · right
        simp only [List.headD_cons] at hpu ⊢
        refine ⟨hpu, ?_, by rw [List.length_take]; omega⟩
        cases hst : star (y.take (y.length - s.length)) with
        | none => rfl
        | some t =>
          have e := star_app hpu (star_some.1 hx).2
          rw [← hsy, hst, hy] at e
          cases e
    · split at hv
      · simp only [List.mem_singleton] at hv
        subst hv
        simp only [hdrop] at hpu
        cases hpu
      · cases hv
  have hrest : ∀ q : Pat, stars q.parts = stars a.right.parts → q.rest = a.right.rest → q.rest = true → (l.getD (stars q.parts) none_).parts = [] := by
    intro q hq1 hq2 hq3
    obtain ⟨_, _, _, _, _, f6, _⟩ := subst_form h1
    rw [h2'] at f6
    have e1 := congrArg List.length f6
    rw [List.length_append, fills_len] at e1
    have e2 : m.parts.length = (turnR a).left.parts.length := by rw [hmW]; show _ = a.right.parts.length; rw [ha]; simp
    rw [if_pos (show (turnR a).left.rest = true from by show a.right.rest = true; rw [← hq2]; exact hq3)] at e1
    rw [hq1]
    exact List.eq_nil_of_length_eq_zero (by show (l.getD (stars (turnR a).left.parts) none_).parts.length = 0; omega)
  have hA := subst_szc (M := M) hs sl hheads (hrest a.left c3.symm c4.symm)
  have hwb : bind b.left (subst a.left l) = some l := by rw [← hl]; exact (narrow_subst hs).1
  obtain ⟨_, _, m2, l2, hm2, hb2, _, _, hs2, hb1, _⟩ := nleft_form h2
  have hmb := meet_self (show within (subst a.left l) b.left = true by rw [← hl]; exact (narrow_subst hs).2)
  obtain rfl : m2 = subst a.left l := Option.some.inj (hm2.symm.trans hmb)
  obtain rfl : l2 = l := Option.some.inj (hb2.symm.trans hwb)
  obtain ⟨_, _, d3, d4⟩ := rcheck_zero.1 hb
  have hB := subst_szc (M := M) hs2 sb hheads (hrest b.right (by rw [← d3, ← hl]; exact c3.symm) (by rw [← d4, ← hl]; exact c4.symm))
  refine ⟨hA, ?_, by rw [hb1]; rfl, by rw [hb1]; exact hB⟩
  show szc S (max L (M + S)) m.parts
  rw [hmW]
  intro w hw
  rw [ha] at sr
  rcases List.mem_append.1 hw with hw | hw
  · have := sr w (List.mem_append_left _ hw)
    exact ⟨by omega, this.2⟩
  · rcases List.mem_cons.1 hw with rfl | hw
    · refine ⟨by omega, fun h => ?_⟩
      unfold isStar at h
      rw [hy] at h
      cases h
    · have := sr w (List.mem_append_right _ (List.mem_cons_of_mem _ hw))
      exact ⟨by omega, this.2⟩
end Go.Proofs.YtembmegllpkmfaaGreatDoor.Pt
