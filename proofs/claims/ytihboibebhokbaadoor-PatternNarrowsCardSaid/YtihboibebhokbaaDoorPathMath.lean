/- The plain mathematics of layer 2 (path): lists of bytes, components, the order. No program. -/
import Derived.Lib.Split
import Derived.Lib.SplitLaws
import Derived.Lib.Join
import Derived.Lib.Bytealg
import Derived.Lib.LastIndexByte
namespace Go.Proofs.YtihboibebhokbaaDoor.Pm
open Go

/-- A byte of a name. -/
def nb (c : UInt8) : Bool := (65 ≤ c && c ≤ 90) || (97 ≤ c && c ≤ 122) || (48 ≤ c && c ≤ 57) || c == 95 || c == 46 || c == 43 || c == 45
def letters : List UInt8 := [65, 66, 67, 68, 69, 70, 71, 72, 73, 74, 75, 76, 77, 78, 79, 80, 81, 82, 83, 84, 85, 86, 87, 88, 89, 90, 97, 98, 99, 100, 101, 102, 103, 104, 105, 106, 107, 108, 109, 110, 111, 112, 113, 114, 115, 116, 117, 118, 119, 120, 121, 122, 48, 49, 50, 51, 52, 53, 54, 55, 56, 57, 95, 46, 43, 45]

theorem letters_all : ∀ n, n < 256 → decide (Lib.indexByte letters (UInt8.ofNat n) < 0) = !nb (UInt8.ofNat n) := by decide +kernel
theorem letters_nb (c : UInt8) : decide (Lib.indexByte letters c < 0) = !nb c := by
  have h := letters_all c.toNat c.toNat_lt
  rwa [UInt8.ofNat_toNat] at h
theorem nb_all : ∀ n, n < 256 → nb (UInt8.ofNat n) = decide ((65 ≤ n ∧ n ≤ 90) ∨ (97 ≤ n ∧ n ≤ 122) ∨ (48 ≤ n ∧ n ≤ 57) ∨ n = 95 ∨ n = 46 ∨ n = 43 ∨ n = 45) := by decide +kernel
theorem nb_nat (c : UInt8) : nb c = decide ((65 ≤ c.toNat ∧ c.toNat ≤ 90) ∨ (97 ≤ c.toNat ∧ c.toNat ≤ 122) ∨ (48 ≤ c.toNat ∧ c.toNat ≤ 57) ∨ c.toNat = 95 ∨ c.toNat = 46 ∨ c.toNat = 43 ∨ c.toNat = 45) := by
  have h := nb_all c.toNat c.toNat_lt
  rwa [UInt8.ofNat_toNat] at h
theorem nb_slash {c : UInt8} (h : nb c = true) : c ≠ 47 := by
  rintro rfl
  exact absurd h (by decide)

/-- A component. -/
def comp : List UInt8 → Bool
  | [] => false
  | c :: r => c != 46 && (c :: r).all nb
theorem comp_slash {x : List UInt8} (h : comp x = true) : ∀ c ∈ x, c ≠ 47 := by
  cases x with
  | nil => simp
  | cons a r =>
    simp only [comp, Bool.and_eq_true, List.all_eq_true] at h
    exact fun c hc => nb_slash (h.2 c hc)
theorem comp_ne {x : List UInt8} (h : comp x = true) : x ≠ [] := by
  rintro rfl
  cases h

/-- The pieces between the separators. -/
def segs : List UInt8 → List (List UInt8)
  | [] => [[]]
  | c :: r => if c = 47 then [] :: segs r else (c :: (segs r).headD []) :: (segs r).tail
theorem segs_ne (l : List UInt8) : segs l ≠ [] := by
  cases l with
  | nil => simp [segs]
  | cons c r => unfold segs; split <;> simp
theorem segs_length (l : List UInt8) : 1 ≤ (segs l).length := by
  have := segs_ne l
  cases h : segs l with
  | nil => exact absurd h this
  | cons a b => simp
theorem segs_cons (l : List UInt8) : segs l = (segs l).headD [] :: (segs l).tail := by
  have := segs_ne l
  cases h : segs l with
  | nil => exact absurd h this
  | cons a b => rfl
theorem segs_app (x : List UInt8) (hx : ∀ c ∈ x, c ≠ 47) (r : List UInt8) : segs (x ++ r) = (x ++ (segs r).headD []) :: (segs r).tail := by
  induction x with
  | nil => simpa using segs_cons r
  | cons c x ih =>
    have h1 : c ≠ 47 := hx c (by simp)
    rw [List.cons_append, segs, if_neg h1, ih fun d hd => hx d (by simp [hd])]
    simp
theorem segs_plain (x : List UInt8) (hx : ∀ c ∈ x, c ≠ 47) : segs x = [x] := by
  have := segs_app x hx []
  simpa [segs] using this
theorem segs_step (x : List UInt8) (hx : ∀ c ∈ x, c ≠ 47) (r : List UInt8) : segs (x ++ 47 :: r) = x :: segs r := by
  rw [segs_app x hx, segs, if_pos rfl]
  simp

/-- A text is free of separators, or there is a first one. -/
theorem slash_cases (l : List UInt8) : (∀ c ∈ l, c ≠ 47) ∨ ∃ x r, l = x ++ 47 :: r ∧ ∀ c ∈ x, c ≠ 47 := by
  induction l with
  | nil => left; simp
  | cons c l ih =>
    by_cases h : c = 47
    · subst h
      exact .inr ⟨[], l, rfl, by simp⟩
    · rcases ih with ih | ⟨x, r, rfl, hx⟩
      · left
        intro d hd
        rcases List.mem_cons.1 hd with rfl | hd
        · exact h
        · exact ih d hd
      · refine .inr ⟨c :: x, r, rfl, ?_⟩
        intro d hd
        rcases List.mem_cons.1 hd with rfl | hd
        · exact h
        · exact hx d hd
/-- .. or a last one. -/
theorem slash_last (l : List UInt8) : (∀ c ∈ l, c ≠ 47) ∨ ∃ x r, l = x ++ 47 :: r ∧ ∀ c ∈ r, c ≠ 47 := by
  induction l with
  | nil => left; simp
  | cons c l ih =>
    rcases ih with ih | ⟨x, r, rfl, hx⟩
    · by_cases h : c = 47
      · subst h
        exact .inr ⟨[], l, rfl, ih⟩
      · left
        intro d hd
        rcases List.mem_cons.1 hd with rfl | hd
        · exact h
        · exact ih d hd
    · exact .inr ⟨c :: x, r, rfl, hx⟩

theorem index_step (x : List UInt8) (hx : ∀ c ∈ x, c ≠ 47) (r : List UInt8) : Lib.index (x ++ 47 :: r) [47] = (x.length : Int) := by
  induction x with
  | nil => rw [List.nil_append, Lib.index]; simp [List.isPrefixOf]
  | cons c x ih =>
    have h1 : c ≠ 47 := hx c (by simp)
    have ih' := ih fun d hd => hx d (by simp [hd])
    have hp : ([47] : List UInt8).isPrefixOf (c :: (x ++ 47 :: r)) = false := by simp [List.isPrefixOf, Ne.symm h1]
    rw [List.cons_append, Lib.index, hp, ih', List.length_cons]
    have : ((x.length : Int) == -1) = false := by rw [beq_eq_false_iff_ne]; omega
    simp [this]
theorem index_plain (x : List UInt8) (hx : ∀ c ∈ x, c ≠ 47) : Lib.index x [47] = -1 := by
  induction x with
  | nil => simp [Lib.index]
  | cons c x ih =>
    have h1 : c ≠ 47 := hx c (by simp)
    have ih' := ih fun d hd => hx d (by simp [hd])
    have hp : ([47] : List UInt8).isPrefixOf (c :: x) = false := by simp [List.isPrefixOf, Ne.symm h1]
    rw [Lib.index, hp, ih']
    simp

theorem cut_step (x : List UInt8) (hx : ∀ c ∈ x, c ≠ 47) (r : List UInt8) : Lib.cut (x ++ 47 :: r) [47] = (x, r, true) := by
  unfold Lib.cut
  rw [index_step x hx r, if_pos (by omega)]
  have e1 : ((x.length : Int)).toNat = x.length := by omega
  rw [e1]
  simp
theorem cut_plain (x : List UInt8) (hx : ∀ c ∈ x, c ≠ 47) : Lib.cut x [47] = (x, [], false) := by
  unfold Lib.cut
  rw [index_plain x hx, if_neg (by omega)]

theorem splitK_segs : ∀ (n : Nat) (l : List UInt8), l.length ≤ n → Lib.splitK [47] 0 (Lib.count l [47]) l = segs l
  | n, l, hn => by
    rcases slash_cases l with h | ⟨x, r, rfl, hx⟩
    · rw [Lib.count_miss (index_plain l h), segs_plain l h]
      rfl
    · have hi := index_step x hx r
      rw [Lib.count_hit (by simp) hi, Nat.add_comm, Lib.splitK, hi]
      have e0 : ((x.length : Int) == -1) = false := by rw [beq_eq_false_iff_ne]; omega
      have e1 : ((x.length : Int)).toNat = x.length := by omega
      rw [e0, e1, segs_step x hx]
      simp only [Bool.false_eq_true, if_false, List.length_cons, List.length_nil]
      have e2 : (x ++ 47 :: r).drop (x.length + (0 + 1)) = r := by simp
      have e3 : (x ++ 47 :: r).take (x.length + 0) = x := by simp
      rw [e2, e3]
      match n, hn with
      | 0, hn => simp at hn
      | n + 1, hn => rw [splitK_segs n r (by simp at hn; omega)]

/-- The components of a directory. -/
def parts (p : List UInt8) : Option (List (List UInt8)) :=
  if ([47, 47] : List UInt8).isPrefixOf p && (segs (p.drop 2)).all comp then some (segs (p.drop 2)) else none
def depth (p : List UInt8) : Nat := ((parts p).getD []).length
def valid (p : List UInt8) : Bool := decide (2 ≤ depth p)
def join (l : List (List UInt8)) : List UInt8 := 47 :: 47 :: Lib.join l [47]

theorem lib_join_cons (x : List UInt8) (y : List UInt8) (r : List (List UInt8)) : Lib.join (x :: y :: r) [47] = x ++ 47 :: Lib.join (y :: r) [47] := by
  simp [Lib.join, List.intercalate]
theorem segs_join : ∀ (l : List (List UInt8)), l ≠ [] → (∀ x ∈ l, ∀ c ∈ x, c ≠ 47) → segs (Lib.join l [47]) = l
  | [], h, _ => absurd rfl h
  | [x], _, h => by rw [Lib.join_one]; exact segs_plain x (h x (by simp))
  | x :: y :: r, _, h => by
    rw [lib_join_cons, segs_step x (h x (by simp)), segs_join (y :: r) (by simp) fun z hz => h z (by simp [hz])]
theorem join_segs : ∀ (n : Nat) (l : List UInt8), l.length ≤ n → Lib.join (segs l) [47] = l
  | n, l, hn => by
    rcases slash_cases l with h | ⟨x, r, rfl, hx⟩
    · rw [segs_plain l h, Lib.join_one]
    · rw [segs_step x hx, segs_cons r, lib_join_cons, ← segs_cons r]
      match n, hn with
      | 0, hn => simp at hn
      | n + 1, hn => rw [join_segs n r (by simp at hn; omega)]

theorem prefix2 {p : List UInt8} (h : ([47, 47] : List UInt8).isPrefixOf p = true) : p = 47 :: 47 :: p.drop 2 := by
  match p, h with
  | [], h => simp at h
  | [a], h => simp [List.isPrefixOf] at h
  | a :: b :: r, h =>
    simp [List.isPrefixOf] at h
    obtain ⟨rfl, rfl⟩ := h
    rfl
theorem parts_some {p : List UInt8} {l : List (List UInt8)} (h : parts p = some l) : p = join l ∧ l ≠ [] ∧ ∀ x ∈ l, comp x = true := by
  unfold parts at h
  split at h
  · rename_i h1
    rw [Bool.and_eq_true, List.all_eq_true] at h1
    injection h with h
    subst h
    refine ⟨?_, segs_ne _, h1.2⟩
    unfold join
    rw [join_segs _ _ (Nat.le_refl _)]
    exact prefix2 h1.1
  · cases h
theorem parts_join {l : List (List UInt8)} (hl : l ≠ []) (h : ∀ x ∈ l, comp x = true) : parts (join l) = some l := by
  have e : segs ((join l).drop 2) = l := by
    show segs (Lib.join l [47]) = l
    exact segs_join l hl fun x hx => comp_slash (h x hx)
  unfold parts
  rw [e, if_pos]
  rw [Bool.and_eq_true, List.all_eq_true]
  exact ⟨rfl, h⟩
theorem depth_some {p : List UInt8} {l : List (List UInt8)} (h : parts p = some l) : depth p = l.length := by
  unfold depth; rw [h]; rfl
theorem depth_none {p : List UInt8} (h : parts p = none) : depth p = 0 := by
  unfold depth; rw [h]; rfl
theorem depth_pos {p : List UInt8} (h : depth p ≠ 0) : ∃ l, parts p = some l ∧ l ≠ [] ∧ (∀ x ∈ l, comp x = true) ∧ p = join l ∧ depth p = l.length := by
  cases hp : parts p with
  | none => exact absurd (depth_none hp) h
  | some l =>
    obtain ⟨h1, h2, h3⟩ := parts_some hp
    exact ⟨l, rfl, h2, h3, h1, depth_some hp⟩

/-! ### depth's loop -/

/-- What depth returns from the head of a round: so many components are counted, this text is left, and whether one is left. -/
def goDepth (count : Nat) (rest : List UInt8) (more : Bool) : Nat :=
  if more then (if (segs rest).all comp then count + (segs rest).length else 0) else count
theorem goDepth_start (p : List UInt8) : goDepth 0 (Lib.trimPrefix p [47, 47]) (Lib.hasPrefix p [47, 47]) = depth p := by
  unfold goDepth depth parts Lib.hasPrefix Lib.trimPrefix
  by_cases h : ([47, 47] : List UInt8).isPrefixOf p = true
  · rw [if_pos h]
    simp only [Lib.hasPrefix, h, if_true, Bool.true_and, List.length_cons, List.length_nil, Nat.zero_add]
    split <;> simp
  · rw [if_neg h]
    simp [h]
theorem goDepth_cut (count : Nat) (rest : List UInt8) : goDepth count rest true = if comp (Lib.cut rest [47]).1 then goDepth (count + 1) (Lib.cut rest [47]).2.1 (Lib.cut rest [47]).2.2 else 0 := by
  rcases slash_cases rest with h | ⟨x, r, rfl, hx⟩
  · rw [cut_plain rest h]
    unfold goDepth
    rw [segs_plain rest h]
    by_cases hc : comp rest = true <;> simp [hc]
  · rw [cut_step x hx r]
    unfold goDepth
    rw [segs_step x hx]
    by_cases hc : comp x = true
    · simp only [List.all_cons, hc, Bool.true_and, if_true, List.length_cons]
      split <;> omega
    · simp [hc]
theorem cut_less (rest : List UInt8) : (Lib.cut rest [47]).2.1.length + (if (Lib.cut rest [47]).2.2 then 1 else 0) < rest.length + 1 := by
  rcases slash_cases rest with h | ⟨x, r, rfl, hx⟩
  · rw [cut_plain rest h]; simp
  · rw [cut_step x hx r]; simp; omega
theorem cut_le (rest : List UInt8) : (Lib.cut rest [47]).1.length ≤ rest.length ∧ (Lib.cut rest [47]).2.1.length ≤ rest.length := by
  rcases slash_cases rest with h | ⟨x, r, rfl, hx⟩
  · rw [cut_plain rest h]; simp
  · rw [cut_step x hx r]; simp; omega

/-! ### The order -/

def ord : List UInt8 → List UInt8 → Int
  | [], [] => 0
  | [], _ :: _ => -1
  | _ :: _, [] => 1
  | a :: r, b :: s => if a = b then ord r s else if a = 47 then -1 else if b = 47 then 1 else if a < b then -1 else 1
/-- A byte's place in the order: the separator is the least. -/
def key (c : UInt8) : Nat := if c = 47 then 0 else c.toNat + 1
theorem key_inj {a b : UInt8} (h : key a = key b) : a = b := by
  unfold key at h
  split at h <;> split at h
  · rename_i h1 h2; rw [h1, h2]
  · omega
  · omega
  · exact UInt8.toNat_inj.1 (by omega)
theorem ord_key (a b : UInt8) (r s : List UInt8) : ord (a :: r) (b :: s) = if key a < key b then -1 else if key b < key a then 1 else ord r s := by
  rw [ord]
  by_cases h : a = b
  · subst h; simp
  · rw [if_neg h]
    have hn : ¬ key a = key b := fun e => h (key_inj e)
    unfold key at hn ⊢
    by_cases h1 : a = 47
    · have h2 : b ≠ 47 := fun e => h (h1.trans e.symm)
      simp [h1, h2]
    · by_cases h2 : b = 47
      · simp [h1, h2]
      · simp only [h1, h2, if_false, UInt8.lt_iff_toNat_lt] at hn ⊢
        split
        · rw [if_pos (by omega)]
        · rw [if_neg (by omega), if_pos (by omega)]
theorem ord_range : ∀ a b : List UInt8, ord a b = -1 ∨ ord a b = 0 ∨ ord a b = 1
  | [], [] => by simp [ord]
  | [], _ :: _ => by simp [ord]
  | _ :: _, [] => by simp [ord]
  | a :: r, b :: s => by
    rw [ord_key]
    have := ord_range r s
    split
    · simp
    · split
      · simp
      · exact this
theorem ord_neg : ∀ a b : List UInt8, ord a b = - ord b a
  | [], [] => by simp [ord]
  | [], _ :: _ => by simp [ord]
  | _ :: _, [] => by simp [ord]
  | a :: r, b :: s => by
    rw [ord_key, ord_key, ord_neg r s]
    by_cases h : key a < key b
    · rw [if_pos h, if_neg (by omega), if_pos h]
    · rw [if_neg h]
      by_cases h2 : key b < key a
      · rw [if_pos h2, if_pos h2]; rfl
      · rw [if_neg h2, if_neg h2, if_neg h]
theorem ord_zero : ∀ {a b : List UInt8}, ord a b = 0 → a = b
  | [], [], _ => rfl
  | [], _ :: _, h => by simp [ord] at h
  | _ :: _, [], h => by simp [ord] at h
  | a :: r, b :: s, h => by
    rw [ord_key] at h
    split at h
    · omega
    · split at h
      · omega
      · rw [key_inj (show key a = key b by omega), ord_zero h]
theorem ord_self : ∀ a : List UInt8, ord a a = 0
  | [] => rfl
  | a :: r => by rw [ord, if_pos rfl, ord_self r]
theorem ord_eq (a b : List UInt8) : ord a b = 0 ↔ a = b := ⟨ord_zero, fun h => h ▸ ord_self a⟩
theorem ord_trans : ∀ {a b c : List UInt8}, ord a b ≤ 0 → ord b c ≤ 0 → ord a c ≤ 0
  | [], _, [], _, _ => by simp [ord]
  | [], _, _ :: _, _, _ => by simp [ord]
  | _ :: _, [], _, h, _ => by simp [ord] at h
  | _ :: _, _ :: _, [], _, h => by simp [ord] at h
  | a :: r, b :: s, c :: t, h, k => by
    rw [ord_key] at h k ⊢
    by_cases h1 : key a < key b
    · by_cases k1 : key b < key c
      · rw [if_pos (by omega)]; omega
      · rw [if_neg k1] at k
        by_cases k2 : key c < key b
        · rw [if_pos k2] at k; omega
        · rw [if_pos (by omega)]; omega
    · rw [if_neg h1] at h
      by_cases h2 : key b < key a
      · rw [if_pos h2] at h; omega
      · rw [if_neg h2] at h
        by_cases k1 : key b < key c
        · rw [if_pos (by omega)]; omega
        · rw [if_neg k1] at k
          by_cases k2 : key c < key b
          · rw [if_pos k2] at k; omega
          · rw [if_neg k2] at k
            rw [if_neg (by omega), if_neg (by omega)]
            exact ord_trans h k
/-- Between two texts with one beginning stand texts with that beginning alone. -/
theorem ord_between : ∀ (P x z b : List UInt8), ord (P ++ x) b ≤ 0 → ord b (P ++ z) ≤ 0 → P <+: b
  | [], _, _, b, _, _ => List.nil_prefix
  | p :: P, x, z, [], h, _ => by simp [ord] at h
  | p :: P, x, z, d :: b, h, k => by
    rw [List.cons_append, ord_key] at h k
    have e : p = d := by
      apply key_inj
      by_cases h1 : key p < key d
      · rw [if_neg (by omega), if_pos h1] at k; omega
      · by_cases h2 : key d < key p
        · rw [if_neg h1, if_pos h2] at h; omega
        · omega
    subst e
    simp only [Nat.lt_irrefl, if_false] at h k
    exact List.cons_prefix_cons.2 ⟨rfl, ord_between P x z b h k⟩
/-- order's loop: of two texts with the same bytes ahead of i. -/
theorem ord_drop : ∀ (i : Nat) (a b : List UInt8), a.take i = b.take i → i ≤ a.length → i ≤ b.length → ord a b = ord (a.drop i) (b.drop i)
  | 0, _, _, _, _, _ => by simp
  | i + 1, [], _, _, h, _ => by simp at h
  | i + 1, _ :: _, [], _, _, h => by simp at h
  | i + 1, x :: a, y :: b, h, h1, h2 => by
    simp only [List.take_succ_cons, List.cons.injEq] at h
    obtain ⟨rfl, h⟩ := h
    rw [ord, if_pos rfl, List.drop_succ_cons, List.drop_succ_cons]
    exact ord_drop i a b h (by simpa using h1) (by simpa using h2)

/-! ### The order of lists of components -/

def cmpParts : List (List UInt8) → List (List UInt8) → Int
  | [], [] => 0
  | [], _ :: _ => -1
  | _ :: _, [] => 1
  | x :: r, y :: s => if Lib.compareBytes x y ≠ 0 then Lib.compareBytes x y else cmpParts r s
theorem compareBytes_zero : ∀ {a b : List UInt8}, Lib.compareBytes a b = 0 → a = b
  | [], [], _ => rfl
  | [], _ :: _, h => by simp [Lib.compareBytes] at h
  | _ :: _, [], h => by simp [Lib.compareBytes] at h
  | a :: r, b :: s, h => by
    rw [Lib.compareBytes] at h
    split at h
    · omega
    · split at h
      · omega
      · rename_i h1 h2
        rw [compareBytes_zero h]
        rw [UInt8.lt_iff_toNat_lt] at h1 h2
        rw [UInt8.toNat_inj.1 (show a.toNat = b.toNat by omega)]
theorem compareBytes_self : ∀ a : List UInt8, Lib.compareBytes a a = 0
  | [] => rfl
  | a :: r => by rw [Lib.compareBytes, if_neg (UInt8.lt_irrefl a), if_neg (UInt8.lt_irrefl a), compareBytes_self r]
theorem compareBytes_range : ∀ a b : List UInt8, Lib.compareBytes a b = -1 ∨ Lib.compareBytes a b = 0 ∨ Lib.compareBytes a b = 1
  | [], [] => by simp [Lib.compareBytes]
  | [], _ :: _ => by simp [Lib.compareBytes]
  | _ :: _, [] => by simp [Lib.compareBytes]
  | a :: r, b :: s => by
    have := compareBytes_range r s
    rw [Lib.compareBytes]
    split
    · simp
    · split
      · simp
      · exact this
/-- The rest of a path behind a component. -/
def Ends (r : List UInt8) : Prop := r = [] ∨ ∃ t, r = 47 :: t
theorem ord_app : ∀ (x y r s : List UInt8), (∀ c ∈ x, c ≠ 47) → (∀ c ∈ y, c ≠ 47) → Ends r → Ends s →
    ord (x ++ r) (y ++ s) = if Lib.compareBytes x y ≠ 0 then Lib.compareBytes x y else ord r s
  | [], [], r, s, _, _, _, _ => by simp [Lib.compareBytes]
  | [], d :: y, r, s, _, hy, hr, _ => by
    have hd : d ≠ 47 := hy d (by simp)
    rcases hr with rfl | ⟨t, rfl⟩
    · simp [Lib.compareBytes, ord]
    · simp only [List.nil_append, List.cons_append]
      rw [ord, if_neg (Ne.symm hd), if_pos rfl]
      simp [Lib.compareBytes]
  | c :: x, [], r, s, hx, _, _, hs => by
    have hc : c ≠ 47 := hx c (by simp)
    rcases hs with rfl | ⟨t, rfl⟩
    · simp [Lib.compareBytes, ord]
    · simp only [List.nil_append, List.cons_append]
      rw [ord, if_neg hc, if_neg hc, if_pos rfl]
      simp [Lib.compareBytes]
  | c :: x, d :: y, r, s, hx, hy, hr, hs => by
    have hc : c ≠ 47 := hx c (by simp)
    have hd : d ≠ 47 := hy d (by simp)
    have ih := ord_app x y r s (fun e he => hx e (by simp [he])) (fun e he => hy e (by simp [he])) hr hs
    simp only [List.cons_append]
    rw [ord, Lib.compareBytes]
    by_cases h : c = d
    · subst h
      rw [if_pos rfl, if_neg (UInt8.lt_irrefl c), if_neg (UInt8.lt_irrefl c)]
      exact ih
    · rw [if_neg h, if_neg hc, if_neg hd]
      by_cases h1 : c < d
      · rw [if_pos h1, if_pos h1]; simp
      · have h2 : d < c := UInt8.lt_of_le_of_ne (UInt8.not_lt.1 h1) (Ne.symm h)
        rw [if_neg h1, if_neg h1, if_pos h2]; simp
theorem ord_join : ∀ (l m : List (List UInt8)), l ≠ [] → m ≠ [] → (∀ x ∈ l, comp x = true) → (∀ x ∈ m, comp x = true) → ord (Lib.join l [47]) (Lib.join m [47]) = cmpParts l m
  | [], _, h, _, _, _ => absurd rfl h
  | _, [], _, h, _, _ => absurd rfl h
  | [x], [y], _, _, hl, hm => by
    have h := ord_app x y [] [] (comp_slash (hl x (by simp))) (comp_slash (hm y (by simp))) (.inl rfl) (.inl rfl)
    rw [Lib.join_one, Lib.join_one]
    rw [List.append_nil, List.append_nil] at h
    rw [h, cmpParts]
    rfl
  | [x], y :: z :: m, _, _, hl, hm => by
    have h := ord_app x y [] (47 :: Lib.join (z :: m) [47]) (comp_slash (hl x (by simp))) (comp_slash (hm y (by simp))) (.inl rfl) (.inr ⟨_, rfl⟩)
    rw [Lib.join_one, lib_join_cons]
    rw [List.append_nil] at h
    rw [h, cmpParts]
    rfl
  | x :: w :: l, [y], _, _, hl, hm => by
    have h := ord_app x y (47 :: Lib.join (w :: l) [47]) [] (comp_slash (hl x (by simp))) (comp_slash (hm y (by simp))) (.inr ⟨_, rfl⟩) (.inl rfl)
    rw [Lib.join_one, lib_join_cons]
    rw [List.append_nil] at h
    rw [h, cmpParts]
    rfl
  | x :: w :: l, y :: z :: m, _, _, hl, hm => by
    have h := ord_app x y (47 :: Lib.join (w :: l) [47]) (47 :: Lib.join (z :: m) [47]) (comp_slash (hl x (by simp))) (comp_slash (hm y (by simp))) (.inr ⟨_, rfl⟩) (.inr ⟨_, rfl⟩)
    rw [lib_join_cons, lib_join_cons, h, cmpParts, ord, if_pos rfl]
    rw [ord_join (w :: l) (z :: m) (by simp) (by simp) (fun e he => hl e (by simp [he])) (fun e he => hm e (by simp [he]))]
theorem ord_parts {a b : List UInt8} {l m : List (List UInt8)} (ha : parts a = some l) (hb : parts b = some m) : ord a b = cmpParts l m := by
  obtain ⟨rfl, h1, h2⟩ := parts_some ha
  obtain ⟨rfl, h3, h4⟩ := parts_some hb
  unfold join
  rw [ord, if_pos rfl, ord, if_pos rfl]
  exact ord_join l m h1 h3 h2 h4
theorem cmpParts_zero : ∀ {l m : List (List UInt8)}, cmpParts l m = 0 → l = m
  | [], [], _ => rfl
  | [], _ :: _, h => by simp [cmpParts] at h
  | _ :: _, [], h => by simp [cmpParts] at h
  | x :: r, y :: s, h => by
    rw [cmpParts] at h
    split at h
    · rename_i h1; exact absurd h h1
    · rename_i h1
      rw [compareBytes_zero (Decidable.not_not.1 h1), cmpParts_zero h]
theorem cmpParts_self : ∀ l : List (List UInt8), cmpParts l l = 0
  | [] => rfl
  | x :: r => by rw [cmpParts, compareBytes_self, if_neg (by simp), cmpParts_self r]
theorem cmpParts_range : ∀ l m : List (List UInt8), cmpParts l m = -1 ∨ cmpParts l m = 0 ∨ cmpParts l m = 1
  | [], [] => by simp [cmpParts]
  | [], _ :: _ => by simp [cmpParts]
  | _ :: _, [] => by simp [cmpParts]
  | x :: r, y :: s => by
    have h1 := compareBytes_range x y
    have h2 := cmpParts_range r s
    rw [cmpParts]
    split
    · exact h1
    · exact h2

/-! ### Under -/

theorem join_append (l m : List (List UInt8)) (hl : l ≠ []) (hm : m ≠ []) : Lib.join (l ++ m) [47] = Lib.join l [47] ++ 47 :: Lib.join m [47] := by
  induction l with
  | nil => exact absurd rfl hl
  | cons x r ih =>
    cases r with
    | nil =>
      cases m with
      | nil => exact absurd rfl hm
      | cons y s => rw [List.cons_append, List.nil_append, lib_join_cons, Lib.join_one]
    | cons y s =>
      have := ih (by simp)
      rw [List.cons_append] at this ⊢
      rw [List.cons_append, lib_join_cons, this, lib_join_cons]
      simp
/-- p lies in the directory: it begins with the directory and a separator. -/
def under (d p : List UInt8) : Bool := (d ++ [47]).isPrefixOf p
theorem segs_append (x r : List UInt8) : segs (x ++ 47 :: r) = segs x ++ segs r := by
  induction x with
  | nil => simp [segs]
  | cons c x ih =>
    rw [List.cons_append, segs, segs]
    by_cases h : c = 47
    · rw [if_pos h, if_pos h, ih]; rfl
    · rw [if_neg h, if_neg h, ih]
      rw [segs_cons x]
      simp
/-- Of a directory d and a path p: p begins with d and a separator exactly if it has more components, and begins with d's. -/
theorem under_parts {d p : List UInt8} {l m : List (List UInt8)} (hd : parts d = some l) (hp : parts p = some m) :
    under d p = (decide (m.length > l.length) && decide (cmpParts l (m.take l.length) = 0)) := by
  obtain ⟨rfl, h1, h2⟩ := parts_some hd
  obtain ⟨rfl, h3, h4⟩ := parts_some hp
  unfold under
  rw [Bool.eq_iff_iff, Bool.and_eq_true, decide_eq_true_eq, decide_eq_true_eq, List.isPrefixOf_iff_prefix]
  constructor
  · rintro ⟨t, ht⟩
    have e : Lib.join m [47] = Lib.join l [47] ++ 47 :: t := by
      unfold join at ht
      simp only [List.cons_append, List.append_assoc, List.cons.injEq, true_and, List.nil_append] at ht
      exact ht.symm
    have e2 : m = l ++ segs t := by
      rw [← segs_join m h3 fun x hx => comp_slash (h4 x hx), e, segs_append, segs_join l h1 fun x hx => comp_slash (h2 x hx)]
    have h5 := segs_length t
    rw [e2]
    refine ⟨by rw [List.length_append]; omega, ?_⟩
    rw [List.take_left]
    exact cmpParts_self l
  · rintro ⟨h5, h6⟩
    have e := cmpParts_zero h6
    have e2 : m = l ++ m.drop l.length := by
      conv => lhs; rw [← List.take_append_drop l.length m]
      rw [← e]
    have hne : m.drop l.length ≠ [] := by
      intro h
      have := congrArg List.length h
      simp at this
      omega
    refine ⟨Lib.join (m.drop l.length) [47], ?_⟩
    unfold join
    rw [e2, join_append l _ h1 hne]
    simp
theorem trim_under (d p : List UInt8) : (Lib.hasPrefix p d && !(Lib.trimPrefix p d).isEmpty && ((Lib.trimPrefix p d).headD 0 == 47)) = under d p := by
  unfold Lib.hasPrefix Lib.trimPrefix under Lib.hasPrefix
  rw [Bool.eq_iff_iff]
  simp only [Bool.and_eq_true, List.isPrefixOf_iff_prefix, beq_iff_eq, Bool.not_eq_true']
  constructor
  · rintro ⟨⟨h1, h2⟩, h3⟩
    have hb : d <+: p := h1
    obtain ⟨t, rfl⟩ := h1
    rw [if_pos hb] at h2 h3
    simp at h2 h3
    cases t with
    | nil => simp at h2
    | cons c t =>
      simp at h3
      subst h3
      exact ⟨t, by simp⟩
  · rintro ⟨t, rfl⟩
    have hb : d <+: d ++ [47] ++ t := ⟨[47] ++ t, by simp⟩
    rw [if_pos hb]
    refine ⟨⟨⟨[47] ++ t, by simp⟩, ?_⟩, ?_⟩ <;> simp

/-! ### The last separator -/

theorem get!_list (s : ByteArray) (j : Nat) (h : j < s.data.toList.length) : s.data[j]! = s.data.toList[j] := by
  have h' : j < s.data.size := by simpa using h
  rw [getElem!_pos s.data j h']
  simp
theorem last_step (s : ByteArray) (x r : List UInt8) (c : UInt8) (hs : s.data.toList = x ++ c :: r) (hr : ∀ d ∈ r, d ≠ c) : Lib.lastIndexByte s c.toNat = (x.length : Int) := by
  have hlen : s.size = (x ++ c :: r).length := by rw [Lib.size_eq, hs]
  have hg : ∀ j, (h : j < (x ++ c :: r).length) → s.data[j]! = (x ++ c :: r)[j] := by
    intro j h
    have h' : j < s.data.toList.length := by rw [hs]; exact h
    rw [get!_list s j h']
    simp only [hs]
  have hx : x.length < (x ++ c :: r).length := by simp
  have hat : (s.data[x.length]!).toNat = c.toNat := by rw [hg _ hx]; simp
  rcases Lib.lastIndexByte_spec s c.toNat with ⟨_, h2⟩ | ⟨i, hi, h1, h2, h3⟩
  · have := h2 x.length (by rw [hlen]; exact hx)
    rw [hat] at this
    exact absurd rfl this
  · rw [h1]
    by_cases hlt : i < x.length
    · have := h3 x.length hlt (by rw [hlen]; exact hx)
      rw [hat] at this
      exact absurd rfl this
    · by_cases he : i = x.length
      · rw [he]
      · exfalso
        rw [hlen] at hi
        rw [hg i hi] at h2
        have hi2 : i - x.length - 1 < r.length := by simp at hi; omega
        have e : (x ++ c :: r)[i] = r[i - x.length - 1] := by
          rw [List.getElem_append_right (by omega)]
          rw [List.getElem_cons]
          rw [dif_neg (by omega)]
        rw [e] at h2
        exact hr _ (List.getElem_mem hi2) (UInt8.toNat_inj.1 (by omega))
theorem last_plain (s : ByteArray) (c : UInt8) (h : ∀ d ∈ s.data.toList, d ≠ c) : Lib.lastIndexByte s c.toNat = -1 := by
  rcases Lib.lastIndexByte_spec s c.toNat with ⟨h1, _⟩ | ⟨i, hi, _, h2, _⟩
  · exact h1
  · exfalso
    have hi' : i < s.data.toList.length := by rw [← Lib.size_eq]; exact hi
    rw [get!_list s i hi'] at h2
    exact h _ (List.getElem_mem hi') (UInt8.toNat_inj.1 (by omega))

/-- A path: its directory, its name. -/
theorem valid_parts {p : List UInt8} (h : valid p = true) : ∃ (l : List (List UInt8)) (n : List UInt8), l ≠ [] ∧ (∀ x ∈ l, comp x = true) ∧ comp n = true ∧ parts p = some (l ++ [n]) ∧ p = join l ++ 47 :: n := by
  unfold valid at h
  rw [decide_eq_true_eq] at h
  obtain ⟨l, h1, h2, h3, h4, h5⟩ := depth_pos (show depth p ≠ 0 by omega)
  have hl : l = l.dropLast ++ [l.getLast h2] := (List.dropLast_concat_getLast h2).symm
  have hne : l.dropLast ≠ [] := by
    intro e
    have := congrArg List.length e
    rw [List.length_dropLast] at this
    simp at this
    omega
  refine ⟨l.dropLast, l.getLast h2, hne, fun x hx => h3 x ((List.dropLast_sublist l).subset hx), h3 _ (List.getLast_mem h2), by rw [← hl]; exact h1, ?_⟩
  rw [h4]
  unfold join
  conv => lhs; rw [hl]
  rw [join_append _ _ hne (by simp), Lib.join_one]
  simp
theorem valid_some {p : List UInt8} {l : List (List UInt8)} (h : parts p = some l) : valid p = decide (2 ≤ l.length) := by
  unfold valid; rw [depth_some h]
theorem valid_none {p : List UInt8} (h : parts p = none) : valid p = false := by
  unfold valid; rw [depth_none h]; rfl
theorem under_between {d a b c : List UInt8} (ha : under d a = true) (hc : under d c = true) (h1 : ord a b ≤ 0) (h2 : ord b c ≤ 0) : under d b = true := by
  unfold under at *
  rw [List.isPrefixOf_iff_prefix] at *
  obtain ⟨x, rfl⟩ := ha
  obtain ⟨z, rfl⟩ := hc
  exact ord_between _ x z b h1 h2
theorem under_dir (l : List (List UInt8)) (n : List UInt8) : under (join l) (join l ++ 47 :: n) = true := by
  unfold under
  rw [List.isPrefixOf_iff_prefix]
  exact ⟨n, by simp⟩
end Go.Proofs.YtihboibebhokbaaDoor.Pm
