/- The plain mathematics of layer 1's encodings: seven-bit groups, their decoding, their inverse. It speaks of numbers and lists of bytes alone. No condition beyond those typed. -/
namespace Go.Proofs.Ytbkpmmnkelihgaa.Cm

/-- The groups of seven bits of a number. -/
def enc (v : Nat) : List UInt8 := if h : v < 128 then [UInt8.ofNat v] else UInt8.ofNat (v % 128 + 128) :: enc (v / 128)

theorem enc_lt {v : Nat} (h : v < 128) : enc v = [UInt8.ofNat v] := by rw [enc]; simp [h]
theorem enc_ge {v : Nat} (h : ¬ v < 128) : enc v = UInt8.ofNat (v % 128 + 128) :: enc (v / 128) := by rw [enc]; simp [h]

theorem nat_byte {n : Nat} (h : n < 256) : (UInt8.ofNat n).toNat = n := by simp; omega

/-- What decoding finds: the number, how many bytes it took, 0 or the error's number. -/
def scan : Nat → List UInt8 → Nat → Nat × Nat × Nat
  | _, [], _ => (0, 0, 11)
  | i, c :: r, acc =>
    if i = 9 ∧ c.toNat ≠ 1 then (0, 0, 12)
    else if 128 ≤ c.toNat then scan (i + 1) r (acc + c.toNat % 128 * 128 ^ i)
    else if c.toNat = 0 ∧ 0 < i then (0, 0, 12)
    else (acc + c.toNat % 128 * 128 ^ i, i + 1, 0)

def big : Nat := 18446744073709551616

theorem pow_le_of {i : Nat} (h : i ≤ 9) : 128 ^ i * 2 ≤ big ∧ (i ≤ 8 → 128 ^ i * 128 * 2 ≤ big) := by
  have : i = 0 ∨ i = 1 ∨ i = 2 ∨ i = 3 ∨ i = 4 ∨ i = 5 ∨ i = 6 ∨ i = 7 ∨ i = 8 ∨ i = 9 := by omega
  unfold big
  rcases this with rfl | rfl | rfl | rfl | rfl | rfl | rfl | rfl | rfl | rfl <;> simp

theorem regroup (q r p : Nat) : r * p + q * (p * 128) = (128 * q + r) * p := by
  rw [Nat.add_mul, Nat.mul_comm 128 q, Nat.mul_assoc, Nat.mul_comm 128 p]; omega

theorem join_groups (u acc p : Nat) : acc + u % 128 * p + u / 128 * (p * 128) = acc + u * p := by
  have h := Nat.div_add_mod u 128
  have h2 := regroup (u / 128) (u % 128) p
  rw [h] at h2
  omega

theorem quo_small {u p : Nat} (h : u * p < big) : u / 128 * (p * 128) < big := by
  have h2 := join_groups u 0 p
  omega

theorem nine_small {u : Nat} (h : u * 128 ^ 9 < big) : u < 2 := by
  have e : (128 : Nat) ^ 9 = 9223372036854775808 := by decide
  rw [e] at h
  unfold big at h
  omega

theorem scan_enc : ∀ (u i acc : Nat) (rest : List UInt8), i ≤ 9 → u * 128 ^ i < big → (0 < i → 0 < u) →
    scan i (enc u ++ rest) acc = (acc + u * 128 ^ i, i + (enc u).length, 0) := by
  intro u
  induction u using Nat.strongRecOn with
  | _ u ih =>
    intro i acc rest hi hb hp
    by_cases h : u < 128
    · rw [enc_lt h]
      have hn : (UInt8.ofNat u).toNat = u := nat_byte (by omega)
      have h9 : ¬ (i = 9 ∧ u ≠ 1) := by
        rintro ⟨rfl, h1⟩
        have := nine_small hb
        have := hp (by omega)
        omega
      have h128 : ¬ 128 ≤ u := by omega
      have h0 : ¬ (u = 0 ∧ 0 < i) := by
        rintro ⟨rfl, h1⟩
        have := hp h1
        omega
      simp only [List.cons_append, List.nil_append, scan, hn, if_neg h9, if_neg h128, if_neg h0, Nat.mod_eq_of_lt h, List.length_cons, List.length_nil]
    · rw [enc_ge h]
      have hn : (UInt8.ofNat (u % 128 + 128)).toNat = u % 128 + 128 := nat_byte (by omega)
      have hi9 : i ≠ 9 := by
        rintro rfl
        have := nine_small hb
        omega
      have h9 : ¬ (i = 9 ∧ u % 128 + 128 ≠ 1) := fun hh => hi9 hh.1
      have h128 : 128 ≤ u % 128 + 128 := by omega
      have hm : (u % 128 + 128) % 128 = u % 128 := by omega
      have hrec := ih (u / 128) (by omega) (i + 1) (acc + u % 128 * 128 ^ i) rest (by omega) (by rw [Nat.pow_succ]; exact quo_small hb) (fun _ => by omega)
      simp only [List.cons_append, scan, hn, if_neg h9, if_pos h128, hm, hrec, List.length_cons]
      rw [Nat.pow_succ, join_groups]
      simp only [Prod.mk.injEq, and_true, true_and]
      omega

theorem scan_enc0 (u : Nat) (rest : List UInt8) (h : u < big) : scan 0 (enc u ++ rest) 0 = (u, (enc u).length, 0) := by
  have := scan_enc u 0 0 rest (by omega) (by simpa using h) (fun h => by omega)
  simpa using this

theorem scan_err : ∀ (l : List UInt8) (i acc : Nat), (scan i l acc).2.2 = 0 ∨ ((scan i l acc).1 = 0 ∧ (scan i l acc).2.1 = 0 ∧ ((scan i l acc).2.2 = 11 ∨ (scan i l acc).2.2 = 12)) := by
  intro l
  induction l with
  | nil => intro i acc; right; simp [scan]
  | cons c r ih =>
    intro i acc
    simp only [scan]
    split
    · right; simp
    · split
      · exact ih _ _
      · split
        · right; simp
        · left; rfl

theorem scan_ok : ∀ (l : List UInt8) (i acc : Nat), i ≤ 9 → (scan i l acc).2.2 = 0 →
    ∃ u rest, l = enc u ++ rest ∧ (scan i l acc).1 = acc + u * 128 ^ i ∧ (scan i l acc).2.1 = i + (enc u).length ∧ u * 128 ^ i < big ∧ (0 < i → 0 < u) := by
  intro l
  induction l with
  | nil => intro i acc _ h; simp [scan] at h
  | cons c r ih =>
    intro i acc hi h
    have hc := c.toNat_lt
    simp only [scan] at h ⊢
    by_cases h9 : i = 9 ∧ c.toNat ≠ 1
    · rw [if_pos h9] at h; simp at h
    · rw [if_neg h9] at h ⊢
      by_cases h128 : 128 ≤ c.toNat
      · rw [if_pos h128] at h ⊢
        have hi8 : i ≤ 8 := by omega
        obtain ⟨u, rest, hl, hv, hn, hb, hp⟩ := ih (i + 1) _ (by omega) h
        have hu : 0 < u := hp (by omega)
        rw [Nat.pow_succ] at hv hb
        have hge : ¬ (128 * u + c.toNat % 128 < 128) := by omega
        have he : enc (128 * u + c.toNat % 128) = c :: enc u := by
          rw [enc_ge hge]
          have e1 : (128 * u + c.toNat % 128) % 128 + 128 = c.toNat := by omega
          have e2 : (128 * u + c.toNat % 128) / 128 = u := by omega
          rw [e1, e2]
          simp
        refine ⟨128 * u + c.toNat % 128, rest, ?_, ?_, ?_, ?_, fun _ => by omega⟩
        · rw [he, hl]; rfl
        · rw [hv, ← regroup]; omega
        · rw [hn, he, List.length_cons]; omega
        · rw [← regroup]
          have hlt : c.toNat % 128 * 128 ^ i < 128 ^ i * 128 := by
            rw [Nat.mul_comm]
            exact Nat.mul_lt_mul_of_pos_left (by omega) (Nat.pow_pos (by omega))
          have hq : u * (128 ^ i * 128) < big := hb
          -- the sum is below the next multiple
          have hdiv : big = 2 ^ 64 := by decide
          have hpw : (128 : Nat) ^ i * 128 = 2 ^ (7 * i + 7) := by
            have e128 : (128 : Nat) = 2 ^ 7 := by decide
            rw [e128, ← Nat.pow_mul, ← Nat.pow_add]
          have hle : 7 * i + 7 ≤ 64 := by omega
          have hsplit : big = 2 ^ (64 - (7 * i + 7)) * (128 ^ i * 128) := by
            rw [hpw, hdiv, ← Nat.pow_add]
            congr 1
            omega
          have hu2 : u < 2 ^ (64 - (7 * i + 7)) := by
            rw [hsplit] at hq
            exact Nat.lt_of_mul_lt_mul_right hq
          have hu3 : (u + 1) * (128 ^ i * 128) ≤ 2 ^ (64 - (7 * i + 7)) * (128 ^ i * 128) := Nat.mul_le_mul_right _ hu2
          rw [← hsplit, Nat.add_mul, Nat.one_mul] at hu3
          omega
      · rw [if_neg h128] at h ⊢
        by_cases h0 : c.toNat = 0 ∧ 0 < i
        · rw [if_pos h0] at h; simp at h
        · rw [if_neg h0] at h ⊢
          have hlt : c.toNat < 128 := by omega
          refine ⟨c.toNat, r, ?_, ?_, ?_, ?_, fun hp => by omega⟩
          · rw [enc_lt hlt]; simp
          · simp only [Nat.mod_eq_of_lt hlt]
          · rw [enc_lt hlt]; rfl
          · have hp := pow_le_of hi
            by_cases h8 : i ≤ 8
            · have h2 := hp.2 h8
              have h3 : c.toNat * 128 ^ i ≤ 128 * 128 ^ i := Nat.mul_le_mul_right _ (by omega)
              have h4 : 0 < 128 ^ i := Nat.pow_pos (by omega)
              rw [Nat.mul_comm 128] at h3
              omega
            · obtain rfl : i = 9 := by omega
              have h1 : c.toNat = 1 := by omega
              rw [h1]
              decide

theorem scan_ok0 {l : List UInt8} (h : (scan 0 l 0).2.2 = 0) : ∃ u rest, l = enc u ++ rest ∧ scan 0 l 0 = (u, (enc u).length, 0) ∧ u < big := by
  obtain ⟨u, rest, hl, hv, hn, hb, _⟩ := scan_ok l 0 0 (by omega) h
  refine ⟨u, rest, hl, ?_, by simpa using hb⟩
  rcases hs : scan 0 l 0 with ⟨a, b, c⟩
  rw [hs] at h hv hn
  simp at h hv hn
  subst h hv hn
  rfl

/-- All bytes say that more follow, and the end comes before the tenth: too short. -/
theorem scan_short : ∀ (l : List UInt8) (i acc : Nat), (∀ c ∈ l, 128 ≤ c.toNat) → i + l.length < 10 → scan i l acc = (0, 0, 11) := by
  intro l
  induction l with
  | nil => intro i acc _ _; rfl
  | cons c r ih =>
    intro i acc h hl
    have hc : 128 ≤ c.toNat := h c (by simp)
    simp only [List.length_cons] at hl
    have h9 : ¬ (i = 9 ∧ c.toNat ≠ 1) := fun hh => by omega
    simp only [scan, if_neg h9, if_pos hc]
    exact ih _ _ (fun x hx => h x (by simp [hx])) (by omega)

theorem enc_pos (u : Nat) : 1 ≤ (enc u).length := by
  by_cases h : u < 128
  · rw [enc_lt h]; simp
  · rw [enc_ge h]; simp

theorem enc_len : ∀ (u i : Nat), i ≤ 9 → u * 128 ^ i < big → i + (enc u).length ≤ 10 := by
  intro u
  induction u using Nat.strongRecOn with
  | _ u ih =>
    intro i hi hb
    by_cases h : u < 128
    · rw [enc_lt h]; simp; omega
    · rw [enc_ge h]
      have hi9 : i ≠ 9 := by
        rintro rfl
        have := nine_small hb
        omega
      have := ih (u / 128) (by omega) (i + 1) (by omega) (by rw [Nat.pow_succ]; exact quo_small hb)
      simp only [List.length_cons]
      omega

theorem enc_le {u : Nat} (h : u < big) : (enc u).length ≤ 10 := by
  have := enc_len u 0 (by omega) (by simpa using h)
  omega

theorem enc_front : ∀ (u j : Nat) (hj : j + 1 < (enc u).length), 128 ≤ ((enc u)[j]'(by omega)).toNat := by
  intro u
  induction u using Nat.strongRecOn with
  | _ u ih =>
    intro j hj
    by_cases h : u < 128
    · rw [enc_lt h] at hj; simp at hj
    · have e := enc_ge h
      rcases j with _ | j
      · simp only [e, List.getElem_cons_zero]
        rw [nat_byte (by omega)]
        omega
      · have hj' : j + 1 < (enc (u / 128)).length := by rw [e] at hj; simpa using hj
        simp only [e, List.getElem_cons_succ]
        exact ih (u / 128) (by omega) j hj'

theorem scan_cut {u cut : Nat} (hb : u < big) (h : cut < (enc u).length) : scan 0 ((enc u).take cut) 0 = (0, 0, 11) := by
  have hl := enc_le hb
  refine scan_short _ _ _ (fun c hc => ?_) (by simp; omega)
  obtain ⟨j, hj, rfl⟩ := List.getElem_of_mem hc
  simp only [List.length_take] at hj
  rw [List.getElem_take]
  exact enc_front u j (by omega)

theorem enc_mono : ∀ (w v : Nat), v ≤ w → (enc v).length ≤ (enc w).length := by
  intro w
  induction w using Nat.strongRecOn with
  | _ w ih =>
    intro v hv
    by_cases h : v < 128
    · rw [enc_lt h]; exact enc_pos w
    · have hw : ¬ w < 128 := by omega
      rw [enc_ge h, enc_ge hw]
      simp only [List.length_cons]
      have := ih (w / 128) (by omega) (v / 128) (Nat.div_le_div_right hv)
      omega

/-- None is a beginning of another one. -/
theorem enc_apart {v w : Nat} (hv : v < big) (hw : w < big) (h : (enc v).take (min (enc v).length (enc w).length) = (enc w).take (min (enc v).length (enc w).length)) : v = w := by
  have key : ∀ a b : Nat, a < big → b < big → (enc a).length ≤ (enc b).length → enc a = (enc b).take (enc a).length → a = b := by
    intro a b ha hb _ he
    have e1 := scan_enc0 a ((enc b).drop (enc a).length) ha
    have e2 := scan_enc0 b [] hb
    have e3 : enc a ++ (enc b).drop (enc a).length = enc b ++ [] := by
      conv => lhs; lhs; rw [he]
      rw [List.take_append_drop, List.append_nil]
    rw [e3, e2] at e1
    simp at e1
    exact e1.1.symm
  by_cases hle : (enc v).length ≤ (enc w).length
  · refine key v w hv hw hle ?_
    rw [Nat.min_eq_left hle, List.take_length] at h
    exact h
  · have hle' : (enc w).length ≤ (enc v).length := by omega
    refine (key w v hw hv hle' ?_).symm
    rw [Nat.min_eq_right hle', List.take_length] at h
    exact h.symm

/-! ### Signs -/
def foldI (n : Int) : Nat := if 0 ≤ n then (2 * n).toNat else (-2 * n - 1).toNat
def unfoldN (u : Nat) : Int := if u % 2 = 0 then ((u / 2 : Nat) : Int) else -((u / 2 : Nat) : Int) - 1

theorem foldI_lt {n : Int} (h : -9223372036854775808 ≤ n) (h' : n ≤ 9223372036854775807) : foldI n < big := by
  unfold foldI big
  split <;> omega
theorem unfold_fold (n : Int) : unfoldN (foldI n) = n := by
  unfold foldI unfoldN
  split <;> split <;> omega
theorem fold_unfold (u : Nat) : foldI (unfoldN u) = u := by
  unfold foldI unfoldN
  split <;> split <;> omega
theorem unfold_bd {u : Nat} (h : u < big) : -9223372036854775808 ≤ unfoldN u ∧ unfoldN u ≤ 9223372036854775807 := by
  unfold unfoldN
  unfold big at h
  split <;> omega

/-! ### The answers of the decoding functions -/
def uintRes (l : List UInt8) (at_ : Int) : Nat × Nat × Nat :=
  if at_ < 0 ∨ (l.length : Int) < at_ then (0, 0, 10)
  else ((scan 0 (l.drop at_.toNat) 0).1, if (scan 0 (l.drop at_.toNat) 0).2.2 = 0 then at_.toNat + (scan 0 (l.drop at_.toNat) 0).2.1 else 0, (scan 0 (l.drop at_.toNat) 0).2.2)

def textRes (l : List UInt8) (at_ most : Int) : List UInt8 × Nat × Nat :=
  if (uintRes l at_).2.2 ≠ 0 then ([], 0, (uintRes l at_).2.2)
  else if max most 0 < ((uintRes l at_).1 : Int) then ([], 0, 13)
  else if l.length - (uintRes l at_).2.1 < (uintRes l at_).1 then ([], 0, 11)
  else ((l.drop (uintRes l at_).2.1).take (uintRes l at_).1, (uintRes l at_).2.1 + (uintRes l at_).1, 0)

def boolRes (l : List UInt8) (at_ : Int) : Bool × Nat × Nat :=
  if at_ < 0 ∨ (l.length : Int) < at_ then (false, 0, 10)
  else match l[at_.toNat]? with
  | .none => (false, 0, 11)
  | some c => if 1 < c.toNat then (false, 0, 12) else (c.toNat == 1, at_.toNat + 1, 0)

theorem uintRes_cases (l : List UInt8) (at_ : Int) :
    ((uintRes l at_).2.2 = 0 ∧ 0 ≤ at_ ∧ at_ ≤ l.length ∧ (uintRes l at_).1 < big ∧ at_.toNat < (uintRes l at_).2.1 ∧ (uintRes l at_).2.1 ≤ l.length) ∨
    ((uintRes l at_).1 = 0 ∧ (uintRes l at_).2.1 = 0 ∧ ((uintRes l at_).2.2 = 10 ∨ (uintRes l at_).2.2 = 11 ∨ (uintRes l at_).2.2 = 12)) := by
  unfold uintRes
  by_cases h : at_ < 0 ∨ (l.length : Int) < at_
  · right; simp [h]
  · rw [if_neg h]
    rcases scan_err (l.drop at_.toNat) 0 0 with h0 | ⟨h1, h2, h3⟩
    · left
      obtain ⟨u, rest, hl, hs, hu⟩ := scan_ok0 h0
      have hp := enc_pos u
      have hlen : (l.drop at_.toNat).length = (enc u ++ rest).length := by rw [← hl]
      simp only [List.length_drop, List.length_append] at hlen
      rw [hs]
      refine ⟨rfl, by omega, by omega, hu, ?_, ?_⟩
      · show at_.toNat < at_.toNat + (enc u).length
        omega
      · show at_.toNat + (enc u).length ≤ l.length
        omega
    · right
      have hne : (scan 0 (l.drop at_.toNat) 0).2.2 ≠ 0 := by omega
      rw [if_neg hne]
      exact ⟨h1, rfl, .inr h3⟩


/-- What was encoded is decoded, wherever it stands. -/
theorem uintRes_at (p r : List UInt8) {x : Nat} (hx : x < big) : uintRes (p ++ enc x ++ r) (p.length : Int) = (x, p.length + (enc x).length, 0) := by
  unfold uintRes
  have h : ¬ ((p.length : Int) < 0 ∨ ((p ++ enc x ++ r).length : Int) < (p.length : Int)) := by
    simp only [List.length_append]
    omega
  have hd : (p ++ enc x ++ r).drop p.length = enc x ++ r := by rw [List.append_assoc]; exact List.drop_left
  rw [if_neg h, Int.toNat_natCast, hd, scan_enc0 x r hx]
  rfl


theorem textRes_at (p s r : List UInt8) (most : Int) (hs : s.length < big) :
    textRes (p ++ enc s.length ++ s ++ r) (p.length : Int) most = if max most 0 < (s.length : Int) then ([], 0, 13) else (s, (p ++ enc s.length ++ s).length, 0) := by
  have h := uintRes_at p (s ++ r) hs
  rw [← List.append_assoc] at h
  unfold textRes
  rw [h]
  simp only [ne_eq, not_true_eq_false, if_false]
  by_cases hm : max most 0 < (s.length : Int)
  · rw [if_pos hm, if_pos hm]
  · rw [if_neg hm, if_neg hm]
    have hlen : (p ++ enc s.length ++ s ++ r).length = p.length + (enc s.length).length + s.length + r.length := by simp only [List.length_append]
    have hd : (p ++ enc s.length ++ s ++ r).drop (p.length + (enc s.length).length) = s ++ r := by
      rw [List.append_assoc, ← List.length_append]
      exact List.drop_left
    rw [if_neg (by omega), hd, List.take_left]
    simp only [List.length_append]

theorem boolRes_at (p r : List UInt8) (b : Bool) : boolRes (p ++ [if b then 1 else 0] ++ r) (p.length : Int) = (b, p.length + 1, 0) := by
  unfold boolRes
  have h : ¬ ((p.length : Int) < 0 ∨ ((p ++ [if b then (1 : UInt8) else 0] ++ r).length : Int) < (p.length : Int)) := by
    simp only [List.length_append]
    omega
  have hg : (p ++ [if b then (1 : UInt8) else 0] ++ r)[p.length]? = some (if b then 1 else 0) := by
    rw [List.append_assoc, List.getElem?_append_right (by omega)]
    simp
  rw [if_neg h, Int.toNat_natCast, hg]
  cases b <;> rfl


/-- A proper beginning of an encoded text is too short. -/
theorem textRes_cut (s : List UInt8) {cut : Nat} (hs : s.length < big) (hc : cut < (enc s.length ++ s).length) :
    textRes ((enc s.length ++ s).take cut) 0 (s.length : Int) = ([], 0, 11) := by
  have hnn : ¬ ((0 : Int) < 0 ∨ ((((enc s.length ++ s).take cut).length : Nat) : Int) < 0) := by omega
  have hu : uintRes ((enc s.length ++ s).take cut) 0 = ((scan 0 ((enc s.length ++ s).take cut) 0).1, if (scan 0 ((enc s.length ++ s).take cut) 0).2.2 = 0 then 0 + (scan 0 ((enc s.length ++ s).take cut) 0).2.1 else 0, (scan 0 ((enc s.length ++ s).take cut) 0).2.2) := by
    unfold uintRes
    rw [if_neg hnn]
    rfl
  by_cases hlt : cut < (enc s.length).length
  · have ht : (enc s.length ++ s).take cut = (enc s.length).take cut := List.take_append_of_le_length (by omega)
    rw [ht] at hu ⊢
    rw [scan_cut hs hlt] at hu
    unfold textRes
    rw [hu]
    rfl
  · have ht : (enc s.length ++ s).take cut = enc s.length ++ s.take (cut - (enc s.length).length) := by
      rw [List.take_append, List.take_of_length_le (by omega)]
    rw [ht] at hu ⊢
    rw [scan_enc0 _ _ hs] at hu
    simp only [if_true, Nat.zero_add] at hu
    unfold textRes
    rw [hu]
    simp only [List.length_append] at hc
    have hmx : ¬ (max (s.length : Int) 0 < (s.length : Int)) := by omega
    have hfew : (enc s.length ++ s.take (cut - (enc s.length).length)).length - (enc s.length).length < s.length := by
      simp only [List.length_append, List.length_take]
      omega
    simp only [ne_eq, not_true_eq_false, if_false]
    rw [if_neg hmx, if_pos hfew]


/-- What was decoded is the encoding of the number, and nothing else. -/
theorem uintRes_take (l : List UInt8) (k : Nat) (hk : k ≤ l.length) (h : (uintRes l k).2.2 = 0) : l.take (uintRes l k).2.1 = l.take k ++ enc (uintRes l k).1 := by
  have hnn : ¬ ((k : Int) < 0 ∨ (l.length : Int) < (k : Int)) := by omega
  unfold uintRes at h ⊢
  rw [if_neg hnn, Int.toNat_natCast] at h ⊢
  obtain ⟨u, rest, hl, hs, _⟩ := scan_ok0 h
  rw [hs]
  simp only [if_true]
  rw [List.take_add, hl, List.take_left]

theorem uintRes_not10 (l : List UInt8) (k : Nat) (hk : k ≤ l.length) : (uintRes l k).2.2 ≠ 10 := by
  have hnn : ¬ ((k : Int) < 0 ∨ (l.length : Int) < (k : Int)) := by omega
  unfold uintRes
  rw [if_neg hnn, Int.toNat_natCast]
  rcases scan_err (l.drop k) 0 0 with h0 | ⟨_, _, h3⟩
  · simp only [h0]
    decide
  · simp only
    omega

end Go.Proofs.Ytbkpmmnkelihgaa.Cm
