/- The plain mathematics of Agree, third part: a round of the reference's. No program. -/
import Derived.Test.YthgcnlhlhipllaaGreatDoorAgrMath2
namespace Go.Proofs.YthgcnlhlhipllaaGreatDoor.Pt
open Go

/-- The capture of the star of number k is determined. -/
def fixL : List (List UInt8) → Nat → List UInt8 → List (List UInt8)
  | [], _, _ => []
  | x :: ps, k, c => match star x with
    | none => x :: fixL ps k c
    | some s => match k with
      | 0 => (c ++ s) :: ps
      | k + 1 => x :: fixL ps k c
def fixP (p : Pat) (k : Nat) (c : List UInt8) : Pat := ⟨fixL p.parts k c, p.rest⟩
theorem fixL_comp {x : List UInt8} (ps : List (List UInt8)) (k : Nat) (c : List UInt8) (h : star x = none) : fixL (x :: ps) k c = x :: fixL ps k c := by rw [fixL, h]
theorem fixL_zero {x s : List UInt8} (ps : List (List UInt8)) (c : List UInt8) (h : star x = some s) : fixL (x :: ps) 0 c = (c ++ s) :: ps := by rw [fixL, h]
theorem fixL_succ {x s : List UInt8} (ps : List (List UInt8)) (k : Nat) (c : List UInt8) (h : star x = some s) : fixL (x :: ps) (k + 1) c = x :: fixL ps k c := by rw [fixL, h]
theorem fixL_len : ∀ (ps : List (List UInt8)) (k : Nat) (c : List UInt8), (fixL ps k c).length = ps.length
  | [], _, _ => rfl
  | x :: ps, k, c => by
    cases hs : star x with
    | none => rw [fixL_comp _ _ _ hs]; simp [fixL_len ps k c]
    | some s =>
      cases k with
      | zero => rw [fixL_zero _ _ hs]; simp
      | succ k => rw [fixL_succ _ _ _ hs]; simp [fixL_len ps k c]
theorem comp_of_star {c s x : List UInt8} (hc : Pm.comp c = true) (hs : star x = some s) : Pm.comp (c ++ s) = true := comp_append hc (star_some.1 hs).2
theorem fixL_parts : ∀ {ps : List (List UInt8)} {k : Nat} {c : List UInt8}, (∀ x ∈ ps, part x = true) → Pm.comp c = true → ∀ x ∈ fixL ps k c, part x = true
  | [], _, _, _, _, x, hx => by simp [fixL] at hx
  | y :: ps, k, c, hp, hc, x, hx => by
    have ih := fun k' => fixL_parts (ps := ps) (k := k') (c := c) (fun z hz => hp z (List.mem_cons_of_mem _ hz)) hc
    cases hs : star y with
    | none =>
      rw [fixL_comp _ _ _ hs] at hx
      rcases List.mem_cons.1 hx with rfl | hx
      · exact hp x (by simp)
      · exact ih k x hx
    | some s =>
      cases k with
      | zero =>
        rw [fixL_zero _ _ hs] at hx
        rcases List.mem_cons.1 hx with rfl | hx
        · exact part_comp (comp_of_star hc hs)
        · exact hp x (List.mem_cons_of_mem _ hx)
      | succ k =>
        rw [fixL_succ _ _ _ hs] at hx
        rcases List.mem_cons.1 hx with rfl | hx
        · exact hp x (by simp)
        · exact ih k x hx
theorem fixL_stars : ∀ {ps : List (List UInt8)} {k : Nat} {c : List UInt8}, Pm.comp c = true → k < stars ps → stars (fixL ps k c) + 1 = stars ps
  | [], k, _, _, h => by simp [stars] at h
  | y :: ps, k, c, hc, h => by
    rw [stars_cons] at h ⊢
    cases hs : star y with
    | none =>
      have hy : ¬ isStar y = true := isStar_none hs
      rw [if_neg hy] at h ⊢
      rw [fixL_comp _ _ _ hs, stars_cons, if_neg hy]
      have := fixL_stars (ps := ps) (k := k) hc (by omega)
      omega
    | some s =>
      have hy := isStar_of hs
      rw [if_pos hy] at h ⊢
      cases k with
      | zero =>
        rw [fixL_zero _ _ hs, stars_cons, if_neg (isStar_none (comp_star (comp_of_star hc hs)))]
      | succ k =>
        rw [fixL_succ _ _ _ hs, stars_cons, if_pos hy]
        have := fixL_stars (ps := ps) (k := k) hc (by omega)
        omega
theorem fixL_in : ∀ {ps : List (List UInt8)} {k : Nat} {c : List UInt8}, (∀ x ∈ ps, part x = true) → Pm.comp c = true → allIn (fixL ps k c) ps = true
  | [], _, _, _, _ => rfl
  | y :: ps, k, c, hp, hc => by
    have ih := fun k' => fixL_in (ps := ps) (k := k') (c := c) (fun z hz => hp z (List.mem_cons_of_mem _ hz)) hc
    have hself : allIn ps ps = true := by
      clear ih hp
      induction ps with
      | nil => rfl
      | cons z ps ih => rw [allIn, inside_self, ih]; rfl
    cases hs : star y with
    | none => rw [fixL_comp _ _ _ hs, allIn, inside_self, ih k]; rfl
    | some s =>
      cases k with
      | zero =>
        rw [fixL_zero _ _ hs, allIn, hself, Bool.and_true, inside_star (comp_star (comp_of_star hc hs)) hs]
        exact (pm_star hs).2 ⟨c, rfl, hc⟩
      | succ k => rw [fixL_succ _ _ _ hs, allIn, inside_self, ih k]; rfl
/-- A path whose capture of that number is the one matches the determined pattern. -/
theorem fixL_match : ∀ {ps l C : List (List UInt8)} {k : Nat} {c : List UInt8}, capsOf ps l = some C → k < stars ps → C.getD k [] = c → Pm.comp c = true → (capsOf (fixL ps k c) l).isSome = true
  | [], _, _, k, _, _, h, _, _ => by simp [stars] at h
  | y :: ps, [], _, _, _, h, _, _, _ => by simp [capsOf] at h
  | y :: ps, d :: l, C, k, c, h, hk, hC, hc => by
    rw [capsOf_cons] at h
    cases hd : capture y d with
    | none => rw [hd] at h; cases h
    | some z =>
      rw [hd] at h
      simp only at h
      cases h2 : capsOf ps l with
      | none => rw [h2] at h; cases h
      | some C0 =>
        rw [h2] at h
        simp only [Option.map_some, Option.some.injEq] at h
        rw [stars_cons] at hk
        cases hs : star y with
        | none =>
          have hy : ¬ isStar y = true := isStar_none hs
          rw [if_neg hy] at h hk
          subst h
          rw [fixL_comp _ _ _ hs, capsOf_cons, hd]
          simp only
          obtain ⟨C1, h3⟩ := Option.isSome_iff_exists.1 (fixL_match h2 (by omega) hC hc)
          rw [h3]
          rfl
        | some s =>
          have hy := isStar_of hs
          rw [if_pos hy] at h hk
          subst h
          cases k with
          | zero =>
            simp only [List.getD_cons_zero] at hC
            subst hC
            have hcd := (capture_star hs).1 hd
            rw [fixL_zero _ _ hs, capsOf_cons, capture_comp (comp_star (comp_of_star hc hs)), if_pos hcd.1.symm]
            simp only
            rw [h2]
            rfl
          | succ k =>
            simp only [List.getD_cons_succ] at hC
            rw [fixL_succ _ _ _ hs, capsOf_cons, hd]
            simp only
            obtain ⟨C1, h3⟩ := Option.isSome_iff_exists.1 (fixL_match h2 (by omega) hC hc)
            rw [h3]
            rfl
theorem fixP_check {p : Pat} {k : Nat} {c : List UInt8} (hp : check p = 0) (hc : Pm.comp c = true) : check (fixP p k c) = 0 ∧ within (fixP p k c) p = true := by
  obtain ⟨hf, hl⟩ := check_ok.1 hp
  have hk : check (fixP p k c) = 0 := by
    refine check_ok.2 ⟨?_, by unfold fixP; simp only; rw [fixL_len]; exact hl⟩
    obtain ⟨x, r, he, h1, h2, h3⟩ := form_iff.1 hf
    unfold fixP
    rw [he, fixL_comp _ _ _ (comp_star h2)]
    refine form_iff.2 ⟨x, _, rfl, ?_, h2, fixL_parts h3 hc⟩
    rcases h1 with h1 | h1
    · left
      intro h
      have := fixL_len r k c
      rw [h] at this
      exact h1 (List.eq_nil_of_length_eq_zero this.symm)
    · exact .inr h1
  refine ⟨hk, ?_⟩
  unfold within counts
  rw [hk, hp]
  have e1 : (fixP p k c).parts.length = p.parts.length := fixL_len _ _ _
  rw [show allIn (fixP p k c).parts p.parts = true from fixL_in (form_parts hf) hc, e1]
  simp only [decide_true, Bool.true_and, Bool.and_true, Nat.le_refl]
  rw [show (fixP p k c).rest = p.rest from rfl]
  cases p.rest <;> simp
theorem within_trans2 {p q r : Pat} (h1 : within p q = true) (h2 : within q r = true) : within p r = true :=
  within_of_all (within_parts h1).1 (within_parts h2).2.1 fun _ h => within_match h2 (within_match h1 h)
/-- What holds of the reference's pattern at the head of a round. -/
structure Inv (a b : Rul) (m : Pat) : Prop where
  ca : rcheck a = 0
  cb : rcheck b = 0
  ck : check m = 0
  wa : within m a.left = true
  wb : within m b.left = true
  all : ∀ p t, fwd a p = some t → fwd b p = some t → (matchP m p).isSome = true
theorem inv_lines {a b x y : Rul} {m : Pat} (h : Inv a b m) (hx : nleft a m = some x) (hy : nleft b m = some y) :
    rcheck x = 0 ∧ rcheck y = 0 ∧ x.left = m ∧ y.left = m ∧ ∀ p t, (fwd x p = some t ∧ fwd y p = some t) ↔ (fwd a p = some t ∧ fwd b p = some t) := by
  obtain ⟨_, _, m1, _, hm1, _, _, _, _, hxe, hxc⟩ := nleft_form hx
  obtain ⟨_, _, m2, _, hm2, _, _, _, _, hye, hyc⟩ := nleft_form hy
  have e1 := (meet_self h.wa).symm.trans hm1
  have e2 := (meet_self h.wb).symm.trans hm2
  refine ⟨hxc, hyc, by rw [hxe]; exact (Option.some.inj e1).symm, by rw [hye]; exact (Option.some.inj e2).symm, fun p t => ⟨?_, ?_⟩⟩
  · rintro ⟨f1, f2⟩
    exact ⟨(nleft_sub hx f1).1, (nleft_sub hy f2).1⟩
  · rintro ⟨f1, f2⟩
    have hm := h.all p t f1 f2
    exact ⟨by rw [nleft_fwd hx, if_pos hm]; exact f1, by rw [nleft_fwd hy, if_pos hm]; exact f2⟩
/-- No limit is exceeded where a pattern with as many parts exceeds none. -/
theorem nleftE_len {r : Rul} {p m : Pat} (hr : rcheck r = 0) (hp : check p = 0) (hm : meet r.left p = some m) : nleftE r p = if r.right.parts.length + (m.parts.length - r.left.parts.length) ≤ 12 then 0 else 43 := by
  obtain ⟨l, hb, h1, h2⟩ := bind_within (meet_within hm).1
  obtain ⟨c1, c2, c3, c4⟩ := rcheck_zero.1 hr
  have e := subst_err r.left l
  rw [h1, if_pos c1] at e
  have hbo : bindsOk r.left l = true := by
    cases hbo : bindsOk r.left l with
    | true => rfl
    | false => rw [hbo] at e; simp at e
  have hbr : bindsOk r.right l = true := by
    rw [← hbo]
    unfold bindsOk wilds
    rw [c3, c4]
  obtain ⟨_, _, _, _, _, f6, _⟩ := subst_form h1
  rw [h2] at f6
  have hfl : (fillsOf r.left.parts ((heads l).take (stars r.left.parts))).length = r.left.parts.length := fills_len _ _
  have hrest : (if r.left.rest then (l.getD (stars r.left.parts) none_).parts.length else 0) = m.parts.length - r.left.parts.length := by
    have := congrArg List.length f6
    rw [List.length_append, hfl] at this
    split
    · rename_i hh
      rw [if_pos hh] at this
      omega
    · rename_i hh
      rw [if_neg hh] at this
      simp at this
      omega
  rw [c3, c4] at hrest
  have e2 := subst_err r.right l
  rw [if_pos c2, if_pos hbr, hrest] at e2
  unfold nleftE
  rw [if_pos hr, if_pos hp, hm]
  simp only
  rw [hb, Option.getD_some, e2]
  by_cases h12 : r.right.parts.length + (m.parts.length - r.left.parts.length) ≤ 12
  · rw [if_pos h12, if_pos rfl, if_pos h12]
  · rw [if_neg h12, if_neg (by decide), if_neg h12]
theorem nleft_some_iff {r : Rul} {p m : Pat} (hr : rcheck r = 0) (hp : check p = 0) (hm : meet r.left p = some m) : (nleft r p).isSome = decide (r.right.parts.length + (m.parts.length - r.left.parts.length) ≤ 12) := by
  have he := nleftE_len hr hp hm
  by_cases h12 : r.right.parts.length + (m.parts.length - r.left.parts.length) ≤ 12
  · rw [if_pos h12] at he
    rw [decide_eq_true h12]
    cases hn : nleft r p with
    | some n => rfl
    | none =>
      obtain ⟨t, ht⟩ := some_path (meet_checks hm).2.2
      have h2 := meet_some hm t
      rw [ht, Bool.and_eq_true] at h2
      have := nleft_none hn he t h2.1
      rw [h2.2] at this
      cases this
  · rw [if_neg h12] at he
    rw [decide_eq_false h12]
    cases hn : nleft r p with
    | none => rfl
    | some n => rw [nleft_some_E hn] at he; cases he
/-- The reference's first test, in words of the program's error. -/
theorem agreeE_meet {a b : Rul} {m : Pat} (ca : rcheck a = 0) (cb : rcheck b = 0) (hm : meet a.left b.left = some m) :
    Inv a b m ∧ (match nleft a b.left with
      | none => nleftE a b.left
      | some x => nleftE b x.left) = if (nleft a m).isSome && (nleft b m).isSome then 0 else 43 := by
  obtain ⟨c1, c2, c3⟩ := meet_checks hm
  obtain ⟨w1, w2⟩ := meet_within hm
  refine ⟨⟨ca, cb, c3, w1, w2, fun p t f1 f2 => by
    have := meet_some hm p
    rw [(fwd_back f1).1, (fwd_back f2).1] at this
    exact this.symm⟩, ?_⟩
  have hs := nleft_some_iff ca c2 hm
  have hs' := nleft_some_iff ca c3 (meet_self w1)
  have ht' := nleft_some_iff cb c3 (meet_self w2)
  have hbe := nleftE_len cb c3 (meet_self w2)
  rw [hs', ht']
  cases hn : nleft a b.left with
  | none =>
    rw [hn] at hs
    simp only
    rw [nleftE_len ca c2 hm, ← hs']
    have h0 : ¬ a.right.parts.length + (m.parts.length - a.left.parts.length) ≤ 12 := of_decide_eq_false (by rw [← hs]; rfl)
    rw [if_neg h0, hs', decide_eq_false h0]
    rfl
  | some x =>
    rw [hn] at hs
    simp only
    obtain ⟨_, _, m1, _, hm1, _, _, _, _, hxe, _⟩ := nleft_form hn
    have e : x.left = m := by rw [hxe]; exact Option.some.inj (hm1.symm.trans hm)
    have h0 : decide (a.right.parts.length + (m.parts.length - a.left.parts.length) ≤ 12) = true := by rw [← hs]; rfl
    rw [e, hbe, h0, Bool.true_and]
    by_cases h12 : b.right.parts.length + (m.parts.length - b.left.parts.length) ≤ 12
    · rw [if_pos h12, decide_eq_true h12, if_pos rfl]
    · rw [if_neg h12, decide_eq_false h12, if_neg (by decide)]
/-- The next round's pattern: a star of x stands against a component of y. -/
theorem inv_fix {a b x y : Rul} {m : Pat} {us : List (List UInt8)} {u v s c : List UInt8} {vs ws : List (List UInt8)} (h : Inv a b m) (hx : nleft a m = some x) (hy : nleft b m = some y)
    (ha : x.right.parts = us ++ u :: vs) (hb : y.right.parts = us ++ v :: ws) (hu : star u = some s) (hv : star v = none) (hc : capture u v = some c) :
    Inv a b (fixP m (stars us) c) ∧ stars (fixP m (stars us) c).parts + 1 = stars m.parts ∧ (nleft a (fixP m (stars us) c)).isSome = true ∧ (nleft b (fixP m (stars us) c)).isSome = true := by
  obtain ⟨cx, cy, lx, ly, hcom⟩ := inv_lines h hx hy
  obtain ⟨_, hcc⟩ := (capture_star hu).1 hc
  obtain ⟨k1, k2⟩ := fixP_check (k := stars us) h.ck hcc
  have hst : stars us < stars m.parts := by
    have := (rcheck_zero.1 cx).2.2.1
    rw [← lx, this, ha, stars_append, stars_cons, if_pos (isStar_of hu)]
    omega
  have wa' := within_trans2 k2 h.wa
  have wb' := within_trans2 k2 h.wb
  have hlen : (fixP m (stars us) c).parts.length = m.parts.length := fixL_len _ _ _
  have na := nleft_some_iff h.ca h.ck (meet_self h.wa)
  have nb := nleft_some_iff h.cb h.ck (meet_self h.wb)
  have na' := nleft_some_iff h.ca k1 (meet_self wa')
  have nb' := nleft_some_iff h.cb k1 (meet_self wb')
  rw [hlen, ← na, hx] at na'
  rw [hlen, ← nb, hy] at nb'
  refine ⟨⟨h.ca, h.cb, k1, wa', wb', fun p t f1 f2 => ?_⟩, fixL_stars hcc hst, na', nb'⟩
  obtain ⟨g1, g2⟩ := (hcom p t).2 ⟨f1, f2⟩
  obtain ⟨_, C, m1, m2⟩ := fwd_some.1 g1
  obtain ⟨_, C', n1, n2⟩ := fwd_some.1 g2
  rw [lx] at m1
  rw [ly] at n1
  obtain rfl : C = C' := Option.some.inj (m1.symm.trans n1)
  have hrr : x.right.rest = y.right.rest := by rw [← (rcheck_zero.1 cx).2.2.2, ← (rcheck_zero.1 cy).2.2.2, lx, ly]
  obtain ⟨l, D, hpo, q1, q2, _, _, _⟩ := two_match hrr m2 n2
  rw [ha] at q1
  rw [hb] at q2
  obtain ⟨l1, e, l2, C1, z, C2, e1, e2, e3, e4, e5, e6, _⟩ := caps_split q1
  obtain ⟨l1', e', l2', C1', z', C2', f1', f2', f3', f4', _, _, _⟩ := caps_split q2
  obtain ⟨_, hee, _⟩ := split_same (e1.symm.trans f1') (e2.trans f2'.symm)
  have hve := capture_none_eq hv f4'
  rw [← hee] at hve
  rw [← hve, hc] at e4
  obtain rfl := Option.some.inj e4
  -- the captures of the left path
  obtain ⟨_, lp, cs, g1', g2', g3', g4'⟩ := matchP_some.1 m1
  obtain ⟨_, l', cs', r1', r2', r3', r4'⟩ := matchP_some.1 m2
  obtain rfl : l = l' := Option.some.inj (hpo.symm.trans r1')
  rw [ha, q1] at r3'
  obtain rfl := Option.some.inj r3'
  have hrest : m.rest = x.right.rest := by rw [← lx]; exact (rcheck_zero.1 cx).2.2.2
  have hcs : cs = D := by
    rw [hrest] at g4'
    rw [r4'] at g4'
    cases hq : x.right.rest with
    | false => rw [hq] at g4'; simpa using g4'.symm
    | true =>
      rw [hq] at g4'
      simp only [if_true] at g4'
      exact (List.append_inj' g4' rfl).1.symm
  have hk : cs.getD (stars us) [] = c := by
    rw [hcs, e6, if_pos (isStar_of hu)]
    rw [List.getD_eq_getElem?_getD, List.getElem?_append_right (by omega), e3, Nat.sub_self]
    rfl
  have hmm := fixL_match g3' hst hk hcc
  obtain ⟨E, hE⟩ := Option.isSome_iff_exists.1 hmm
  refine Option.isSome_iff_exists.2 ⟨_, matchP_some.2 ⟨k1, lp, E, g1', ?_, hE, rfl⟩⟩
  unfold fits at g2' ⊢
  rw [hlen]
  exact g2'
/-- The rounds that end without a pattern. -/
theorem inv_dead {a b x y : Rul} {m : Pat} {us : List (List UInt8)} {u v : List UInt8} {vs ws : List (List UInt8)} (h : Inv a b m) (hx : nleft a m = some x) (hy : nleft b m = some y)
    (ha : x.right.parts = us ++ u :: vs) (hb : y.right.parts = us ++ v :: ws) (huv : u ≠ v)
    (hd : (∃ s t, star u = some s ∧ star v = some t) ∨ (star u = none ∧ star v = none) ∨ (star v = none ∧ capture u v = none) ∨ (star u = none ∧ capture v u = none)) : AgreeIs a b none := by
  obtain ⟨cx, cy, lx, ly, hcom⟩ := inv_lines h hx hy
  have hl : x.left = y.left := by rw [lx, ly]
  refine AgreeIs.dead fun p t f1 f2 => ?_
  obtain ⟨g1, g2⟩ := (hcom p t).2 ⟨f1, f2⟩
  rcases hd with ⟨s, t', h1, h2⟩ | ⟨h1, h2⟩ | ⟨h1, h2⟩ | ⟨h1, h2⟩
  · exact agree_stars hl ha hb h1 h2 huv g1 g2
  · exact huv ((agree_comp hl ha hb h2 g1 g2).2.2 h1)
  · obtain ⟨_, C, m1, m2⟩ := fwd_some.1 g1
    obtain ⟨_, C', n1, n2⟩ := fwd_some.1 g2
    rw [hl] at m1
    obtain rfl : C = C' := Option.some.inj (m1.symm.trans n1)
    obtain ⟨l, D, _, q1, q2, _⟩ := two_match (by rw [← (rcheck_zero.1 cx).2.2.2, ← (rcheck_zero.1 cy).2.2.2, hl]) m2 n2
    rw [ha] at q1
    rw [hb] at q2
    have := (comp_there h1 q1 q2).1
    rw [h2] at this
    cases this
  · obtain ⟨_, C, m1, m2⟩ := fwd_some.1 g1
    obtain ⟨_, C', n1, n2⟩ := fwd_some.1 g2
    rw [hl] at m1
    obtain rfl : C = C' := Option.some.inj (m1.symm.trans n1)
    obtain ⟨l, D, _, q1, q2, _⟩ := two_match (by rw [← (rcheck_zero.1 cx).2.2.2, ← (rcheck_zero.1 cy).2.2.2, hl]) m2 n2
    rw [ha] at q1
    rw [hb] at q2
    have := (comp_there h1 q2 q1).1
    rw [h2] at this
    cases this
theorem inv_len {a b x y : Rul} {m : Pat} (h : Inv a b m) (hx : nleft a m = some x) (hy : nleft b m = some y) (hn : x.right.parts.length ≠ y.right.parts.length) : AgreeIs a b none := by
  obtain ⟨_, _, lx, ly, hcom⟩ := inv_lines h hx hy
  refine AgreeIs.dead fun p t f1 f2 => ?_
  obtain ⟨g1, g2⟩ := (hcom p t).2 ⟨f1, f2⟩
  exact agree_len (by rw [lx, ly]) hn g1 g2
theorem inv_whole {a b x y : Rul} {m : Pat} (h : Inv a b m) (hx : nleft a m = some x) (hy : nleft b m = some y) (hn : x.right.parts = y.right.parts) : AgreeIs a b (some m) := by
  obtain ⟨cx, cy, lx, ly, hcom⟩ := inv_lines h hx hy
  have := (AgreeIs.whole cx cy (by rw [lx, ly]) hn).of hcom
  rwa [lx] at this
end Go.Proofs.YthgcnlhlhipllaaGreatDoor.Pt
