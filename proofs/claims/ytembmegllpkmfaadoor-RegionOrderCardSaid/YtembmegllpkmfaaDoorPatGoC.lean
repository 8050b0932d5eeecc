/- The contract of the program's filled. The contract of the program's Fill. The contract of the program's Match once more, with what a nil answer says; how long captures are. -/
import Derived.Test.YtembmegllpkmfaaDoorPatGoB
import Derived.Test.YtembmegllpkmfaaDoorPathOwnAll
import Derived.Deep.RegionHeld3
import Derived.Deep.RegionLaw
namespace Go.Proofs.YtembmegllpkmfaaDoor
open Go.RowKit

/-- A value that is a slice with these strings. -/
def RowAt (w : World) (tv : Value) (us : List ByteArray) : Prop := ∃ A m c, tv = .slice A m c ∧ m = us.length ∧ m ≤ c ∧ c ≤ maxLen ∧ RdS w w.heap.size A us
def GivesF (w : World) (l : List (List UInt8)) (e : Ending) (w' : World) : Prop := ∃ v zs, e = .returned v ∧ OwnS w' w.heap.size v zs ∧ bs zs = l ∧ Below w.heap.size w w'
theorem fills_step {X T : List (List UInt8)} {k : Nat} (h : k < X.length) : Pt.fillsOf (X.drop k) T = match Pt.star X[k] with
    | none => X[k] :: Pt.fillsOf (X.drop (k + 1)) T
    | some s => (T.headD [] ++ s) :: Pt.fillsOf (X.drop (k + 1)) (T.drop 1) := by
  rw [List.drop_eq_getElem_cons h, Pt.fillsOf]
  cases Pt.star X[k] <;> rfl
theorem append_data (a b : ByteArray) : (a ++ b).data.toList = a.data.toList ++ b.data.toList := by simp [ByteArray.data_append]

end Go.Proofs.YtembmegllpkmfaaDoor

namespace Go.Proofs.YtembmegllpkmfaaDoor
open Go.RowKit

/-- The box of a call's parameter, and all behind it, at a later world. -/
structure In1 (w : World) (v0 v1 : Value) (t : TypeId) (w' : World) : Prop where
  below : Below (w.alloc (.cells #[v0, v1] t)).heap.size (w.alloc (.cells #[v0, v1] t)) w'
theorem In1.held {w w' : World} {v0 v1 : Value} {t : TypeId} (h : In1 w v0 v1 t w') : w'.cell? ⟨w.heap.size, 0, none⟩ = some v0 ∧ w'.cell? ⟨w.heap.size, 1, none⟩ = some v1 ∧ In1 w v0 v1 t w' := by
  obtain ⟨a, b⟩ := box_cells h.below
  exact ⟨a, b, h⟩
theorem In1.next {w w1 w' : World} {v0 v1 : Value} {t : TypeId} (h : In1 w v0 v1 t w1) (hb : Below w1.heap.size w1 w') : In1 w v0 v1 t w' := ⟨h.below.trans (hb.mono h.below.size)⟩
theorem In1.drew {w w' : World} {v0 v1 : Value} {t : TypeId} (h : In1 w v0 v1 t w') : In1 w v0 v1 t w'.drew := ⟨h.below.trans ⟨rfl, rfl, rfl, Nat.le_refl _, fun _ _ => rfl⟩⟩

abbrev S1 (w : World) (v0 v1 : Value) (t : TypeId) (w' : World) : Prop := w'.cell? ⟨w.heap.size, 0, none⟩ = some v0 ∧ w'.cell? ⟨w.heap.size, 1, none⟩ = some v1 ∧ In1 w v0 v1 t w'
theorem S1.next {w w1 w' : World} {v0 v1 : Value} {t : TypeId} (h : S1 w v0 v1 t w1) (hb : Below w1.heap.size w1 w') : S1 w v0 v1 t w' := (In1.next h.2.2 hb).held
theorem S1.nxt {w w1 w' : World} {v0 v1 : Value} {t : TypeId} (hb : Below w1.heap.size w1 w') (h : S1 w v0 v1 t w1) : S1 w v0 v1 t w' := (In1.next h.2.2 hb).held
theorem S1.drew {w w' : World} {v0 v1 : Value} {t : TypeId} (h : S1 w v0 v1 t w') : S1 w v0 v1 t w'.drew := (In1.drew h.2.2).held
theorem capsOkN_eq (p : Pt.Pat) (caps : List (List UInt8)) : capsOkN (Pt.stars p.parts) p.rest caps = Pt.capsOk p caps := by
  unfold capsOkN Pt.capsOk Pt.wilds
  rfl
theorem fills_sizes : ∀ {X T : List (List UInt8)}, (∀ x ∈ X, x.length ≤ 100000) → (∀ t ∈ T, t.length ≤ 100000) → ∀ z ∈ Pt.fillsOf X T, z.length ≤ 200000
  | [], _, _, _, z, hz => by cases hz
  | x :: X, T, h1, h2, z, hz => by
    cases hs : Pt.star x with
    | none =>
      rw [Pt.fillsOf_comp _ _ hs] at hz
      rcases List.mem_cons.1 hz with rfl | h
      · exact Nat.le_trans (h1 _ (by simp)) (by decide)
      · exact fills_sizes (fun y hy => h1 y (List.mem_cons_of_mem _ hy)) h2 z h
    | some s =>
      rw [Pt.fillsOf_star _ _ hs] at hz
      rcases List.mem_cons.1 hz with rfl | h
      · have hl := star_len hs
        have hx := h1 x (by simp)
        rw [List.length_append]
        cases T with
        | nil => simp; omega
        | cons t T =>
          have := h2 t (by simp)
          simp only [List.headD_cons]
          omega
      · exact fills_sizes (fun y hy => h1 y (List.mem_cons_of_mem _ hy)) (fun t ht => h2 t (List.mem_of_mem_drop ht)) z h

end Go.Proofs.YtembmegllpkmfaaDoor

namespace Go.Proofs.YtembmegllpkmfaaDoor
open Go.RowKit

def GivesPN (w : World) (o : Option (List (List UInt8))) (e : Ending) (w' : World) : Prop :=
  match o with
  | none => e = .returned (.tuple #[.slice none 0 0, .bool false]) ∧ Below w.heap.size w w'
  | some l => ∃ A xs c, e = .returned (.tuple #[.slice A (List.length xs) c, .bool true]) ∧ bs xs = l ∧ xs.length ≤ c ∧ c ≤ maxLen ∧ (A = none → c = 0) ∧ RdS w' w'.heap.size A xs ∧ Below w.heap.size w w'
theorem caps_sizes : ∀ {ps cs r : List (List UInt8)}, Pt.capsOf ps cs = some r → ∀ x ∈ r, ∃ c ∈ cs, x.length ≤ c.length
  | [], _, r, h, x, hx => by
    simp only [Pt.capsOf, Option.some.injEq] at h
    subst h
    cases hx
  | _ :: _, [], r, h, x, hx => by cases h
  | p :: ps, c :: cs, r, h, x, hx => by
    rw [Pt.capsOf_cons] at h
    cases hc : Pt.capture p c with
    | none => rw [hc] at h; cases h
    | some y =>
      rw [hc] at h
      simp only [Option.map_eq_some_iff] at h
      obtain ⟨r', hr', rfl⟩ := h
      have hy : y.length ≤ c.length := by
        unfold Pt.capture at hc
        split at hc
        · split at hc
          · injection hc with hc; subst hc; simp
          · cases hc
        · split at hc
          · injection hc with hc; subst hc; simp
          · cases hc
      have hm : x = y ∨ x ∈ r' := by
        split at hx
        · exact List.mem_cons.1 hx
        · exact .inr hx
      rcases hm with rfl | h2
      · exact ⟨c, by simp, hy⟩
      · obtain ⟨c', hc', hl⟩ := caps_sizes hr' x h2
        exact ⟨c', List.mem_cons_of_mem _ hc', hl⟩
theorem match_sizes {p : Pt.Pat} {path : List UInt8} {r : List (List UInt8)} (h : Pt.matchP p path = some r) : ∀ x ∈ r, x.length ≤ path.length := by
  obtain ⟨_, l, cs, hl, _, hcs, hr⟩ := Pt.matchP_some.1 h
  obtain ⟨hp, h2, hc⟩ := Pt.pathO_some.1 hl
  have hj : (Lib.join l [47]).length ≤ path.length := by
    rw [hp]
    unfold Pm.join
    simp only [List.length_cons]
    omega
  have hseg : Pm.segs (Lib.join l [47]) = l := Pm.segs_join l (by rintro rfl; simp at h2) fun x hx => Pm.comp_slash (hc x hx)
  have he : ∀ c ∈ l, c.length ≤ path.length := fun c hcl => by
    rw [← hseg] at hcl
    exact Nat.le_trans (segs_elem_le _ c hcl) hj
  intro x hx
  have hx2 : x ∈ cs ∨ x = Lib.join (l.drop p.parts.length) [47] := by
    rw [hr] at hx
    split at hx
    · rcases List.mem_append.1 hx with h | h
      · exact .inl h
      · exact .inr (List.mem_singleton.1 h)
    · exact .inl hx
  rcases hx2 with h | rfl
  · obtain ⟨c, hc1, hc2⟩ := caps_sizes hcs x h
    exact Nat.le_trans hc2 (he c hc1)
  · exact Nat.le_trans (join_drop_le _ _) hj
theorem filled_len {p : Pt.Pat} {caps : List (List UInt8)} (h : Pt.fillErr p caps = 0) (hp : ∀ x ∈ p.parts, x.length ≤ 100000) (hc : ∀ x ∈ caps, x.length ≤ 100000) (hl : caps.length ≤ 20) : (Pt.filled p caps).length ≤ 8000000 := by
  obtain ⟨hck, _, _⟩ := Pt.fillErr_zero.1 h
  have hok : Pt.capsOk p caps = true := by
    have h2 := Pt.fill_err p caps
    rw [if_pos hck, h] at h2
    cases hk : Pt.capsOk p caps with
    | true => rfl
    | false => rw [hk] at h2; simp at h2
  rw [Pt.fill_text hck hok]
  have h1 := lib_join_len 200000 (Pt.fillsOf p.parts caps ++ caps.drop (Pt.stars p.parts)) (by
    intro x hx
    rcases List.mem_append.1 hx with h | h
    · exact fills_sizes hp hc x h
    · exact Nat.le_trans (hc x (List.mem_of_mem_drop h)) (by decide))
  have h2 : (Pt.fillsOf p.parts caps ++ caps.drop (Pt.stars p.parts)).length ≤ 32 := by
    rw [List.length_append, Pt.fillsOf_len, List.length_drop]
    have := (Pt.check_ok.1 hck).2
    omega
  have h3 := Nat.mul_le_mul_right 200001 h2
  unfold Pm.join
  simp only [List.length_cons]
  omega

end Go.Proofs.YtembmegllpkmfaaDoor
