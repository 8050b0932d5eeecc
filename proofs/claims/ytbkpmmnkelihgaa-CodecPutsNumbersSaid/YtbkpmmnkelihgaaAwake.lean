/- The contracts of the laws' own helpers: same, awake. -/
import Derived.Test.YtbkpmmnkelihgaaPut
import Derived.Test.YtbkpmmnkelihgaaRef2
namespace Go.Proofs.Ytbkpmmnkelihgaa
open Go.RowKit

theorem same_yes (A B : Option Addr) (l m : List UInt8) (c d BA BB : Nat) (w : World) (ha : Rd w BA A l) (hb : Rd w BB B m) (h : l = m) :
    Calls Try.prog 17 #[.slice A l.length c, .slice B m.length d] w fun e w' => e = .returned (.bool true) ∧ w = w' := by
  subst h
  have HA := Lib.hid ha
  have HB := Lib.hid hb
  clear ha hb
  go_enter Try.func17, Try.ntmps17
  go_wp2_with (first
    | (refine wpList_convert_rd rfl 22 9 5 (.tmp 5) byteT' Try.underlying9 rfl _ _ _ _ rfl _ rfl HA.out ?_)
    | (refine wpList_convert_rd rfl 22 9 5 (.tmp 7) byteT' Try.underlying9 rfl _ _ _ _ rfl _ rfl HB.out ?_))
  go_ret
  exact ⟨rfl, rfl⟩

theorem same_no (A B : Option Addr) (l m : List UInt8) (c d BA BB : Nat) (w : World) (ha : Rd w BA A l) (hb : Rd w BB B m) (h : l ≠ m) :
    Calls Try.prog 17 #[.slice A l.length c, .slice B m.length d] w fun e w' => e = .returned (.bool false) ∧ w = w' := by
  have HA := Lib.hid ha
  have HB := Lib.hid hb
  have he : (l == m) = false := by rw [beq_eq_false_iff_ne]; exact h
  clear ha hb h
  go_enter Try.func17, Try.ntmps17
  go_wp2_with (first
    | (refine wpList_convert_rd rfl 22 9 5 (.tmp 5) byteT' Try.underlying9 rfl _ _ _ _ rfl _ rfl HA.out ?_)
    | (refine wpList_convert_rd rfl 22 9 5 (.tmp 7) byteT' Try.underlying9 rfl _ _ _ _ rfl _ rfl HB.out ?_))
  go_ret
  exact ⟨rfl, rfl⟩

theorem enc300 : [] ++ Cm.enc 300 = [172, 2] := by
  rw [Cm.enc_ge (by omega), Cm.enc_lt (by omega)]
  rfl
theorem encm1 : [] ++ Cm.enc (Cm.foldI (-1)) = [1] := by
  have : Cm.foldI (-1) = 1 := by decide
  rw [this, Cm.enc_lt (by omega)]
  rfl
theorem encab : [7] ++ Cm.enc 2 ++ [97, 98] = ([7, 2, 97, 98] : List UInt8) := by
  rw [Cm.enc_lt (by omega)]
  rfl

def Holds (w : World) (e : Ending) (w' : World) : Prop := e = .returned (.bool true) ∧ Below w.heap.size w w'

theorem awake_any (w : World) : Calls Try.prog 14 #[] w (Holds w) := by
  have p1 : ∀ w : World, Calls Try.prog 15 #[.slice none 0 0, .int .u64 300] w (Makes w [172, 2]) := by
    intro w
    have h := put_uint none [] 0 300 w (Rd.nil _) (by omega) (by simp)
    rw [enc300] at h
    exact h
  have p2 : ∀ w : World, Calls Try.prog 16 #[.slice none 0 0, .int .i64 (-1)] w (Makes w [1]) := by
    intro w
    have h := put_int none [] 0 (-1) w (Rd.nil _) (by omega) (by omega) (by simp)
    rw [encm1] at h
    exact h
  have p3 : ∀ w : World, Calls Try.prog 20 #[.slice (some ⟨w.heap.size, 0, none⟩) 1 1, .string ⟨#[97, 98]⟩] (w.alloc (.cells #[.int .u8 7] 5)) (Makes (w.alloc (.cells #[.int .u8 7] 5)) [7, 2, 97, 98]) := by
    intro w
    have hr := Rd.new' w 7 7 rfl 5
    have h := put_text (some ⟨w.heap.size, 0, none⟩) [7] 1 ⟨#[97, 98]⟩ (w.alloc (.cells #[.int .u8 7] 5)) (hr.more (by simp)) (by decide)
    rw [show ((⟨#[97, 98]⟩ : ByteArray)).size = 2 from rfl, show ((⟨#[97, 98]⟩ : ByteArray)).data.toList = [97, 98] from rfl, encab] at h
    exact h
  have P1 := Lib.hid p1
  have P2 := Lib.hid p2
  have P3 := Lib.hid p3
  clear p1 p2 p3
  go_enter Try.func14, Try.ntmps14
  go_wp2_with fail
  with_reducible refine (P1.out _).mono ?_
  rintro e w1 ⟨v1, rfl, ho1, hb1⟩
  obtain ⟨A1, c1, rfl, hc1, hm1, hr1⟩ := ho1.form
  have hu : Calls Try.prog 24 #[.slice A1 2 c1, .int .i64 0] w1 (Gives3 w1 .u64 (300, 2, 0)) := uint_any A1 [172, 2] c1 0 w1 hr1 hc1 (by simp)
  have HU := Lib.hid hu
  clear hu ho1 hc1 hm1 hr1
  go_wp2_with fail
  with_reducible refine HU.out.mono ?_
  rintro e w' ⟨rfl, rfl⟩
  go_wp2_with fail
  with_reducible refine (P2.out _).mono ?_
  rintro e w2 ⟨v2, rfl, ho2, hb2⟩
  obtain ⟨A2, c2, rfl, _, _, hr2⟩ := ho2.form
  have k2 : (convert 22 9 (.slice A2 1 c2)).run Try.prog w2 = .ok (.string ⟨#[1]⟩) w2 := run_convert_rd 22 9 5 byteT' Try.underlying9 _ A2 [1] c2 hr2
  have hs1 := hb1.size
  have hs2 := hb2.size
  clear ho2 hr2
  go_wp2_with fail
  with_reducible refine (P3.out _).mono ?_
  rintro e w3 ⟨v3, rfl, ho3, hb3⟩
  obtain ⟨A3, c3, rfl, _, _, hr3⟩ := ho3.form
  have k3 : (convert 22 9 (.slice A3 4 c3)).run Try.prog w3 = .ok (.string ⟨#[7, 2, 97, 98]⟩) w3 := run_convert_rd 22 9 5 byteT' Try.underlying9 _ A3 [7, 2, 97, 98] c3 hr3
  clear ho3 hr3 k2
  go_wp2
  go_ret
  exact ⟨rfl, ((hb1.trans (hb2.mono hs1)).trans ((Below.refl _ _).alloc (Nat.le_trans hs1 hs2) _)).trans (hb3.mono (by simp; omega))⟩

/-- What is known of a slice of numbers that came in: nil, or a row of cells that fit their kind. -/
def IsRow (k : IntKind) (w : World) (a : Option Addr) (len cap : Nat) (zs : List Int) : Prop :=
  (a = none ∧ len = 0 ∧ cap = 0 ∧ zs = []) ∨
  ∃ x, a = some x ∧ len ≤ cap ∧ cap ≤ maxLen ∧ zs.length = cap ∧ (∀ i, i < zs.length → w.cell? (x.add i) = some (.int k (zs.getD i 0))) ∧ ∀ n ∈ zs, (Lit.int k n).wf = true

theorem isRow_rd {w : World} {a : Option Addr} {len cap : Nat} {zs : List Int} (h : IsRow .u8 w a len cap zs) :
    ∃ l : List UInt8, len = l.length ∧ l.length ≤ cap ∧ (cap : Int) ≤ 9223372036854775807 ∧ Rd w w.heap.size a l := by
  rcases h with ⟨_, h1, h2, _⟩ | ⟨x, hx, hl, hm, hz, hc, hw⟩
  · exact ⟨[], h1, by simp, by omega, .inl rfl⟩
  · have hm2 : (cap : Int) ≤ 9223372036854775807 := by unfold maxLen at hm; omega
    refine ⟨(zs.take len).map fun n => UInt8.ofNat n.toNat, by simp; omega, by simp; omega, hm2, ?_⟩
    by_cases h0 : len = 0
    · left; rw [h0]; simp
    · obtain ⟨g, o, spot⟩ := x
      have hc0 := hc 0 (by omega)
      have hspot : spot = none := by simpa [Addr.add] using World.cell?_spot hc0
      subst hspot
      refine .inr ⟨g, o, hx, World.block_lt_of_cell? w _ hc0, fun j hj => ?_⟩
      simp only [List.length_map, List.length_take] at hj
      have hj1 := hc j (by omega)
      rw [add_plain] at hj1
      rw [hj1]
      have hjz : j < zs.length := by omega
      have hwf := hw zs[j] (List.getElem_mem hjz)
      have hbd : 0 ≤ zs[j] ∧ zs[j] ≤ 255 := by
        simp [Lit.wf, IntKind.min, IntKind.max, IntKind.signed, IntKind.bits] at hwf
        omega
      simp only [List.getElem_map, List.getElem_take]
      rw [List.getD_eq_getElem?_getD, List.getElem?_eq_getElem hjz, Option.getD_some, Cm.nat_byte (by omega)]
      congr 2
      omega

end Go.Proofs.Ytbkpmmnkelihgaa
