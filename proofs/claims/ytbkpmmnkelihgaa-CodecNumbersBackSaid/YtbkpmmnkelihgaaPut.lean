/- The contracts of layer 1's functions that make bytes: extended, appendUint, PutUint, PutInt, PutText, PutBool, and their references. -/
import Derived.Test.YtbkpmmnkelihgaaLen
import Derived.Test.YtbkpmmnkelihgaaMem
namespace Go.Proofs.Ytbkpmmnkelihgaa
open Go.RowKit

theorem byteT : ByteT Try.prog 22 5 := ⟨Try.underlying22, Try.underlying5, by kernel_rfl⟩

/-- It returns a slice of its own that holds these bytes; what was there stays. -/
def Makes (w : World) (l : List UInt8) (e : Ending) (w' : World) : Prop := ∃ v, e = .returned v ∧ Own w' w.heap.size 5 v l ∧ Below w.heap.size w w'

theorem own_spliced {w : World} {g n r : Nat} {l : List UInt8} {cur : List Value} (hn : n = l.length) (hcur : cur.length = n + r) (hm : n + r ≤ maxLen) {base : Nat} (hb : base ≤ g)
    (h : w.heap[g]? = some (.cells (splice cur 0 (u8s l)).toArray 5 (0, 0))) : Own w base 5 (.slice (some ⟨g, 0, none⟩) n (n + r)) l := by
  subst hn
  refine ⟨by simp [u8s_length], .inr ⟨g, l.length + r, _, rfl, hb, h, by omega, hm, ?_, ?_⟩⟩
  · simp [splice, u8s_length, hcur]
  · simp [splice, u8s_length]

theorem ext_any (A : Option Addr) (l : List UInt8) (c r : Nat) (w : World) (hr : Rd w w.heap.size A l) (hb : l.length + r ≤ 140737488355328) :
    Calls Try.prog 33 #[.slice A l.length c, .int .i64 r] w (Makes w l) := by
  obtain ⟨i, hi, hz, hz1, hz2⟩ := byteT.parts
  have hmk0 := run_make (P := Try.prog) w 22 5 i _ byteT.sl hi hz .i64 .i64 (l.length : Int) ((l.length : Int) + (r : Int)) (by omega) (by omega) (by rw [hz2]; omega) (by omega)
  have e1 : ((l.length : Int) + (r : Int)).toNat = l.length + r := by omega
  have e2 : (l.length : Int).toNat = l.length := by omega
  rw [e1, e2, hz1, Nat.mul_one] at hmk0
  generalize hcur : madeCells (Value.int IntKind.u8 0).cells (l.length + r) = cur at hmk0
  have hcl : cur.size = l.length + r := by rw [← hcur]; exact size_madeCells _ _
  have HC := Lib.hid hcl
  clear hcl hcur e1 e2 hz hz1 hz2 hi
  go_enter Try.func33, Try.ntmps33
  have hfr : Rd (w.alloc (Obj.cells cur 5)) w.heap.size A l := hr.below ((Below.refl _ _).alloc (Nat.le_refl _) _)
  have hbel : Below w.heap.size w (w.alloc (Obj.cells cur 5)) := (Below.refl _ _).alloc (Nat.le_refl _) _
  have hsz1 : (Try.prog.info? 5).map (·.size) = some 1 := by kernel_rfl
  have hcells : (w.alloc (Obj.cells cur 5)).heap[w.heap.size]? = some (.cells cur.toList.toArray 5 (0, 0)) := by rw [Array.toArray_toList]; exact heap_alloc_new w _
  have hle : (u8s l).length = Nat.min l.length l.length := by rw [u8s_length]; exact (Nat.min_self _).symm
  have hpos : 0 < (u8s l).length → (some (⟨w.heap.size, 0, none⟩ : Addr)) = some ⟨w.heap.size, 0, none⟩ ∧ ∃ ad, A = some ad ∧ ∀ j v, (u8s l)[j]? = some v → (w.alloc (Obj.cells cur 5)).cell? (ad.add j) = some v := by
    intro h0
    rw [u8s_length] at h0
    obtain ⟨g, o, hA, _, _⟩ := hfr.cell h0
    exact ⟨rfl, _, hA, hfr.cells hA⟩
  have hlen : cur.toList.length = l.length + r := Array.length_toList.trans HC.out
  have hfit : 0 + (u8s l).length ≤ cur.toList.length := by
    rw [hlen, u8s_length]
    omega
  clear hlen
  have H1 := Lib.hid hcells; have H2 := Lib.hid hle; have H3 := Lib.hid hpos; have H4 := Lib.hid hfit; have H5 := Lib.hid hsz1; have H6 := Lib.hid hfr; have H7 := Lib.hid hbel
  clear hcells hle hpos hfit hsz1 hfr hbel
  go_wp2_with (refine wpList_copy_splice rfl (.tmp 13) (.tmp 14) 22 22 rfl 5 Try.underlying22 H5.out _ _ _ _ _ _ rfl rfl w.heap.size 0 cur.toList 5 H1.out (u8s l) H2.out H3.out H4.out u8s_one w.heap.size w H7.out (Nat.le_refl _) ?_; intro w2 hg2 hb2)
  go_ret
  exact ⟨_, rfl, own_spliced rfl (Array.length_toList.trans HC.out) (Nat.le_trans hb (by unfold maxLen; omega)) (Nat.le_refl _) hg2.out, hb2⟩

def AppP (w : World) (base : Nat) (l : List UInt8) (e : Ending) (w' : World) : Prop := ∃ v, e = .returned v ∧ Own w' base 5 v l ∧ Below base w w'

theorem app_any (v : Value) (l : List UInt8) (x base : Nat) (w : World) (hown : Own w base 5 v l) (hbase : base ≤ w.heap.size) (hx : (x : Int) ≤ 18446744073709551615) (hb : l.length + 10 ≤ 140737488355328) :
    Calls Try.prog 32 #[v, .int .u64 x] w (AppP w base (l ++ Cm.enc x)) := by
  go_enter Try.func32, Try.ntmps32
  go_wp2
  go_loopw [0, 1] (fun s t wr => ∃ (y : Nat) (m : List UInt8), t = .int .u64 y ∧ (y : Int) ≤ 18446744073709551615 ∧ Hid (m ++ Cm.enc y = l ++ Cm.enc x) ∧ Own wr base 5 s m ∧ Below base w wr) (fun _ t _ => (intOf t).toNat)
  case atStart => exact ⟨x, l, rfl, hx, rfl, hown, Below.refl _ _⟩
  case round =>
    obtain ⟨y, m, rfl, hy, hm, ho, hbl⟩ := hrel
    have hlen : m.length + 1 ≤ 140737488355328 := by
      have e1 : (m ++ Cm.enc y).length = (l ++ Cm.enc x).length := by rw [hm.out]
      rw [List.length_append, List.length_append] at e1
      have e2 := Cm.enc_pos y
      have e3 := Cm.enc_le (show x < Cm.big by unfold Cm.big; omega)
      omega
    have hsz := hbl.size
    by_cases hlt : y < 128
    · have h127 : (y : Int) ≤ 127 := by omega
      have hz : (y : Int) = ((UInt8.ofNat y).toNat : Int) := by rw [Cm.nat_byte (by omega)]
      have HZ := Lib.hid hz
      have HF : Hid (m ++ [UInt8.ofNat y] = l ++ Cm.enc x) := by rw [← hm.out, Cm.enc_lt hlt]; rfl
      clear hlt hz hm
      go_wp2_with (at_builtin; refine wpList_append_rd rfl (.tmp 16) (.tmp 19) 22 5 byteT rfl base _ m rfl (Own.below ho ((Below.refl _ _).alloc (Nat.le_refl _) _)) _ _ [UInt8.ofNat y] _ rfl (Rd.new' wr _ _ HZ.out 5) hlen (by simp; omega) ?_; intro v2 w2 hown2 hb2)
      go_ret
      rw [HF.out] at hown2
      exact ⟨_, rfl, hown2, (hbl.trans ((Below.refl _ _).alloc (by omega) _)).trans hb2⟩
    · have h127 : (127 : Int) < y := by omega
      have hz : bits .or .u8 ((y : Int) % 128) 128 = ((UInt8.ofNat (y % 128 + 128)).toNat : Int) := by
        have e := or128_u8 (x := y % 128) (by omega)
        rw [Int.natCast_emod] at e
        rw [Cm.nat_byte (by omega)]
        exact e
      have HZ := Lib.hid hz
      have ha : bits .and .u64 (y : Int) 127 = ((y % 128 : Nat) : Int) := and127_u64 (by omega)
      have HF : Hid (m ++ [UInt8.ofNat (y % 128 + 128)] ++ Cm.enc (y / 128) = l ++ Cm.enc x) := by rw [← hm.out, Cm.enc_ge hlt, List.append_assoc]; rfl
      clear hlt hm hz
      go_wp2_with (at_builtin; refine wpList_append_rd rfl (.tmp 7) (.tmp 12) 22 5 byteT rfl base _ m rfl (Own.below ho ((Below.refl _ _).alloc (Nat.le_refl _) _)) _ _ [UInt8.ofNat (y % 128 + 128)] _ rfl (Rd.new' wr _ _ HZ.out 5) hlen (by simp; omega) ?_; intro v2 w2 hown2 hb2)
      go_roundw
      case rel => exact ⟨y / 128, _, by go_num, by omega, HF, hown2, (hbl.trans ((Below.refl _ _).alloc (by omega) _)).trans hb2⟩
      case measure => simp [intOf]; omega

theorem put_uint (A : Option Addr) (l : List UInt8) (c x : Nat) (w : World) (hr : Rd w w.heap.size A l) (hx : (x : Int) ≤ 18446744073709551615) (hb : l.length + 10 ≤ 140737488355328) :
    Calls Try.prog 15 #[.slice A l.length c, .int .u64 x] w (Makes w (l ++ Cm.enc x)) := by
  go_enter Try.func15, Try.ntmps15
  go_wp2_with fail
  with_reducible refine (size_any _ _ (by omega) hx).mono ?_
  rintro e w' ⟨r, hr2, rfl, rfl⟩
  go_wp2_with fail
  with_reducible refine (ext_any _ _ _ _ _ hr (by omega)).mono ?_
  rintro e w1 ⟨v1, rfl, ho1, hb1⟩
  go_wp2_with fail
  with_reducible refine (app_any _ _ _ _ _ ho1 hb1.size hx hb).mono ?_
  rintro e w2 ⟨v2, rfl, ho2, hb2⟩
  go_wp2
  go_ret
  exact ⟨v2, rfl, ho2, hb1.trans hb2⟩

theorem put_int (A : Option Addr) (l : List UInt8) (c : Nat) (n : Int) (w : World) (hr : Rd w w.heap.size A l) (h : -9223372036854775808 ≤ n) (h' : n ≤ 9223372036854775807) (hb : l.length + 10 ≤ 140737488355328) :
    Calls Try.prog 16 #[.slice A l.length c, .int .i64 n] w (Makes w (l ++ Cm.enc (Cm.foldI n))) := by
  have hf := Cm.foldI_lt h h'
  unfold Cm.big at hf
  have hf2 : (Cm.foldI n : Int) ≤ 18446744073709551615 := by omega
  clear hf
  go_enter Try.func16, Try.ntmps16
  go_wp2_with fail
  with_reducible refine (fold_any _ _ h h').mono ?_
  rintro e w' ⟨rfl, rfl⟩
  go_wp2_with fail
  with_reducible refine (put_uint _ _ _ _ _ hr hf2 hb).mono ?_
  rintro e w2 ⟨v2, rfl, ho2, hb2⟩
  go_wp2
  go_ret
  exact ⟨v2, rfl, ho2, hb2⟩

theorem put_text (A : Option Addr) (l : List UInt8) (c : Nat) (s : ByteArray) (w : World) (hr : Rd w w.heap.size A l) (hb : l.length + s.size + 10 ≤ 140737488355328) :
    Calls Try.prog 20 #[.slice A l.length c, .string s] w (Makes w (l ++ Cm.enc s.size ++ s.data.toList)) := by
  have hle := Cm.enc_le (show s.size < Cm.big by unfold Cm.big; omega)
  go_enter Try.func20, Try.ntmps20
  go_wp2_with fail
  with_reducible refine (size_any _ _ (by omega) (by omega)).mono ?_
  rintro e w' ⟨r, hr2, rfl, rfl⟩
  go_wp2_with fail
  rw [show ((r : Int) + (s.size : Int)) = ((r + s.size : Nat) : Int) from by omega]
  with_reducible refine (ext_any _ _ _ _ _ hr (by omega)).mono ?_
  rintro e w1 ⟨v1, rfl, ho1, hb1⟩
  go_wp2_with fail
  with_reducible refine (app_any _ _ _ _ _ ho1 hb1.size (by omega) (by omega)).mono ?_
  rintro e w2 ⟨v2, rfl, ho2, hb2⟩
  have hs2 := hb1.size
  have hs3 := hb2.size
  have hl2 : (l ++ Cm.enc s.size).length + s.size ≤ 140737488355328 := by rw [List.length_append]; omega
  have HL := Lib.hid hl2
  clear hl2
  go_wp2_with (at_builtin; refine wpList_append_str rfl (.tmp 17) (.tmp 18) 22 9 5 byteT Try.underlying9 rfl w.heap.size _ _ rfl ho2 s rfl HL.out (by omega) ?_; intro v3 w3 ho3 hb3)
  go_ret
  exact ⟨v3, rfl, ho3, (hb1.trans hb2).trans hb3⟩

set_option maxRecDepth 1000000 in
theorem ref_uint (x : Nat) : ∀ w : World, (x : Int) ≤ 18446744073709551615 → Calls Try.prog 18 #[.int .u64 x] w (Makes w (Cm.enc x)) := by
  induction x using Nat.strongRecOn with
  | _ x ih =>
    intro w hx
    by_cases hlt : x < 128
    · have h1 : (x : Int) < 128 := by omega
      have HZ : Hid ((x : Int) = ((UInt8.ofNat x).toNat : Int)) := by show _ = _; rw [Cm.nat_byte (by omega)]
      have HF : Hid (Cm.enc x = [UInt8.ofNat x]) := Cm.enc_lt hlt
      clear hlt ih
      go_enter Try.func18, Try.ntmps18
      go_wp2
      go_ret
      refine ⟨_, rfl, ?_, (Below.refl _ _).alloc (Nat.le_refl _) _⟩
      rw [HF.out]
      exact Own.new' w _ _ HZ.out 5
    · have h1 : (128 : Int) ≤ x := by omega
      have HF : Hid (Cm.enc x = UInt8.ofNat (x % 128 + 128) :: Cm.enc (x / 128)) := Cm.enc_ge hlt
      have HZ : Hid ((x : Int) % 128 + 128 = ((UInt8.ofNat (x % 128 + 128)).toNat : Int)) := by
        show _ = _
        rw [Cm.nat_byte (by omega)]
        omega
      have hi : ∀ w : World, Calls Try.prog 18 #[.int .u64 ((x : Int) / 128)] w (Makes w (Cm.enc (x / 128))) := by
        intro w
        rw [show (x : Int) / 128 = ((x / 128 : Nat) : Int) from by omega]
        exact ih (x / 128) (by omega) w (by omega)
      have HI := Lib.hid hi
      have hle := Cm.enc_le (show x / 128 < Cm.big by unfold Cm.big; omega)
      clear hlt ih hi
      go_enter Try.func18, Try.ntmps18
      go_wp2_with fail
      with_reducible refine (HI.out _).mono ?_
      rintro e w1 ⟨v1, rfl, ho1, hb1⟩
      obtain ⟨A1, c1, rfl, hc1, hm1, hr1⟩ := ho1.form
      have ho0 := (Own.new' w _ _ HZ.out 5).below hb1
      have hs1 : w.heap.size + 1 ≤ w1.heap.size := by have := hb1.size; simpa using this
      go_wp2_with (at_builtin; refine wpList_append_rd rfl (.tmp 12) (.tmp 15) 22 5 byteT rfl w.heap.size _ [UInt8.ofNat (x % 128 + 128)] rfl ho0 _ _ (Cm.enc (x / 128)) _ rfl hr1 (by simp; omega) (by omega) ?_; intro v2 w2 hown2 hb2)
      go_ret
      refine ⟨v2, rfl, ?_, (((Below.refl _ _).alloc (Nat.le_refl _) _).trans (hb1.mono (by simp))).trans hb2⟩
      rw [HF.out]
      exact hown2

theorem ref_text (s : ByteArray) (w : World) (hb : s.size + 10 ≤ 140737488355328) :
    Calls Try.prog 22 #[.string s] w (Makes w (Cm.enc s.size ++ s.data.toList)) := by
  have hle := Cm.enc_le (show s.size < Cm.big by unfold Cm.big; omega)
  go_enter Try.func22, Try.ntmps22
  go_wp2_with fail
  with_reducible refine (ref_uint _ _ (by omega)).mono ?_
  rintro e w1 ⟨v1, rfl, ho1, hb1⟩
  have hs1 := hb1.size
  go_wp2_with (at_builtin; refine wpList_append_str rfl (.tmp 6) (.tmp 7) 22 9 5 byteT Try.underlying9 rfl w.heap.size _ _ rfl ho1 s rfl (by omega) hs1 ?_; intro v3 w3 ho3 hb3)
  go_ret
  exact ⟨v3, rfl, ho3, hb1.trans hb3⟩

def boolByte (b : Bool) : UInt8 := if b then 1 else 0

theorem ref_bool (b : Bool) (w : World) : Calls Try.prog 23 #[.bool b] w (Makes w [boolByte b]) := by
  cases b
  · go_enter Try.func23, Try.ntmps23
    go_wp2
    go_ret
    exact ⟨_, rfl, Own.new' w 0 0 rfl 5, (Below.refl _ _).alloc (Nat.le_refl _) _⟩
  · go_enter Try.func23, Try.ntmps23
    go_wp2
    go_ret
    exact ⟨_, rfl, Own.new' w 1 1 rfl 5, (Below.refl _ _).alloc (Nat.le_refl _) _⟩

theorem put_bool (A : Option Addr) (l : List UInt8) (c : Nat) (b : Bool) (w : World) (hr : Rd w w.heap.size A l) (hb : l.length + 10 ≤ 140737488355328) :
    Calls Try.prog 21 #[.slice A l.length c, .bool b] w (Makes w (l ++ [boolByte b])) := by
  have he : Calls Try.prog 33 #[.slice A l.length c, .int .i64 1] w (Makes w l) := ext_any A l c 1 w hr (by omega)
  have HE := Lib.hid he
  clear he
  cases b
  · go_enter Try.func21, Try.ntmps21
    go_wp2_with fail
    with_reducible refine HE.out.mono ?_
    rintro e w1 ⟨v1, rfl, ho1, hb1⟩
    have hs1 := hb1.size
    go_wp2_with (at_builtin; refine wpList_append_rd rfl (.tmp 8) (.tmp 10) 22 5 byteT rfl w.heap.size _ l rfl (Own.below ho1 ((Below.refl _ _).alloc (Nat.le_refl _) _)) _ _ [(0 : UInt8)] _ rfl (Rd.new' w1 0 0 rfl 5) (by simp; omega) (by simp; omega) ?_; intro v2 w2 hown2 hb2)
    go_ret
    exact ⟨v2, rfl, hown2, (hb1.trans ((Below.refl _ _).alloc hs1 _)).trans hb2⟩
  · go_enter Try.func21, Try.ntmps21
    go_wp2_with fail
    with_reducible refine HE.out.mono ?_
    rintro e w1 ⟨v1, rfl, ho1, hb1⟩
    have hs1 := hb1.size
    go_wp2_with (at_builtin; refine wpList_append_rd rfl (.tmp 8) (.tmp 10) 22 5 byteT rfl w.heap.size _ l rfl (Own.below ho1 ((Below.refl _ _).alloc (Nat.le_refl _) _)) _ _ [(1 : UInt8)] _ rfl (Rd.new' w1 1 1 rfl 5) (by simp; omega) (by simp; omega) ?_; intro v2 w2 hown2 hb2)
    go_ret
    exact ⟨v2, rfl, hown2, (hb1.trans ((Below.refl _ _).alloc hs1 _)).trans hb2⟩

end Go.Proofs.Ytbkpmmnkelihgaa
