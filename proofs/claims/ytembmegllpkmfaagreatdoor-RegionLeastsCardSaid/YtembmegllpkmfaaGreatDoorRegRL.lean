/- The reference's Least. -/
import Derived.Test.YtembmegllpkmfaaGreatDoorRegRLf
import Derived.Test.YtembmegllpkmfaaGreatDoorRegLeast
namespace Go.Proofs.YtembmegllpkmfaaGreatDoor
open Go.RowKit
set_option linter.unusedVariables false
def GivesLs (w : World) (o : Option (List (List UInt8))) (e : Ending) (w' : World) : Prop := e = .returned (.tuple #[.string (leastS o), .bool o.isSome]) ∧ Below w.heap.size w w'
theorem lenN_le {B : Pt.Pat} {H : List Pt.Pat} {n : Nat} (hB : Pt.check B = 0) (h : Pt.Rg.lenN B H = some n) : n ≤ 13 := by
  unfold Pt.Rg.lenN Pt.Rg.findN at h
  have hm := List.mem_of_find?_eq_some h
  rw [List.mem_range'_1] at hm
  have h12 := (Pt.check_ok.1 hB).2
  unfold Pt.Rg.firstN at hm
  cases hr : B.rest with
  | true => rw [hr] at hm; simp only [if_true] at hm; omega
  | false => rw [hr] at hm; simp only [Bool.false_eq_true, if_false] at hm; omega
theorem run_append_sF (w : World) (ty : TypeId) (base : Nat) (v : Value) (ys : List ByteArray) (hown : OwnS w base v ys) (x : ByteArray) (ad : Addr) (hr : RdS w w.heap.size (some ad) [x]) (hN : ys.length + 1 ≤ 1000000) (hbase : base ≤ w.heap.size) :
    ∃ v' w', (Builtin.append_ #[22, 22] ty #[v, .slice (some ad) 1 1]).run Tryz.prog w = .ok v' w' ∧ OwnS w' base v' (ys ++ [x]) ∧ Below base w w' ∧ w.grownBy w' v.ownBlock ∧ (v'.ownBlock = v.ownBlock ∨ v'.ownBlock = some w.heap.size) := by
  obtain ⟨i, hi, hz, hz1, hz2⟩ := strParts
  obtain ⟨v', w', hrun, hown', hg, _, hat⟩ := run_append_own_at (P := Tryz.prog) w base 22 ty 9 i _ 1 16 Tryz.underlying22 hi hz hz1 hz2 rfl (by omega) v ys.length (svs ys) hown ad 1 1 (svs [x]) (by simp [svs_length]) hr.svs svs_one (by simp only [maxLen]; omega) (by omega) hbase
  refine ⟨v', w', hrun, ?_, ⟨hg.os, hg.tape, hg.output, hg.size, fun k hk => hg.block k (by omega) (fun e2 => ?_)⟩, hg, hat⟩
  · unfold OwnS
    rw [List.length_append, svs_append]
    exact hown'
  · have := (World.ownsRow.lt hown k e2.symm).1
    omega
theorem wpList_append_sF {w : World} {ops : Array Oper} {rest : List Oper} {o : Oper} {a : Act} {Q : Exit → Act → World → Prop} (hgd : o.guard = none) (s x : Operand)
    (ho : o.op = .call { callee := .builtin .append, args := #[s, x], argTypes := #[22, 22] })
    (base : Nat) (v : Value) (ys : List ByteArray) (hs : a.eval s = v) (hown : OwnS w base v ys) (y : ByteArray) (ad : Addr) (hx : a.eval x = .slice (some ad) 1 1) (hr : RdS w w.heap.size (some ad) [y]) (hN : ys.length + 1 ≤ 1000000) (hbase : base ≤ w.heap.size)
    (h : ∀ v' w', OwnS w' base v' (ys ++ [y]) → Below base w w' → w.grownBy w' v.ownBlock → (v'.ownBlock = v.ownBlock ∨ v'.ownBlock = some w.heap.size) → wpList Tryz.prog ops Q rest (a.put o.dst v') w') : wpList Tryz.prog ops Q (o :: rest) a w := by
  refine wpList_plain hgd fun K hK => ?_
  obtain ⟨v', w', hrun, h1, h2, h3, h4⟩ := run_append_sF w o.type base v ys hown y ad hr hN hbase
  unfold Oper.wp execOp
  simp only [ho, resolve, invoke, builtin, Sem.run_bind, Sem.run_pure, Result.andThen_ok, List.map_toArray, List.map_cons, List.map_nil, hs, hx, hrun]
  exact hK _ _ (h v' w' h1 h2 h3 h4)
theorem RdB.past {w w' : World} {A : Option Addr} {ms : List BindV} {c : Nat} {own : Option Nat} (h : RdB w A ms c) (hg : w.grownBy w' own) (h1 : ∀ y ∈ adr A ms, ∀ a, y = some a → own ≠ some a.block) (h2 : ∀ x ∈ ms, ∀ y ∈ adr x.A x.xs, ∀ a, y = some a → own ≠ some a.block) : RdB w' A ms c := by
  refine ⟨?_, fun x hx => (h.parts x hx).grownA hg fun y hy a e => ⟨h2 x hx y hy a e, (h.parts x hx).adr_lt y hy a e⟩, h.le, h.cm, h.nil⟩
  rcases h.cells with h0 | ⟨g, o, hA, hlt, hc⟩
  · exact .inl h0
  · by_cases hm0 : ms = []
    · exact .inl hm0
    have hmem : A ∈ adr A ms := by
      cases ms with
      | nil => exact absurd rfl hm0
      | cons x r => simp [adr]
    have hk := h1 A hmem ⟨g, o, none⟩ hA
    have hcell : ∀ j, w'.cell? ⟨g, j, none⟩ = w.cell? ⟨g, j, none⟩ := fun j => by
      have hb := hg.block g hlt (fun e => hk e.symm)
      unfold World.cell?
      simp only [hb]
    exact .inr ⟨g, o, hA, Nat.lt_of_lt_of_le hlt hg.size, fun j hj => ⟨(hcell _).trans (hc j hj).1, (hcell _).trans (hc j hj).2⟩⟩
/-- What the loop over the places keeps. -/
structure LInv (W : World) (B : Pt.Pat) (n : Nat) (H : List Pt.Pat) (bl : List BindV) (wx : World) (A5 : Option Addr) (ms : List BindV) (e5 : Nat) (A6 : Option Addr) (sl : List ByteArray) (e6 : Nat) (i : Nat) : Prop where
  rd : RdB wx A5 ms e5
  own : OwnS wx W.heap.size (.slice A6 sl.length e6) sl
  acc : Pt.Rg.restGo B n 0 n H = (Pt.Rg.restGo B n i (n - i) (ms.map BindV.pat)).map fun r => bs sl ++ r
  len : sl.length = i
  sz : ∀ y ∈ sl, y.size ≤ 10001
  mem : ∀ x ∈ ms, x ∈ bl
  ap : ∀ k, (Value.slice A6 sl.length e6).ownBlock = some k → ∀ y ∈ adr A5 ms, ∀ a, y = some a → a.block ≠ k
  short : ms.length ≤ 64
theorem restGo_lit {B : Pt.Pat} {n i k : Nat} {ms : List Pt.Pat} (h : Pt.star (Pt.Rg.partAt B i) = none) : Pt.Rg.restGo B n i (k + 1) ms = (Pt.Rg.restGo B n (i + 1) k (if Pt.Rg.aftOk B n i (Pt.Rg.partAt B i) ms then Pt.Rg.aft n i (Pt.Rg.partAt B i) ms else [])).map fun l => Pt.Rg.partAt B i :: l := by
  rw [Pt.Rg.restGo, h]
theorem restGo_star {B : Pt.Pat} {n i k : Nat} {ms : List Pt.Pat} {s : List UInt8} (h : Pt.star (Pt.Rg.partAt B i) = some s) {j : Nat} (hj : j < Pt.Rg.firsts.length) (h1 : Pt.Rg.aftOk B n i (Pt.Rg.firsts[j] :: s) ms = true) (h2 : ∀ j2 (h3 : j2 < j), Pt.Rg.aftOk B n i (Pt.Rg.firsts[j2] :: s) ms = false) :
    Pt.Rg.restGo B n i (k + 1) ms = (Pt.Rg.restGo B n (i + 1) k (Pt.Rg.aft n i (Pt.Rg.firsts[j] :: s) ms)).map fun l => (Pt.Rg.firsts[j] :: s) :: l := by
  have hf : (Pt.Rg.firsts.map fun c => c :: s).find? (fun x => Pt.Rg.aftOk B n i x ms) = some (Pt.Rg.firsts[j] :: s) := by
    rw [List.find?_eq_some_iff_getElem]
    refine ⟨h1, j, by rw [List.length_map]; exact hj, by rw [List.getElem_map], fun j2 h3 => ?_⟩
    rw [List.getElem_map, h2 j2 h3]
    rfl
  rw [Pt.Rg.restGo, h]
  simp only
  rw [hf]
theorem restGo_none {B : Pt.Pat} {n i k : Nat} {ms : List Pt.Pat} {s : List UInt8} (h : Pt.star (Pt.Rg.partAt B i) = some s) (h2 : ∀ j2 (h3 : j2 < Pt.Rg.firsts.length), Pt.Rg.aftOk B n i (Pt.Rg.firsts[j2] :: s) ms = false) :
    Pt.Rg.restGo B n i (k + 1) ms = none := by
  have hf : (Pt.Rg.firsts.map fun c => c :: s).find? (fun x => Pt.Rg.aftOk B n i x ms) = none := by
    rw [List.find?_eq_none]
    intro x hx
    obtain ⟨c, hc, rfl⟩ := List.mem_map.1 hx
    obtain ⟨j, hj, rfl⟩ := List.mem_iff_getElem.1 hc
    rw [h2 j hj]
    decide
  rw [Pt.Rg.restGo, h]
  simp only
  rw [hf]
/-- The same, in one. -/
def GivesAf1 (w : World) (B : Pt.Pat) (n i : Nat) (x : List UInt8) (bl : List BindV) (e : Ending) (w' : World) : Prop :=
  ∃ A ol c, e = .returned (.tuple #[.slice A (List.length ol) c, .bool (Pt.Rg.aftOk B n i x (bl.map BindV.pat))]) ∧ ol.map BindV.pat = (if Pt.Rg.aftOk B n i x (bl.map BindV.pat) then Pt.Rg.aft n i x (bl.map BindV.pat) else []) ∧ RdB w' A ol c ∧ Below w.heap.size w w' ∧ (∀ z ∈ ol, z ∈ bl) ∧ (∀ y ∈ adr A ol, ∀ a, y = some a → w.heap.size ≤ a.block ∧ a.block < w'.heap.size) ∧ ol.length ≤ bl.length
theorem GivesAft.one {w w' : World} {B : Pt.Pat} {n i : Nat} {x : List UInt8} {bl : List BindV} {e : Ending} (h : GivesAft w B n i x bl e w') : GivesAf1 w B n i x bl e w' := by
  rcases h with ⟨h1, rfl, hb⟩ | ⟨h1, A, ol, c, rfl, h2, h3, hb, h4, h5⟩
  · refine ⟨none, [], 0, by rw [h1]; rfl, by rw [h1]; rfl, ⟨.inl rfl, fun x h => (by cases h), Nat.le_refl _, Nat.zero_le _, fun _ => rfl⟩, hb, fun x h => (by cases h), fun x h => (by cases h), Nat.zero_le _⟩
  · refine ⟨A, ol, c, by rw [h1], by rw [h1, h2]; rfl, h3, hb, h4, h5, ?_⟩
    have h6 := congrArg List.length h2
    rw [List.length_map] at h6
    rw [h6]
    have h7 := List.length_filter_le (fun h => Pt.fits h n && (decide (h.parts.length ≤ i) || Pt.pm (Pt.Rg.partAt h i) x)) (bl.map BindV.pat)
    rw [List.length_map] at h7
    exact h7
theorem LInv.lit {W wx wy : World} {B : Pt.Pat} {n : Nat} {H : List Pt.Pat} {bl : List BindV} {A5 A6 A7 A8 : Option Addr} {ms ol : List BindV} {e5 e6 e7 e8 i : Nat} {sl : List ByteArray} {x : ByteArray} (h : LInv W B n H bl wx A5 ms e5 A6 sl e6 i) (hi : i < n) (hx : x.data.toList = Pt.Rg.partAt B i) (hs : Pt.star (Pt.Rg.partAt B i) = none)
    (hz : x.size ≤ 10001) (rd : RdB wy A7 ol e7) (ho : ol.map BindV.pat = (if Pt.Rg.aftOk B n i (Pt.Rg.partAt B i) (ms.map BindV.pat) then Pt.Rg.aft n i (Pt.Rg.partAt B i) (ms.map BindV.pat) else [])) (hm : ∀ z ∈ ol, z ∈ ms) (hl : ol.length ≤ ms.length) (own : OwnS wy W.heap.size (.slice A8 (sl ++ [x]).length e8) (sl ++ [x]))
    (ap : ∀ k, (Value.slice A8 (sl ++ [x]).length e8).ownBlock = some k → ∀ y ∈ adr A7 ol, ∀ a, y = some a → a.block ≠ k) : LInv W B n H bl wy A7 ol e7 A8 (sl ++ [x]) e8 (i + 1) := by
  refine ⟨rd, own, ?_, by have := h.len; simp; omega, fun y hy => ?_, fun z hz => h.mem z (hm z hz), ap, Nat.le_trans hl h.short⟩
  · have e : n - i = (n - (i + 1)) + 1 := by omega
    rw [h.acc, e, restGo_lit hs, ho, Option.map_map]
    congr 1
    funext l
    unfold bs
    simp [hx]
  · rcases List.mem_append.1 hy with hy | hy
    · exact h.sz y hy
    · rw [List.mem_singleton.1 hy]; exact hz
theorem LInv.star {W wx wy : World} {B : Pt.Pat} {n : Nat} {H : List Pt.Pat} {bl : List BindV} {A5 A6 A7 A8 : Option Addr} {ms ol : List BindV} {e5 e6 e7 e8 i : Nat} {sl : List ByteArray} {x : ByteArray} {s : List UInt8} {j : Nat} (h : LInv W B n H bl wx A5 ms e5 A6 sl e6 i) (hi : i < n) (hs : Pt.star (Pt.Rg.partAt B i) = some s)
    (hj : j < Pt.Rg.firsts.length) (hx : x.data.toList = Pt.Rg.firsts[j] :: s) (h1 : Pt.Rg.aftOk B n i (Pt.Rg.firsts[j] :: s) (ms.map BindV.pat) = true) (h2 : ∀ j2 (h3 : j2 < j), Pt.Rg.aftOk B n i (Pt.Rg.firsts[j2] :: s) (ms.map BindV.pat) = false)
    (hz : x.size ≤ 10001) (rd : RdB wy A7 ol e7) (ho : ol.map BindV.pat = Pt.Rg.aft n i (Pt.Rg.firsts[j] :: s) (ms.map BindV.pat)) (hm : ∀ z ∈ ol, z ∈ ms) (hl : ol.length ≤ ms.length) (own : OwnS wy W.heap.size (.slice A8 (sl ++ [x]).length e8) (sl ++ [x]))
    (ap : ∀ k, (Value.slice A8 (sl ++ [x]).length e8).ownBlock = some k → ∀ y ∈ adr A7 ol, ∀ a, y = some a → a.block ≠ k) : LInv W B n H bl wy A7 ol e7 A8 (sl ++ [x]) e8 (i + 1) := by
  refine ⟨rd, own, ?_, by have := h.len; simp; omega, fun y hy => ?_, fun z hz => h.mem z (hm z hz), ap, Nat.le_trans hl h.short⟩
  · have e : n - i = (n - (i + 1)) + 1 := by omega
    rw [h.acc, e, restGo_star hs hj h1 h2, ho, Option.map_map]
    congr 1
    funext l
    unfold bs
    simp [hx]
  · rcases List.mem_append.1 hy with hy | hy
    · exact h.sz y hy
    · rw [List.mem_singleton.1 hy]; exact hz
theorem star_form {x s : List UInt8} (h : Pt.star x = some s) : x = 42 :: s := (Pt.star_some.1 h).1
set_option maxHeartbeats 16000000 in
theorem gleast_any (A : Option Addr) (xs : List ByteArray) (c : Nat) (b : Bool) (H : Option Addr) (bl : List BindV) (e : Nat) (g : Pt.Rg.Reg) (w : World) (hg : RegR w A xs c b H bl e g) (hck : Pt.Rg.gcheck g = 0) (hK : ∀ p ∈ g.base.parts, p.length ≤ 10000) :
    Calls Tryz.prog 14 #[regV A xs.length c b H bl.length e] w (GivesLs w (Pt.Rg.leastF g)) := by
  obtain ⟨kB, kH, k64⟩ := Pt.Rg.gcheck_zero.1 hck
  obtain ⟨W0, hW0⟩ : ∃ W0, W0 = w.alloc (regObj A xs.length c b H bl.length e) := ⟨_, rfl⟩
  have hal : Below w.heap.size w W0 := by rw [hW0]; exact (Below.refl _ _).alloc (Nat.le_refl _) _
  have HAL := Lib.hid hal
  have hgb : GBox W0 w.heap.size A xs.length c b H bl.length e := by rw [hW0]; exact GBox.new ..
  have HGB := Lib.hid (fun (w' : World) (hb : Below W0.heap.size W0 w') => hgb.keep hb)
  have HRG := Lib.hid (fun (w' : World) (hb : Below W0.heap.size W0 w') => (hg.keep hal).keep hb)
  have HLE := Lib.hid (length_any A xs c b H bl e g W0 (hg.keep hal) kB kH)
  have HPL : Hid (∀ i, (Pt.Rg.partAt g.base i).length ≤ 10000) := Lib.hid fun i => by
    unfold Pt.Rg.partAt
    rcases Nat.lt_or_ge i g.base.parts.length with h | h
    · rw [List.getD_eq_getElem?_getD, List.getElem?_eq_getElem h]; exact hK _ (List.getElem_mem h)
    · rw [List.getD_eq_getElem?_getD, List.getElem?_eq_none h]; decide
  have HEQ : Hid (bl.map BindV.pat = g.holes) := Lib.hid hg.eq
  have HB64 : Hid (bl.length ≤ 64) := Lib.hid (by rw [← reg_len hg]; exact k64)
  have HAXB : Hid (∀ x ∈ bl, ∀ y ∈ adr x.A x.xs, ∀ a, y = some a → a.block < w.heap.size) := Lib.hid fun x hx y hy a ha => (hg.holes.parts x hx).adr_lt y hy a ha
  have HAXH : Hid (∀ y ∈ adr H bl, ∀ a, y = some a → a.block < w.heap.size) := Lib.hid hg.holes.adr_ltF
  have HWZ : Hid (w.heap.size < W0.heap.size) := Lib.hid hgb.lt
  have HLM := Lib.hid (fun n (h : Pt.Rg.lenN g.base g.holes = some n) => And.intro (lenN_le kB h) (Pt.Rg.fits_two kB (Pt.Rg.lenN_at h).1))
  have HLF : Hid (Pt.Rg.leastF g = (Pt.Rg.lenN g.base g.holes).bind fun n => Pt.Rg.restGo g.base n 0 n g.holes) := Lib.hid rfl
  generalize hlo : Pt.Rg.lenN g.base g.holes = lo at HLE
  have HLO := Lib.hid hlo
  obtain ⟨o9, ho9⟩ : ∃ o, o = Pt.Rg.leastF g := ⟨_, rfl⟩
  rw [← ho9]
  have HO9 := Lib.hid ho9
  clear ho9 hlo kB kH k64 hck hK hg hal
  obtain ⟨nX, hX⟩ : ∃ n, n = xs.length := ⟨_, rfl⟩
  obtain ⟨nH, hH⟩ : ∃ n, n = bl.length := ⟨_, rfl⟩
  have HX := Lib.hid hX
  have HH := Lib.hid hH
  rw [← hX, ← hH] at hW0 hgb HGB HLE
  rw [← hX, ← hH]
  clear hX hH
  obtain ⟨t0, t1, t2, tl⟩ := hgb
  subst hW0
  go_enter Tryz.func14, Tryz.ntmps14
  cases lo with
  | none =>
    have hv : o9 = none := by rw [HO9.out, HLF.out, HLO.out]; rfl
    subst hv
    go_wp2_with fail
    with_reducible refine HLE.out.mono ?_
    rintro en w1 ⟨rfl, hb1⟩
    have HX1 := Lib.hid hb1
    clear hb1 t0 t1 t2 tl
    go_wp2
    refine bodyPost_ret (v := .tuple #[.string ⟨#[]⟩, .bool false]) (by simp [results, Tryz.results14, go_sem]) rfl ⟨rfl, HAL.out.trans (HX1.out.mono HAL.out.size)⟩
  | some n =>
    obtain ⟨h13, h2⟩ := HLM.out n HLO.out
    have H13 := Lib.hid h13
    have hv : o9 = Pt.Rg.restGo g.base n 0 n g.holes := by rw [HO9.out, HLF.out, HLO.out]; rfl
    have HV := Lib.hid hv
    have i1 : ((n : Int) == 0) = false := by rw [beq_eq_false_iff_ne]; omega
    have i2 : ¬ (n : Int) = 0 := by omega
    have i3 : (n : Int) ≤ 13 := by omega
    clear h13 h2 hv
    simp only [Option.getD_some] at HLE
    go_wp2_with fail
    with_reducible refine HLE.out.mono ?_
    rintro en w1 ⟨rfl, hb1⟩
    have HX1 := Lib.hid hb1
    clear hb1 t0 t1 t2 tl
    generalize hW : w.alloc (regObj A nX c b H nH e) = W at *
    obtain ⟨t0, t1, t2, tl⟩ := HGB.out _ HX1.out
    go_wp2
    go_loopg [7, 5, 6] n (fun gg s7 s5 s6 wx => ∃ (i n5 n6 : Nat) (A5 : Option Addr) (e5 : Nat) (A6 : Option Addr) (e6 : Nat), i + gg = n ∧ s7 = .int .i64 (i : Int) ∧ s5 = .slice A5 n5 e5 ∧ s6 = .slice A6 n6 e6 ∧ Below W.heap.size W wx ∧ Aside (∃ (ms : List BindV) (sl : List ByteArray), n5 = ms.length ∧ n6 = sl.length ∧ LInv W g.base n g.holes bl wx A5 ms e5 A6 sl e6 i))
    case atStart =>
      refine ⟨0, nH, 0, H, e, none, 0, by omega, rfl, rfl, rfl, HX1.out, bl, [], HH.out, rfl, (HRG.out _ HX1.out).holes, OwnS.empty _ _, ?_, rfl, fun y h => (by cases h), fun x h => h, fun k h => (by cases h), HB64.out⟩
      rw [HEQ.out, Nat.sub_zero]
      cases Pt.Rg.restGo g.base n 0 n g.holes <;> rfl
    case round =>
      obtain ⟨i, n5, n6, A5, e5, A6, e6, hi, rfl, rfl, rfl, hbw, HA⟩ := hrel
      obtain ⟨ms, sl, hn5, hn6, hI⟩ := HA.out
      have HI := Lib.hid hI
      have HN5 := Lib.hid hn5
      have HN6 := Lib.hid hn6
      have HBW := Lib.hid hbw
      have HII := Lib.hid hi
      clear hI hn5 hn6 HA t0 t1 t2 tl
      obtain ⟨t0, t1, t2, tl⟩ := HGB.out _ hbw
      by_cases hin : i < n
      · have HIN := Lib.hid hin
        have j1 : (i : Int) < (n : Int) := by omega
        have hp := fun (w' : World) (hb : Below W.heap.size W w') => gpart_any A xs c b g.base i w' (HRG.out w' hb).base
        rw [← HX.out] at hp
        have HP := Lib.hid hp
        clear hp hin hi hbw
        have HC1 := Lib.hid (HP.out _ HBW.out)
        set_option maxRecDepth 100000 in
        go_wp2_with fail
        with_reducible refine HC1.out.mono ?_
        intro en w2 hh
        unfold GivesStr at hh
        obtain ⟨ps, rfl, hps, hpz, hb2⟩ := hh
        have HPS := Lib.hid hps
        have HPZ := Lib.hid hpz
        have hx2 := HBW.out.trans (hb2.mono HBW.out.size)
        have HX2 := Lib.hid hx2
        have HB2 := Lib.hid hb2
        have HSR := Lib.hid (rstar_any ps w2 hpz)
        clear hps hpz t0 t1 t2 tl
        obtain ⟨t0, t1, t2, tl⟩ := HGB.out _ hx2
        clear hb2 hx2
        set_option maxRecDepth 100000 in
        go_wp2_with fail
        with_reducible refine HSR.out.mono ?_
        intro en w3 hh
        unfold StarRes at hh
        obtain ⟨rfl, rfl⟩ := hh
        cases hst : Pt.star ps.data.toList with
        | none =>
          have HST := Lib.hid hst
          clear hst
          have HC2 := Lib.hid (HP.out _ HX2.out)
          set_option maxRecDepth 100000 in
          go_wp2_with fail
          with_reducible refine HC2.out.mono ?_
          intro en w4 hh
          unfold GivesStr at hh
          obtain ⟨ps4, rfl, hps4, hpz4, hb4⟩ := hh
          have HPS4 := Lib.hid hps4
          have HPZ4 := Lib.hid hpz4
          have hx4 := HX2.out.trans (hb4.mono HX2.out.size)
          have HX4 := Lib.hid hx4
          have HB4 := Lib.hid (HB2.out.trans (hb4.mono HB2.out.size))
          have hsz4 := hx4.size
          clear hps4 hpz4 t0 t1 t2 tl hb4 hx4
          have HOW4 : Hid (OwnS (w4.alloc (.cells #[.string ps4] 9)) W.heap.size (.slice A6 n6 e6) sl) := Lib.hid (by rw [HN6.out]; exact (HI.out.own.below HB4.out).below ((Below.refl _ _).alloc (Nat.le_refl _) _))
          go_upto_region 12 with (refine wpList_append_sF rfl _ _ rfl W.heap.size (.slice A6 n6 e6) sl (by rfl) HOW4.out ps4 ⟨w4.heap.size, 0, none⟩ (by rfl) (new_one _ _ _) (by have h1 := HI.out.len; have h2 := HIN.out; have h3 := H13.out; omega) (by simp; omega) ?_; intro v9 w9 hown9 hb9 hg9 hv9)
          obtain ⟨A9, e9, hv9', hle9, hcm9, hrd9, _⟩ := OwnS.form hown9
          have HO9 : Hid (OwnS w9 W.heap.size (.slice A9 (sl ++ [ps4]).length e9) (sl ++ [ps4])) := Lib.hid (by rw [← hv9']; exact hown9)
          have hln : (sl ++ [ps4]).length = n6 + 1 := by rw [List.length_append, ← HN6.out]; rfl
          have HLN := Lib.hid hln
          rw [hln] at hv9'
          subst hv9'
          have hX4 := HX4.out.trans (((Below.refl w4.heap.size w4).alloc (Nat.le_refl _) (.cells #[.string ps4] 9)).mono HX4.out.size)
          have HX9 : Hid (Below W.heap.size W w9) := Lib.hid (hX4.trans hb9)
          have HR9 : Hid (RdB w9 A5 ms e5) := Lib.hid (((HI.out.rd.keep HB4.out).keep ((Below.refl w4.heap.size w4).alloc (Nat.le_refl _) (.cells #[.string ps4] 9))).past hg9 (fun y hy a ha h9 => by rw [HN6.out] at h9; exact HI.out.ap _ h9 y hy a ha rfl) (fun z hz y hy a ha h9 => by
            rw [HN6.out] at h9
            have h1 := HAXB.out z (HI.out.mem z hz) y hy a ha
            have h2 := (World.ownsRow.lt HI.out.own _ h9).1
            have h3 := HWZ.out
            have h4 := HX1.out.size
            omega))
          obtain ⟨g9, o9, hA9, hgl9, hc9⟩ := hrd9.cells (by omega)
          have hil : i = sl.length := HI.out.len.symm
          have hci := hc9 i (by rw [hln, HN6.out]; omega)
          have hpe : (sl ++ [ps4])[i]'(by rw [hln, HN6.out]; omega) = ps4 := by simp [hil]
          rw [hpe] at hci
          have HLC : Hid ((n6 : Int) + 1 ≤ (e9 : Int) ∧ (e9 : Int) ≤ 9223372036854775807) := Lib.hid (by unfold maxLen at hcm9; omega)
          have HN6I : Hid (n6 = i) := Lib.hid (by rw [HN6.out]; exact HI.out.len)
          subst hA9
          have HAF := Lib.hid (fun (w' : World) (hb : Below w9.heap.size w9 w') => show Calls Tryz.prog 36 #[patV A nX c b, .slice A5 n5 e5, .string ps4, .int .i64 (i : Int), .int .i64 (n : Int)] w' (GivesAf1 w' g.base n i (Pt.Rg.partAt g.base i) ms) from by
            have h9 := gafter_any A xs c b g.base A5 ms e5 ps4 i n w' (HRG.out w' ((HX9.out.trans (hb.mono HX9.out.size)))).base (HR9.out.keep hb) HPZ4.out HIN.out (by have := H13.out; omega) (by have := HI.out.short; omega)
            rw [HPS4.out, ← HX.out, ← HN5.out] at h9
            exact h9.mono fun e w'' h => h.one)
          obtain ⟨t0, t1, t2, tl⟩ := HGB.out _ HX9.out
          have HKE := Lib.hid (fun (w' : World) (hb : Below w9.heap.size w9 w') => show w'.cell? ⟨w.heap.size, 0, none⟩ = some (.slice A nX c) ∧ w'.cell? ⟨w.heap.size, 1, none⟩ = some (.bool b) ∧ w'.cell? ⟨g9, o9 + i, none⟩ = some (.string ps4) from
            ⟨((HGB.out _ HX9.out).keep hb).c0, ((HGB.out _ HX9.out).keep hb).c1, (hb.cell (p := ⟨g9, o9 + i, none⟩) hgl9).trans hci⟩)
          have j5 : (i : Int) < (n6 : Int) + 1 := by have := HN6I.out; omega
          have j6 : (0 : Int) ≤ (i : Int) := Int.natCast_nonneg _
          have j7 : (i : Int) < ((n6 + 1 : Nat) : Int) := by omega
          clear hown9 hb9 hg9 hv9 hle9 hcm9 hrd9 hln hX4 hc9 hil hpe
          set_option maxRecDepth 100000 in
          go_region_held3 (fun w' => w'.cell? ⟨w.heap.size, 0, none⟩ = some (.slice A nX c) ∧ w'.cell? ⟨w.heap.size, 1, none⟩ = some (.bool b) ∧ w'.cell? ⟨g9, o9 + i, none⟩ = some (.string ps4))
            (first | exact HKE.out _ b5_ | exact HKE.out _ (below_drew (Below.refl _ _)) | exact HKE.out _ (Below.refl _ _) | go_keep)
            ((go_at_call 36; with_reducible refine (HAF.out _ (below_drew (Below.refl _ _))).mono ?_; intro e w5 hh; unfold GivesAf1 at hh; obtain ⟨A10, ol10, e10, rfl, ho10, hr10, hb5, hm10, hf10, hl10⟩ := hh
              have b5_ : Below w9.heap.size w9 w5 := (below_drew (Below.refl _ _)).trans hb5
              have HO10 := Lib.hid ho10
              have HR10 := Lib.hid hr10
              have HM10 := Lib.hid hm10
              have HF10 : Hid (∀ y ∈ adr A10 ol10, ∀ a, y = some a → w9.heap.size ≤ a.block) := Lib.hid fun y hy a ha => (hf10 y hy a ha).1
              have HL10 := Lib.hid hl10
              clear ho10 hr10 hm10 hf10 hl10 hb5))
          go_wp2
          go_roundg (n - (i + 1))
          case measure => go_light; have := HII.out; have := HIN.out; omega
          case rel =>
            go_light
            refine ⟨i + 1, ol10.length, n6 + 1, A10, e10, some ⟨g9, o9, none⟩, e9, by have := HII.out; have := HIN.out; omega, by go_num, rfl, rfl, HX9.out.trans (b5_.mono HX9.out.size), ol10, sl ++ [ps4], rfl, HLN.out.symm, ?_⟩
            exact HI.out.lit HIN.out HPS4.out (by rw [← HPS.out]; exact HST.out) (by have h1 := HPL.out i; rw [← HPS4.out] at h1; rw [Lib.size_eq]; omega) HR10.out HO10.out HM10.out HL10.out (HO9.out.below b5_) (fun k hk y hy a ha h9 => by
              have h1 := HF10.out y hy a ha
              have h2 := OwnS.lt HO9.out k hk
              omega)
        | some sfx =>
          have hps := star_form hst
          have HST := Lib.hid hst
          obtain ⟨S, hS⟩ : ∃ S : ByteArray, S = ⟨sfx.toArray⟩ := ⟨_, rfl⟩
          have HSD : Hid (S.data.toList = sfx) := Lib.hid (by rw [hS])
          have HSZ : Hid (S.size ≤ 10000) := Lib.hid (by
            have h1 := HPL.out i
            rw [← HPS.out, hps, List.length_cons] at h1
            rw [Lib.size_eq, HSD.out]
            omega)
          have hsz9 : S.size ≤ 10000 := HSZ.out
          clear hst hps
          have HFI := Lib.hid (gfirsts_any w2)
          simp only [Option.getD_some, Option.isSome_some]
          rw [← hS]
          clear hS
          set_option maxRecDepth 100000 in
          go_wp2_with fail
          with_reducible refine HFI.out.mono ?_
          intro en w7 hh
          obtain ⟨A7, fl, c7, rfl, hown7, hbs7, hb7⟩ := hh
          have hfl : fl.length = 65 := by
            have h9 := congrArg List.length hbs7
            rw [bs_length, List.length_map, Pt.Rg.firsts_len] at h9
            exact h9
          have HFL := Lib.hid hfl
          have HBS := Lib.hid hbs7
          have HB7 := Lib.hid (HB2.out.trans (hb7.mono HB2.out.size))
          have HX7 := Lib.hid (HX2.out.trans (hb7.mono HX2.out.size))
          have h65 : (65 : Int) ≤ (c7 : Int) := by
            obtain ⟨_, _, hv, h1, _⟩ := OwnS.form hown7
            injection hv with _ _ hv3
            omega
          have h65b : (c7 : Int) ≤ 9223372036854775807 := by
            obtain ⟨_, _, hv, _, h1, _⟩ := OwnS.form hown7
            injection hv with _ _ hv3
            unfold maxLen at h1
            omega
          obtain ⟨A7', c7', hv7, _, _, hrd7, _⟩ := OwnS.form hown7
          injection hv7 with hA7 _ hc7
          subst hA7 hc7
          obtain ⟨g7, o7, hA7, hg7, hc7⟩ := hrd7.cells (by omega)
          have HC7 := Lib.hid (fun (j : Nat) (hj : j < fl.length) (w' : World) (hb : Below w7.heap.size w7 w') => (hb.cell (p := ⟨g7, o7 + j, none⟩) hg7).trans (hc7 j hj))
          rw [hfl]
          subst hA7
          clear hown7 hbs7 hb7 hfl hrd7 hc7 t0 t1 t2 tl
          obtain ⟨t0, t1, t2, tl⟩ := HGB.out _ HX7.out
          go_wp2
          go_loopg [57, 5, 6] 65 (fun gg s57 s5 s6 wy => ∃ j : Nat, j + gg = 65 ∧ s57 = .int .i64 (j : Int) ∧ s5 = .slice A5 n5 e5 ∧ s6 = .slice A6 n6 e6 ∧ Below w7.heap.size w7 wy ∧ Aside (∀ (j2 : Nat) (h9 : j2 < Pt.Rg.firsts.length), j2 < j → Pt.Rg.aftOk g.base n i (Pt.Rg.firsts[j2] :: sfx) (ms.map BindV.pat) = false))
          case atStart => exact ⟨0, by omega, rfl, rfl, rfl, Below.refl _ _, fun j2 h9 h8 => absurd h8 (by omega)⟩
          case round =>
            obtain ⟨j, hj, rfl, rfl, rfl, hby, HAO⟩ := hrel
            have HJJ := Lib.hid hj
            have HBY := Lib.hid hby
            have HNO := Lib.hid HAO.out
            have hxy := HX7.out.trans (hby.mono HX7.out.size)
            have HXY := Lib.hid hxy
            clear t0 t1 t2 tl HAO
            obtain ⟨t0, t1, t2, tl⟩ := HGB.out _ hxy
            by_cases hj65 : j < 65
            · have k1 : (j : Int) < 65 := by omega
              have k2 : (0 : Int) ≤ (j : Int) := Int.natCast_nonneg _
              have HJL : Hid (j < Pt.Rg.firsts.length) := Lib.hid (by rw [Pt.Rg.firsts_len]; exact hj65)
              have hjl : j < fl.length := by rw [HFL.out]; exact hj65
              have hxj : fl[j].data.toList = [Pt.Rg.firsts[j]'HJL.out] := by
                have h9 : (bs fl)[j]'(by rw [bs_length]; exact hjl) = (Pt.Rg.firsts.map fun c => [c])[j]'(by rw [List.length_map]; exact HJL.out) := by simp only [HBS.out]
                rw [bs_get fl j hjl, List.getElem_map] at h9
                exact h9
              have c7j := HC7.out j hjl _ hby
              generalize fl[j] = xj at *
              have HXJ := Lib.hid hxj
              have hxz : xj.size = 1 := by rw [Lib.size_eq, hxj]; rfl
              have hsum : xj.size + S.size ≤ 9223372036854775807 := by omega
              obtain ⟨yj, hyj⟩ : ∃ y, y = xj ++ S := ⟨_, rfl⟩
              have HYD : Hid (yj.data.toList = Pt.Rg.firsts[j]'HJL.out :: sfx) := Lib.hid (by rw [hyj]; simp [HXJ.out, HSD.out])
              have HYZ : Hid (yj.size ≤ 10001) := Lib.hid (by rw [hyj, ByteArray.size_append]; omega)
              have HYJ := Lib.hid hyj
              have HAF := Lib.hid (show Calls Tryz.prog 36 #[patV A nX c b, .slice A5 n5 e5, .string yj, .int .i64 (i : Int), .int .i64 (n : Int)] wr (GivesAf1 wr g.base n i (Pt.Rg.firsts[j]'HJL.out :: sfx) ms) from by
                have h9 := gafter_any A xs c b g.base A5 ms e5 yj i n wr (HRG.out wr HXY.out).base (HI.out.rd.keep (HB7.out.trans (HBY.out.mono HB7.out.size))) (by have := HYZ.out; unfold maxLen; omega) HIN.out (by have := H13.out; omega) (by have := HI.out.short; omega)
                rw [HYD.out, ← HX.out, ← HN5.out] at h9
                exact h9.mono fun e w'' h => h.one)
              rw [HYJ.out] at HAF
              clear hyj hxj hjl hby hxy hj
              set_option maxRecDepth 100000 in
              go_wp2_with fail
              with_reducible refine HAF.out.mono ?_
              intro en w5 hh
              unfold GivesAf1 at hh
              obtain ⟨A10, ol10, e10, rfl, ho10, hr10, hb5, hm10, hf10, hl10⟩ := hh
              have HO10 := Lib.hid ho10
              have HR10 := Lib.hid hr10
              have HM10 := Lib.hid hm10
              have HF10 := Lib.hid hf10
              have HL10 := Lib.hid hl10
              have HB5 := Lib.hid hb5
              clear ho10 hr10 hm10 hf10 hl10 hb5 t0 t1 t2 tl c7j
              cases hok : Pt.Rg.aftOk g.base n i (Pt.Rg.firsts[j]'HJL.out :: sfx) (ms.map BindV.pat) with
              | false =>
                have HOK := Lib.hid hok
                clear hok
                go_wp2
                go_roundg (65 - (j + 1))
                case measure => go_light; have := HJJ.out; omega
                case rel =>
                  go_light
                  refine ⟨j + 1, by have := HJJ.out; omega, by go_num, rfl, rfl, HBY.out.trans (HB5.out.mono HBY.out.size), fun j2 h9 h8 => ?_⟩
                  by_cases h7 : j2 = j
                  · subst h7; exact HOK.out
                  · exact HNO.out j2 h9 (by omega)
              | true =>
                have HOK := Lib.hid hok
                clear hok
                have HBX := Lib.hid (HB7.out.trans ((HBY.out.trans (HB5.out.mono HBY.out.size)).mono HB7.out.size))
                have HXX := Lib.hid (HX7.out.trans ((HBY.out.trans (HB5.out.mono HBY.out.size)).mono HX7.out.size))
                have HOW4 : Hid (OwnS (w5.alloc (.cells #[.string (xj ++ S)] 9)) W.heap.size (.slice A6 n6 e6) sl) := Lib.hid (by rw [HN6.out]; exact (HI.out.own.below HBX.out).below ((Below.refl _ _).alloc (Nat.le_refl _) _))
                have hsx := HXX.out.size
                set_option maxRecDepth 100000 in
                go_wp2_with (refine wpList_append_sF rfl _ _ rfl W.heap.size (.slice A6 n6 e6) sl (by rfl) HOW4.out (xj ++ S) ⟨w5.heap.size, 0, none⟩ (by rfl) (new_one _ _ _) (by have h1 := HI.out.len; have h2 := HIN.out; have h3 := H13.out; omega) (by simp; omega) ?_; intro v9 w9 hown9 hb9 hg9 hv9)
                obtain ⟨A9, e9, hv9', hle9, hcm9, hrd9, _⟩ := OwnS.form hown9
                have HO9 : Hid (OwnS w9 W.heap.size (.slice A9 (sl ++ [xj ++ S]).length e9) (sl ++ [xj ++ S])) := Lib.hid (by rw [← hv9']; exact hown9)
                have hln : (sl ++ [xj ++ S]).length = n6 + 1 := by rw [List.length_append, ← HN6.out]; rfl
                have HLN := Lib.hid hln
                rw [hln] at hv9'
                have HV9 : Hid ((Value.slice A9 (n6 + 1) e9).ownBlock = (Value.slice A6 n6 e6).ownBlock ∨ (Value.slice A9 (n6 + 1) e9).ownBlock = some (w5.heap.size + 1)) := Lib.hid (by
                  rw [← hv9']
                  rcases hv9 with h9 | h9
                  · exact .inl h9
                  · exact .inr (by rw [h9]; simp))
                subst hv9'
                have hX5 := HXX.out.trans (((Below.refl w5.heap.size w5).alloc (Nat.le_refl _) (.cells #[.string (xj ++ S)] 9)).mono HXX.out.size)
                have HX9 : Hid (Below W.heap.size W w9) := Lib.hid (hX5.trans hb9)
                have HR9 : Hid (RdB w9 A10 ol10 e10) := Lib.hid ((HR10.out.keep ((Below.refl w5.heap.size w5).alloc (Nat.le_refl _) (.cells #[.string (xj ++ S)] 9))).past hg9 (fun y hy a ha h9 => by
                  rw [HN6.out] at h9
                  have h1 := HF10.out y hy a ha
                  have h2 := OwnS.lt HI.out.own _ h9
                  have h3 := HB7.out.size
                  have h4 := HBY.out.size
                  omega) (fun z hz y hy a ha h9 => by
                  rw [HN6.out] at h9
                  have h1 := HAXB.out z (HI.out.mem z (HM10.out z hz)) y hy a ha
                  have h2 := (World.ownsRow.lt HI.out.own _ h9).1
                  have h3 := HWZ.out
                  have h4 := HX1.out.size
                  omega))
                have HNI : Hid (n6 = i) := Lib.hid (by rw [HN6.out]; exact HI.out.len)
                clear hown9 hb9 hg9 hv9 hle9 hcm9 hrd9 hln hX5
                have hni := HNI.out
                subst hni
                set_option maxRecDepth 100000 in
                go_wp2
                go_roundg (n - (n6 + 1))
                case measure => go_light; have := HII.out; have := HIN.out; omega
                case rel =>
                  go_light
                  refine ⟨n6 + 1, ol10.length, n6 + 1, A10, e10, A9, e9, by have := HII.out; have := HIN.out; omega, by go_num, rfl, rfl, HX9.out, ol10, sl ++ [xj ++ S], rfl, HLN.out.symm, ?_⟩
                  have hyo := HYJ.out
                  refine HI.out.star HIN.out (by rw [← HPS.out]; exact HST.out) HJL.out (by rw [← hyo]; exact HYD.out) HOK.out (fun j2 h3 => HNO.out j2 (Nat.lt_trans h3 HJL.out) h3) (by rw [← hyo]; exact HYZ.out) HR9.out (by have h9 := HO10.out; rw [HOK.out] at h9; exact h9) HM10.out HL10.out HO9.out (fun k hk y hy a ha h9 => ?_)
                  have h1 := HF10.out y hy a ha
                  have h3 := HB7.out.size
                  have h4 := HBY.out.size
                  rw [HLN.out] at hk
                  rcases HV9.out with h5 | h5
                  · rw [h5, HN6.out] at hk
                    have h2 := OwnS.lt HI.out.own _ hk
                    omega
                  · rw [h5] at hk
                    have h6 := Option.some.inj hk
                    omega
            · have k1 : ¬ (j : Int) < 65 := by omega
              have hnone : o9 = none := by
                have e1 : n - i = (n - (i + 1)) + 1 := by have := HIN.out; omega
                rw [HV.out, HI.out.acc, e1, restGo_none (by rw [← HPS.out]; exact HST.out) (fun j2 h9 => HNO.out j2 h9 (by rw [Pt.Rg.firsts_len] at h9; omega))]
                rfl
              have hne : n6 = i := by rw [HN6.out]; exact HI.out.len
              have k3 : ((n6 : Int) == (i : Int) + 1) = false := by rw [beq_eq_false_iff_ne]; omega
              have k4 : ((n6 : Int) != (i : Int) + 1) = true := by rw [bne, k3]; rfl
              subst hnone
              clear hj hj65 hby hxy hne
              go_wp2
              refine bodyPost_ret (v := .tuple #[.string ⟨#[]⟩, .bool false]) (by simp [results, Tryz.results14, go_sem]) rfl ⟨rfl, HAL.out.trans (HXY.out.mono HAL.out.size)⟩
      · have j1 : ¬ (i : Int) < (n : Int) := by omega
        have hin2 : i = n := by omega
        have HX9 := Lib.hid hbw
        have hsome : o9 = some (bs sl) := by
          rw [HV.out, HI.out.acc, hin2, Nat.sub_self]
          show ((some []).map fun r => bs sl ++ r) = _
          simp
        subst hsome
        obtain ⟨A8, c8, hv8, hle8, hcm8, hrd8, _⟩ := OwnS.form HI.out.own
        injection hv8 with hA8 _ hc8
        subst hA8 hc8
        have HJN := Lib.hid (show Calls Tryz.prog 38 #[.slice A6 n6 e6] wr (GivesS wr (Pm.join (bs sl))) from by
          rw [HN6.out]
          exact rjoin_any A6 sl e6 wr hrd8 hle8 (by
            have h1 := lib_join_len 10001 (bs sl) (fun x hx => by
              unfold bs at hx
              obtain ⟨y, hy, rfl⟩ := List.mem_map.1 hx
              have h2 := HI.out.sz y hy
              rw [Lib.size_eq] at h2
              exact h2)
            rw [bs_length] at h1
            have h2 := HI.out.len
            have h3 := H13.out
            have h4 : sl.length * (10001 + 1) ≤ 13 * (10001 + 1) := Nat.mul_le_mul_right _ (by omega)
            omega) (by have h2 := HI.out.len; have h3 := H13.out; omega))
        clear hi hin hin2 hbw hle8 hcm8 hrd8
        set_option maxRecDepth 100000 in
        go_wp2_with fail
        with_reducible refine HJN.out.mono ?_
        intro en w9 hh
        unfold GivesS at hh
        obtain ⟨rfl, hb9⟩ := hh
        have HX10 := Lib.hid (HX9.out.trans (hb9.mono HX9.out.size))
        clear hb9
        set_option maxRecDepth 100000 in
        go_wp2
        refine bodyPost_ret (v := .tuple #[.string ⟨(Pm.join (bs sl)).toArray⟩, .bool true]) (by simp [results, Tryz.results14, go_sem]) rfl ⟨rfl, ?_⟩
        exact HAL.out.trans (HX10.out.mono HAL.out.size)
end Go.Proofs.YtembmegllpkmfaaGreatDoor
