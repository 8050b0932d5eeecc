/- The reference's firsts and after. -/
import Derived.Test.YtembmegllpkmfaaGreatDoorRegFnC
import Derived.Test.YtembmegllpkmfaaGreatDoorRegRLM
import Derived.Test.YtembmegllpkmfaaGreatDoorOwnPt
import Derived.Test.YtembmegllpkmfaaGreatDoorRegSimp
import Derived.Laws.BytesArg
namespace Go.Proofs.YtembmegllpkmfaaGreatDoor
open Go.RowKit
set_option linter.unusedVariables false
/-- The components of one byte among the first k bytes. -/
def firstsK (k : Nat) : List (List UInt8) := ((List.range k).filter fun n => Pm.comp [UInt8.ofNat n]).map fun n => [UInt8.ofNat n]
theorem firstsK_succ (k : Nat) : firstsK (k + 1) = firstsK k ++ if Pm.comp [UInt8.ofNat k] then [[UInt8.ofNat k]] else [] := by
  unfold firstsK
  rw [List.range_succ, List.filter_append, List.map_append]
  cases h : Pm.comp [UInt8.ofNat k] <;> simp [h]
theorem firstsK_all : firstsK 128 = Pt.Rg.firsts.map fun c => [c] := by decide +kernel
theorem run_convert_one (w : World) (g : Nat) (k : Nat) (hk : k < 256) (hc : w.cell? ⟨g, 0, none⟩ = some (.int .u8 (k : Int))) : (convert 112 9 (.slice (some ⟨g, 0, none⟩) 1 1)).run Tryz.prog w = .ok (.string ⟨#[UInt8.ofNat k]⟩) w := by
  have h := run_convert_bytes_arg (P := Tryz.prog) w 112 5 Tryz.underlying112 Tryz.underlying5 g 0 1 1 [(k : Int)] rfl (fun i hi => by
    have : i = 0 := by omega
    subst this
    exact hc) 9 Tryz.underlying9
  rw [h]
  simp [strOfNums]
theorem wpList_convert_one {w : World} {ops : Array Oper} {rest : List Oper} {o : Oper} {a : Act} {Q : Exit → Act → World → Prop} (hgd : o.guard = none) (x : Operand) (ho : o.op = .convert 112 9 x) (g k : Nat) (hk : k < 256)
    (hx : a.eval x = .slice (some ⟨g, 0, none⟩) 1 1) (hc : w.cell? ⟨g, 0, none⟩ = some (.int .u8 (k : Int)))
    (h : wpList Tryz.prog ops Q rest (a.put o.dst (.string ⟨#[UInt8.ofNat k]⟩)) w) : wpList Tryz.prog ops Q (o :: rest) a w := by
  refine wpList_plain hgd fun K hK => ?_
  have hrun := run_convert_one w g k hk hc
  unfold Oper.wp execOp
  simp only [ho, hx, Sem.run_bind, hrun, Result.andThen_ok]
  exact hK _ _ h
theorem new_oneF (w : World) (o : Obj) (x : ByteArray) (t : TypeId) : RdS ((w.alloc o).alloc (.cells #[.string x] t)) ((w.alloc o).alloc (.cells #[.string x] t)).heap.size (some ⟨w.heap.size + 1, 0, none⟩) [x] := by
  have h := new_one (w.alloc o) x t
  rw [show (w.alloc o).heap.size = w.heap.size + 1 by simp] at h
  exact h
set_option maxHeartbeats 4000000 in
theorem gfirsts_any (w : World) : Calls Tryz.prog 37 #[] w fun e w' => ∃ A fl c, e = .returned (.slice A (List.length fl) c) ∧ OwnS w' w.heap.size (.slice A fl.length c) fl ∧ bs fl = (Pt.Rg.firsts.map fun c => [c]) ∧ Below w.heap.size w w' := by
  go_enter Tryz.func37, Tryz.ntmps37
  go_wp2
  go_loopg [2, 1] 128 (fun gg s2 s1 wx => ∃ (k n1 : Nat) (A1 : Option Addr) (e1 : Nat), k + gg = 128 ∧ s2 = .int .i64 (k : Int) ∧ s1 = .slice A1 n1 e1 ∧ Below w.heap.size w wx ∧ Aside (∃ fl : List ByteArray, n1 = fl.length ∧ OwnS wx w.heap.size (.slice A1 fl.length e1) fl ∧ bs fl = firstsK k ∧ fl.length ≤ k))
  case atStart => exact ⟨0, 0, none, 0, by omega, rfl, rfl, Below.refl _ _, [], rfl, OwnS.empty _ _, rfl, Nat.le_refl _⟩
  case round =>
    obtain ⟨k, n1, A1, e1, hk, rfl, rfl, hbw, HA⟩ := hrel
    obtain ⟨fl, hn1, hown, hbs, hle⟩ := HA.out
    have HOW := Lib.hid hown
    have HN1 := Lib.hid hn1
    have HBS := Lib.hid hbs
    have HLE := Lib.hid hle
    have HBW := Lib.hid hbw
    have HKK := Lib.hid hk
    have hsz := hbw.size
    clear hown hbs hle HA hn1
    by_cases hkn : k < 128
    · have i1 : (k : Int) < 128 := by omega
      have hw8 : IntKind.u8.wrap (k : Int) = (k : Int) := by
        unfold IntKind.wrap
        simp [IntKind.bits, IntKind.signed]
        omega
      have HR := Lib.hid (fun (w' : World) => rcomp_any ⟨#[UInt8.ofNat k]⟩ w' (show 1 ≤ maxLen by decide))
      have HK := Lib.hid hkn
      clear hbw hk hkn
      set_option maxRecDepth 100000 in
      go_wp2_with (refine wpList_convert_one rfl _ rfl wr.heap.size k (by have := HK.out; omega) (by rfl) (by first | exact cells_new _ _ _ 0 _ rfl | (rw [hw8]; exact cells_new _ _ _ 0 _ rfl)) ?_)
      with_reducible refine (HR.out _).mono ?_
      rintro e w2 ⟨rfl, rfl⟩
      cases hc : Pm.comp [UInt8.ofNat k] with
      | false =>
        have HC := Lib.hid hc
        clear hc
        go_wp2
        go_roundg (128 - (k + 1))
        case measure => go_light; have := HKK.out; omega
        case rel =>
          go_light
          refine ⟨k + 1, n1, A1, e1, by have := HK.out; omega, by go_num, rfl, HBW.out.trans (((Below.refl _ _).alloc (Nat.le_refl _) _).mono HBW.out.size), fl, HN1.out, HOW.out.below ((Below.refl _ _).alloc (Nat.le_refl _) _), ?_, by have := HLE.out; omega⟩
          rw [firstsK_succ, HC.out, HBS.out]
          simp
      | true =>
        have HC := Lib.hid hc
        clear hc
        go_wp2_with (refine wpList_append_ss rfl _ _ rfl w.heap.size (.slice A1 n1 e1) fl (by rfl) (by (rw [HN1.out]; exact HOW.out.below (((Below.refl _ _).alloc (Nat.le_refl _) _).alloc (by simp) _))) (some ⟨wr.heap.size + 1, 0, none⟩) [⟨#[UInt8.ofNat k]⟩] 1 (by rfl) (new_oneF _ _ _ _) (fun h => by cases h) (by (have := HLE.out; have := HK.out; simp; omega)) (by (simp; omega)) ?_; intro v9 w9 hown9 hb9)
        obtain ⟨A9, e9, hv9, _⟩ := OwnS.form hown9
        subst hv9
        go_roundg (128 - (k + 1))
        case measure => go_light; have := HKK.out; omega
        case rel =>
          go_light
          refine ⟨k + 1, _, A9, e9, by have := HK.out; omega, by go_num, rfl, (HBW.out.trans ((((Below.refl _ _).alloc (Nat.le_refl _) _).alloc (by simp) _).mono HBW.out.size)).trans hb9, fl ++ [⟨#[UInt8.ofNat k]⟩], by simp, hown9, ?_, by have := HLE.out; simp; omega⟩
          rw [firstsK_succ, HC.out]
          unfold bs at *
          rw [List.map_append, HBS.out]
          simp
    · have i1 : ¬ (k : Int) < 128 := by omega
      have hk128 : k = 128 := by omega
      have HB2 : Hid (bs fl = Pt.Rg.firsts.map fun c => [c]) := Lib.hid (by rw [HBS.out, hk128, firstsK_all])
      have hn9 := HN1.out
      clear hbw hk hkn hk128
      subst hn9
      go_wp2
      go_ret
      exact ⟨A1, fl, e1, rfl, HOW.out, HB2.out, HBW.out⟩
theorem RdB.adr_ltF {w : World} {A : Option Addr} {bl : List BindV} {c : Nat} (h : RdB w A bl c) : ∀ y ∈ adr A bl, ∀ a, y = some a → a.block < w.heap.size := by
  intro y hy a ha
  rcases h.cells with h0 | ⟨g, o, hA, hlt, _⟩
  · subst h0
    cases hy
  · rw [adr_mem hy, hA] at ha
    injection ha with ha
    rw [← ha]
    exact hlt
/-- What after hands back. -/
def GivesAft (w : World) (B : Pt.Pat) (n i : Nat) (x : List UInt8) (bl : List BindV) (e : Ending) (w' : World) : Prop :=
  (Pt.Rg.aftOk B n i x (bl.map BindV.pat) = false ∧ e = .returned (.tuple #[.slice none 0 0, .bool false]) ∧ Below w.heap.size w w') ∨
  (Pt.Rg.aftOk B n i x (bl.map BindV.pat) = true ∧ ∃ A ol c, e = .returned (.tuple #[.slice A (List.length ol) c, .bool true]) ∧ ol.map BindV.pat = Pt.Rg.aft n i x (bl.map BindV.pat) ∧ RdB w' A ol c ∧ Below w.heap.size w w' ∧ (∀ z ∈ ol, z ∈ bl) ∧ ∀ y ∈ adr A ol, ∀ a, y = some a → w.heap.size ≤ a.block ∧ a.block < w'.heap.size)
theorem aft_snoc (n i : Nat) (x : List UInt8) (ms : List Pt.Pat) (h : Pt.Pat) : Pt.Rg.aft n i x (ms ++ [h]) = Pt.Rg.aft n i x ms ++ if Pt.fits h n && (decide (h.parts.length ≤ i) || Pt.pm (Pt.Rg.partAt h i) x) then [h] else [] := by
  unfold Pt.Rg.aft
  rw [List.filter_append]
  cases hh : (Pt.fits h n && (decide (h.parts.length ≤ i) || Pt.pm (Pt.Rg.partAt h i) x)) <;> simp [hh]
theorem aftOk_part {B : Pt.Pat} {n i : Nat} {x : List UInt8} {ms : List Pt.Pat} {k : Nat} (hk : k < ms.length) (h1 : (Pt.fits ms[k] n && (decide (ms[k].parts.length ≤ i) || Pt.pm (Pt.Rg.partAt ms[k] i) x)) = true) (h2 : Pt.Rg.covers B ms[k] (i + 1) n = true) : Pt.Rg.aftOk B n i x ms = false := by
  unfold Pt.Rg.aftOk
  rw [Bool.not_eq_false', List.any_eq_true]
  refine ⟨ms[k], ?_, h2⟩
  unfold Pt.Rg.aft
  rw [List.mem_filter]
  exact ⟨List.getElem_mem hk, h1⟩
/-- What the loop keeps. -/
structure AInv (W : World) (B : Pt.Pat) (n i : Nat) (x : List UInt8) (bl : List BindV) (hs : List Pt.Pat) (wx : World) (A3 : Option Addr) (e3 : Nat) (m : List BindV) (k : Nat) : Prop where
  own : OwnP wx W.heap.size (.slice A3 m.length e3) m
  acc : m.map BindV.pat = Pt.Rg.aft n i x (hs.take k)
  ok : ∀ y ∈ Pt.Rg.aft n i x (hs.take k), Pt.Rg.covers B y (i + 1) n = false
  len : m.length ≤ k
  mem : ∀ z ∈ m, z ∈ bl
theorem AInv.skip {W : World} {B : Pt.Pat} {n i : Nat} {x : List UInt8} {bl : List BindV} {hs : List Pt.Pat} {wx wy : World} {A3 : Option Addr} {e3 : Nat} {m : List BindV} {k : Nat} (h : AInv W B n i x bl hs wx A3 e3 m k) (hb : Below wx.heap.size wx wy) (hk : k < hs.length)
    (hn : (Pt.fits hs[k] n && (decide (hs[k].parts.length ≤ i) || Pt.pm (Pt.Rg.partAt hs[k] i) x)) = false) : AInv W B n i x bl hs wy A3 e3 m (k + 1) := by
  have e : Pt.Rg.aft n i x (hs.take (k + 1)) = Pt.Rg.aft n i x (hs.take k) := by rw [List.take_succ_eq_append_getElem hk, aft_snoc, hn]; simp
  exact ⟨h.own.below hb, by rw [e]; exact h.acc, by rw [e]; exact h.ok, Nat.le_succ_of_le h.len, h.mem⟩
theorem AInv.add {W : World} {B : Pt.Pat} {n i : Nat} {x : List UInt8} {bl : List BindV} {hs : List Pt.Pat} {wx wy : World} {A3 A4 : Option Addr} {e3 e4 : Nat} {m : List BindV} {y : BindV} {k : Nat} (h : AInv W B n i x bl hs wx A3 e3 m k) (hmem : y ∈ bl) (hk : k < hs.length)
    (hn : (Pt.fits hs[k] n && (decide (hs[k].parts.length ≤ i) || Pt.pm (Pt.Rg.partAt hs[k] i) x)) = true) (hc : Pt.Rg.covers B hs[k] (i + 1) n = false) (hy : y.pat = hs[k]) (hown : OwnP wy W.heap.size (.slice A4 (m ++ [y]).length e4) (m ++ [y])) : AInv W B n i x bl hs wy A4 e4 (m ++ [y]) (k + 1) := by
  have e : Pt.Rg.aft n i x (hs.take (k + 1)) = Pt.Rg.aft n i x (hs.take k) ++ [hs[k]] := by rw [List.take_succ_eq_append_getElem hk, aft_snoc, hn]; simp
  refine ⟨hown, by rw [e, List.map_append, h.acc, List.map_cons, List.map_nil, hy], fun z hz => ?_, by have := h.len; simp; omega, fun z hz => by
    rcases List.mem_append.1 hz with hz | hz
    · exact h.mem z hz
    · rw [List.mem_singleton.1 hz]; exact hmem⟩
  rw [e] at hz
  rcases List.mem_append.1 hz with hz | hz
  · exact h.ok z hz
  · rw [List.mem_singleton.1 hz]; exact hc
set_option maxHeartbeats 8000000 in
theorem gafter_any (A : Option Addr) (xs : List ByteArray) (c : Nat) (b : Bool) (p : Pt.Pat) (H : Option Addr) (bl : List BindV) (e : Nat) (x : ByteArray) (i n : Nat) (w : World) (hp : PatR w A xs c b p) (hr : RdB w H bl e) (hx : x.size ≤ maxLen) (hin : i + 1 ≤ n) (hn : n ≤ 1000000) (hN : bl.length ≤ 1000000) :
    Calls Tryz.prog 36 #[patV A xs.length c b, .slice H bl.length e, .string x, .int .i64 (i : Int), .int .i64 (n : Int)] w (GivesAft w p n i x.data.toList bl) := by
  obtain ⟨W0, hW0⟩ : ∃ W0, W0 = w.alloc (.cells #[.slice A xs.length c, .bool b] 24) := ⟨_, rfl⟩
  have hal : Below w.heap.size w W0 := by rw [hW0]; exact (Below.refl _ _).alloc (Nat.le_refl _) _
  have HAL := Lib.hid hal
  have hpb : PBox W0 w.heap.size A xs.length c b := by rw [hW0]; exact PBox.new ..
  have HPB := Lib.hid (fun (w' : World) (hb : Below W0.heap.size W0 w') => hpb.keep hb)
  have HPR := Lib.hid (fun (w' : World) (hb : Below W0.heap.size W0 w') => (hp.keep hal).keep hb)
  have HRD := Lib.hid (fun (w' : World) (hb : Below W0.heap.size W0 w') => (hr.keep hal).keep hb)
  have HXS := Lib.hid hx
  have HIN := Lib.hid hin
  have HNN := Lib.hid hN
  obtain ⟨nX, hX⟩ : ∃ n, n = xs.length := ⟨_, rfl⟩
  obtain ⟨nH, hH⟩ : ∃ n, n = bl.length := ⟨_, rfl⟩
  have HX := Lib.hid hX
  have HH := Lib.hid hH
  have HAXB : Hid (∀ y ∈ bl, ∀ z ∈ adr y.A y.xs, ∀ a, z = some a → a.block < w.heap.size) := Lib.hid fun y hy z hz a ha => (hr.parts y hy).adr_lt z hz a ha
  have hi6 : (i : Int) ≤ 1000000 := by omega
  have hi7 : (0 : Int) ≤ (i : Int) := Int.natCast_nonneg _
  rw [← hX] at hW0 hpb HPB ⊢
  rw [← hH] at hN ⊢
  have hnh : (nH : Int) ≤ 1000000 := by omega
  clear hp hr hX hH hx hin hn hN hal
  obtain ⟨t0, t1, tl⟩ := hpb
  subst hW0
  go_enter Tryz.func36, Tryz.ntmps36
  go_wp2
  have HWZ : Hid (w.heap.size < (w.alloc (.cells #[.slice A nX c, .bool b] 24)).heap.size) := Lib.hid (by simp)
  generalize hwg : w.alloc (.cells #[.slice A nX c, .bool b] 24) = W at *
  go_loopg [19, 12] nH (fun gg s19 s12 wx => ∃ (k n3 : Nat) (A3 : Option Addr) (e3 : Nat), k + gg = nH ∧ s19 = .int .i64 (k : Int) ∧ s12 = .slice A3 n3 e3 ∧ Below W.heap.size W wx ∧ Aside (∃ m : List BindV, n3 = m.length ∧ AInv W p n i x.data.toList bl (bl.map BindV.pat) wx A3 e3 m k))
  case atStart => exact ⟨0, 0, none, 0, by omega, rfl, rfl, Below.refl _ _, [], rfl, OwnP.empty _ _, rfl, fun x h => (by cases h), Nat.le_refl _, fun x h => (by cases h)⟩
  case round =>
    obtain ⟨k, n3, A3, e3, hk, rfl, rfl, hbw, HA⟩ := hrel
    obtain ⟨m, hm3, hI⟩ := HA.out
    have HI := Lib.hid hI
    have HM3 := Lib.hid hm3
    have HBW := Lib.hid hbw
    by_cases hkn : k < nH
    · have i1 : (k : Int) < (nH : Int) := by omega
      have hkb : k < bl.length := by rw [← HH.out]; exact hkn
      have HKB := Lib.hid hkb
      have HKH : Hid (k < (bl.map BindV.pat).length) := Lib.hid (by rw [List.length_map]; exact hkb)
      have HKG : Hid ((bl.map BindV.pat)[k]'HKH.out = bl[k].pat) := Lib.hid (List.getElem_map ..)
      obtain ⟨q, o, hA, hq, hcell⟩ := (HRD.out _ hbw).at (by omega)
      obtain ⟨e0, e1⟩ := hcell k hkb
      obtain ⟨W1, hW1⟩ : ∃ W1, W1 = wr.alloc (.cells #[.slice bl[k].A bl[k].xs.length bl[k].c, .bool bl[k].b] 24) := ⟨_, rfl⟩
      have hb1 : Below wr.heap.size wr W1 := by rw [hW1]; exact (Below.refl _ _).alloc (Nat.le_refl _) _
      have hx1 := hbw.trans (hb1.mono hbw.size)
      have HB1 := Lib.hid hb1
      have HX1 := Lib.hid hx1
      have hpk : PatR W1 bl[k].A bl[k].xs bl[k].c bl[k].b bl[k].pat := (HRD.out W1 hx1).parts _ (List.getElem_mem hkb)
      have HPK := Lib.hid (fun (w' : World) (hb : Below W1.heap.size W1 w') => hpk.keep hb)
      have hpb1 : PBox W1 wr.heap.size bl[k].A bl[k].xs.length bl[k].c bl[k].b := by rw [hW1]; exact PBox.new ..
      have HPB1 := Lib.hid (fun (w' : World) (hb : Below W1.heap.size W1 w') => hpb1.keep hb)
      have HCN := Lib.hid (gcounts_any bl[k].A bl[k].xs bl[k].c bl[k].b bl[k].pat n W1 hpk)
      have HAX : Hid (∀ z ∈ adr bl[k].A bl[k].xs, ∀ a, z = some a → a.block < w.heap.size) := Lib.hid (HAXB.out _ (List.getElem_mem hkb))
      have hlen : bl[k].pat.parts.length = bl[k].xs.length := hpk.len
      obtain ⟨s0, s1, sl⟩ := hpb1
      clear hcell hbw hb1 hx1 hI hm3 hpk HA
      subst hA
      have HMEM : Hid (bl[k] ∈ bl) := Lib.hid (List.getElem_mem hkb)
      generalize bl[k] = y at *
      obtain ⟨Y, ys, cy, fy⟩ := y
      dsimp only at *
      generalize hnk : ys.length = nk at *
      have HNK := Lib.hid hnk
      clear hnk hkb
      have HLEN := Lib.hid hlen
      clear hlen
      go_wp2_with fail
      subst hW1
      with_reducible refine HCN.out.mono ?_
      intro en w2 hh
      unfold GivesBB at hh
      obtain ⟨rfl, hb2⟩ := hh
      have HX2 := Lib.hid hb2
      have HY2 := Lib.hid (HB1.out.trans (hb2.mono HB1.out.size))
      clear s0 s1 sl
      obtain ⟨s0, s1, sl⟩ := HPB1.out _ hb2
      cases hf : Pt.fits (BindV.pat ⟨Y, ys, cy, fy⟩) n with
      | false =>
        have hne : Hid ((Pt.fits ((bl.map BindV.pat)[k]'HKH.out) n && (decide (((bl.map BindV.pat)[k]'HKH.out).parts.length ≤ i) || Pt.pm (Pt.Rg.partAt ((bl.map BindV.pat)[k]'HKH.out) i) x.data.toList)) = false) := Lib.hid (by rw [HKG.out, hf, Bool.false_and])
        clear hb2 hf
        go_wp2
        go_roundg (nH - (k + 1))
        case measure => go_light; omega
        case rel =>
          go_light
          exact ⟨k + 1, n3, A3, e3, by omega, by go_num, rfl, HBW.out.trans (HY2.out.mono HBW.out.size), m, HM3.out, HI.out.skip HY2.out HKH.out hne.out⟩
      | true =>
        have HF := Lib.hid hf
        clear hf hb2
        by_cases hik : i < nk
        · have j1 : (i : Int) < (nk : Int) := by omega
          have hil : i < ys.length := by rw [HNK.out]; exact hik
          obtain ⟨g9, o9, hY, hg9, hc9⟩ := (show RdS w2 w2.heap.size Y ys from (HPK.out _ HX2.out).rd).cells (by omega)
          subst hY
          have c9 := hc9 i hil
          have hpa : Pt.Rg.partAt (BindV.pat ⟨some ⟨g9, o9, none⟩, ys, cy, fy⟩) i = ys[i].data.toList := by
            show (bs ys).getD i [42] = _
            unfold bs
            rw [List.getD_eq_getElem?_getD, List.getElem?_map, List.getElem?_eq_getElem hil]
            rfl
          have hcap := rcapture_any ys[i] x w2 ((HPK.out _ HX2.out).sz _ (List.getElem_mem hil)) HXS.out
          have HPA := Lib.hid hpa
          have HCAP := Lib.hid hcap
          generalize ys[i] = yi at *
          have HIK := Lib.hid hik
          clear hik hil hc9 hpa hcap
          go_wp2_with fail
          with_reducible refine HCAP.out.mono ?_
          intro en w3 hh
          unfold CapRes at hh
          obtain ⟨lc, rfl, _, rfl⟩ := hh
          cases hpm : (Pt.capture yi.data.toList x.data.toList).isSome with
          | false =>
            have hne : Hid ((Pt.fits ((bl.map BindV.pat)[k]'HKH.out) n && (decide (((bl.map BindV.pat)[k]'HKH.out).parts.length ≤ i) || Pt.pm (Pt.Rg.partAt ((bl.map BindV.pat)[k]'HKH.out) i) x.data.toList)) = false) := Lib.hid (by
              rw [HKG.out, HPA.out]
              have h1 : Pt.pm yi.data.toList x.data.toList = false := hpm
              rw [h1, HLEN.out, decide_eq_false (by have := HIK.out; omega), Bool.or_self, Bool.and_false])
            clear hpm
            go_wp2
            go_roundg (nH - (k + 1))
            case measure => go_light; omega
            case rel =>
              go_light
              exact ⟨k + 1, n3, A3, e3, by omega, by go_num, rfl, HBW.out.trans (HY2.out.mono HBW.out.size), m, HM3.out, HI.out.skip HY2.out HKH.out hne.out⟩
          | true =>
            have HPRED : Hid ((Pt.fits (BindV.pat ⟨some ⟨g9, o9, none⟩, ys, cy, fy⟩) n && (decide ((BindV.pat ⟨some ⟨g9, o9, none⟩, ys, cy, fy⟩).parts.length ≤ i) || Pt.pm (Pt.Rg.partAt (BindV.pat ⟨some ⟨g9, o9, none⟩, ys, cy, fy⟩) i) x.data.toList)) = true) := Lib.hid (by
              rw [HPA.out, HF.out]
              have h1 : Pt.pm yi.data.toList x.data.toList = true := hpm
              rw [h1, Bool.or_true, Bool.and_true])
            have HNEW : Hid (RdB (w2.alloc (.cells #[.slice (some ⟨g9, o9, none⟩) nk cy, .bool fy] 24)) (some ⟨w2.heap.size, 0, none⟩) [⟨some ⟨g9, o9, none⟩, ys, cy, fy⟩] 1) := Lib.hid (by
              have h9 := newP w2 ⟨some ⟨g9, o9, none⟩, ys, cy, fy⟩ (HPK.out _ HX2.out)
              simp only [HNK.out] at h9
              exact h9)
            clear hpm c9
            go_wp2_with (refine wpList_append_pt rfl _ _ rfl W.heap.size (.slice A3 n3 e3) m (by rfl) (by rw [HM3.out]; exact (HI.out.own.below HY2.out).below ((Below.refl _ _).alloc (Nat.le_refl _) _)) (some ⟨w2.heap.size, 0, none⟩) [⟨(some ⟨g9, o9, none⟩), ys, cy, fy⟩] 1 1 rfl (by rfl) (HNEW.out) (fun z hz u hu a ha => by
                             rw [List.mem_singleton.1 hz] at hu
                             have h1 := HAX.out u hu a ha
                             have h2 := HWZ.out
                             have h3 := HBW.out.size
                             have h4 := HY2.out.size
                             exact ⟨fun h9 => by rw [HM3.out] at h9; have h5 := (HI.out.own.lt _ h9).1; omega, by simp; omega⟩) (by have h1 := HI.out.len; have h2 := HKB.out; have h3 := HNN.out; simp; omega) (by have h3 := HBW.out.size; have h4 := HY2.out.size; simp; omega) ?_
                         intro v9 w9 hown9 hb9 hg9
                         have hal2 : Below w2.heap.size w2 (w2.alloc (.cells #[.slice (some ⟨g9, o9, none⟩) nk cy, .bool fy] 24)) := (Below.refl _ _).alloc (Nat.le_refl _) _
                         have hy2 := HBW.out.trans (HY2.out.mono HBW.out.size)
                         have hz9 : Below W.heap.size W w9 := (hy2.trans (hal2.mono hy2.size)).trans hb9
                         have HZ9 := Lib.hid hz9
                         obtain ⟨t0_9, t1_9, tl_9⟩ := HPB.out w9 hz9
                         have hne : some wr.heap.size ≠ (Value.slice A3 n3 e3).ownBlock := fun h9 => by rw [HM3.out] at h9; have h5 := (HI.out.own.lt _ h9.symm).2; omega
                         have s0_9 := hg9.cell ((hal2.cell (p := ⟨wr.heap.size, 0, none⟩) sl).trans s0) hne
                         have s1_9 := hg9.cell ((hal2.cell (p := ⟨wr.heap.size, 1, none⟩) sl).trans s1) hne
                         have HO9 := Lib.hid hown9
                         have hpy9 : PatR w9 (some ⟨g9, o9, none⟩) ys cy fy (BindV.pat ⟨(some ⟨g9, o9, none⟩), ys, cy, fy⟩) := ((HRD.out w9 hz9).parts _ HMEM.out)
                         have hcov := gcovers_any A (some ⟨g9, o9, none⟩) xs ys c cy b fy p (BindV.pat ⟨(some ⟨g9, o9, none⟩), ys, cy, fy⟩) (i + 1) n w9 (HPR.out w9 hz9) hpy9 HIN.out
                         rw [← HX.out, HNK.out, Int.natCast_succ] at hcov
                         have HCOV := Lib.hid hcov
                         clear hcov hpy9 hown9 hb9 hg9 hal2 hy2 hz9 hne s0 s1 sl t0 t1 tl)
            with_reducible refine HCOV.out.mono ?_
            intro en w5 hh
            unfold GivesBB at hh
            obtain ⟨rfl, hb5⟩ := hh
            have HB5 := Lib.hid hb5
            clear hb5 t0_9 t1_9 tl_9 s0_9 s1_9
            cases hcv : Pt.Rg.covers p (BindV.pat ⟨(some ⟨g9, o9, none⟩), ys, cy, fy⟩) (i + 1) n with
            | true =>
              have HAO : Hid (Pt.Rg.aftOk p n i x.data.toList (bl.map BindV.pat) = false) := Lib.hid (aftOk_part HKH.out (by rw [HKG.out]; exact HPRED.out) (by rw [HKG.out]; exact hcv))
              clear hcv
              go_wp2
              refine bodyPost_ret (v := .tuple #[.slice none 0 0, .bool false]) (by simp [results, Tryz.results36, go_sem]) rfl ?_
              exact .inl ⟨HAO.out, rfl, HAL.out.trans ((HZ9.out.trans (HB5.out.mono HZ9.out.size)).mono HAL.out.size)⟩
            | false =>
              have HCF := Lib.hid hcv
              clear hcv
              obtain ⟨A9, e9, hv9, _⟩ := HO9.out.form
              subst hv9
              go_wp2
              go_roundg (nH - (k + 1))
              case measure => go_light; omega
              case rel =>
                go_light
                exact ⟨k + 1, _, A9, e9, by omega, by go_num, rfl, HZ9.out.trans (HB5.out.mono HZ9.out.size), m ++ [⟨(some ⟨g9, o9, none⟩), ys, cy, fy⟩], by simp, HI.out.add HMEM.out HKH.out (by rw [HKG.out]; exact HPRED.out) (by rw [HKG.out]; exact HCF.out) HKG.out.symm (HO9.out.below HB5.out)⟩
        · have j1 : ¬ (i : Int) < (nk : Int) := by omega
          have HPRED : Hid ((Pt.fits (BindV.pat ⟨Y, ys, cy, fy⟩) n && (decide ((BindV.pat ⟨Y, ys, cy, fy⟩).parts.length ≤ i) || Pt.pm (Pt.Rg.partAt (BindV.pat ⟨Y, ys, cy, fy⟩) i) x.data.toList)) = true) := Lib.hid (by
            rw [HF.out, HLEN.out, decide_eq_true (by omega), Bool.true_or, Bool.and_true])
          have HNEW : Hid (RdB (w2.alloc (.cells #[.slice Y nk cy, .bool fy] 24)) (some ⟨w2.heap.size, 0, none⟩) [⟨Y, ys, cy, fy⟩] 1) := Lib.hid (by
            have h9 := newP w2 ⟨Y, ys, cy, fy⟩ (HPK.out _ HX2.out)
            simp only [HNK.out] at h9
            exact h9)
          clear hik
          go_wp2_with (refine wpList_append_pt rfl _ _ rfl W.heap.size (.slice A3 n3 e3) m (by rfl) (by rw [HM3.out]; exact (HI.out.own.below HY2.out).below ((Below.refl _ _).alloc (Nat.le_refl _) _)) (some ⟨w2.heap.size, 0, none⟩) [⟨Y, ys, cy, fy⟩] 1 1 rfl (by rfl) (HNEW.out) (fun z hz u hu a ha => by
                           rw [List.mem_singleton.1 hz] at hu
                           have h1 := HAX.out u hu a ha
                           have h2 := HWZ.out
                           have h3 := HBW.out.size
                           have h4 := HY2.out.size
                           exact ⟨fun h9 => by rw [HM3.out] at h9; have h5 := (HI.out.own.lt _ h9).1; omega, by simp; omega⟩) (by have h1 := HI.out.len; have h2 := HKB.out; have h3 := HNN.out; simp; omega) (by have h3 := HBW.out.size; have h4 := HY2.out.size; simp; omega) ?_
                       intro v9 w9 hown9 hb9 hg9
                       have hal2 : Below w2.heap.size w2 (w2.alloc (.cells #[.slice Y nk cy, .bool fy] 24)) := (Below.refl _ _).alloc (Nat.le_refl _) _
                       have hy2 := HBW.out.trans (HY2.out.mono HBW.out.size)
                       have hz9 : Below W.heap.size W w9 := (hy2.trans (hal2.mono hy2.size)).trans hb9
                       have HZ9 := Lib.hid hz9
                       obtain ⟨t0_9, t1_9, tl_9⟩ := HPB.out w9 hz9
                       have hne : some wr.heap.size ≠ (Value.slice A3 n3 e3).ownBlock := fun h9 => by rw [HM3.out] at h9; have h5 := (HI.out.own.lt _ h9.symm).2; omega
                       have s0_9 := hg9.cell ((hal2.cell (p := ⟨wr.heap.size, 0, none⟩) sl).trans s0) hne
                       have s1_9 := hg9.cell ((hal2.cell (p := ⟨wr.heap.size, 1, none⟩) sl).trans s1) hne
                       have HO9 := Lib.hid hown9
                       have hpy9 : PatR w9 Y ys cy fy (BindV.pat ⟨Y, ys, cy, fy⟩) := ((HRD.out w9 hz9).parts _ HMEM.out)
                       have hcov := gcovers_any A Y xs ys c cy b fy p (BindV.pat ⟨Y, ys, cy, fy⟩) (i + 1) n w9 (HPR.out w9 hz9) hpy9 HIN.out
                       rw [← HX.out, HNK.out, Int.natCast_succ] at hcov
                       have HCOV := Lib.hid hcov
                       clear hcov hpy9 hown9 hb9 hg9 hal2 hy2 hz9 hne s0 s1 sl t0 t1 tl)
          with_reducible refine HCOV.out.mono ?_
          intro en w5 hh
          unfold GivesBB at hh
          obtain ⟨rfl, hb5⟩ := hh
          have HB5 := Lib.hid hb5
          clear hb5 t0_9 t1_9 tl_9 s0_9 s1_9
          cases hcv : Pt.Rg.covers p (BindV.pat ⟨Y, ys, cy, fy⟩) (i + 1) n with
          | true =>
            have HAO : Hid (Pt.Rg.aftOk p n i x.data.toList (bl.map BindV.pat) = false) := Lib.hid (aftOk_part HKH.out (by rw [HKG.out]; exact HPRED.out) (by rw [HKG.out]; exact hcv))
            clear hcv
            go_wp2
            refine bodyPost_ret (v := .tuple #[.slice none 0 0, .bool false]) (by simp [results, Tryz.results36, go_sem]) rfl ?_
            exact .inl ⟨HAO.out, rfl, HAL.out.trans ((HZ9.out.trans (HB5.out.mono HZ9.out.size)).mono HAL.out.size)⟩
          | false =>
            have HCF := Lib.hid hcv
            clear hcv
            obtain ⟨A9, e9, hv9, _⟩ := HO9.out.form
            subst hv9
            go_wp2
            go_roundg (nH - (k + 1))
            case measure => go_light; omega
            case rel =>
              go_light
              exact ⟨k + 1, _, A9, e9, by omega, by go_num, rfl, HZ9.out.trans (HB5.out.mono HZ9.out.size), m ++ [⟨Y, ys, cy, fy⟩], by simp, HI.out.add HMEM.out HKH.out (by rw [HKG.out]; exact HPRED.out) (by rw [HKG.out]; exact HCF.out) HKG.out.symm (HO9.out.below HB5.out)⟩
    · have i1 : ¬ (k : Int) < (nH : Int) := by omega
      have hacc := hI.acc
      have hok := hI.ok
      rw [List.take_of_length_le (by rw [List.length_map, ← HH.out]; omega)] at hacc hok
      have HAO : Hid (Pt.Rg.aftOk p n i x.data.toList (bl.map BindV.pat) = true) := Lib.hid (by
        unfold Pt.Rg.aftOk
        rw [Bool.not_eq_true', List.any_eq_false]
        intro z hz
        rw [hok z hz]
        decide)
      have HAC := Lib.hid hacc
      clear hacc hok hI hbw HA
      go_wp2
      refine bodyPost_ret (v := .tuple #[.slice A3 m.length e3, .bool true]) (by simp [results, Tryz.results36, go_sem]) rfl ?_
      exact .inr ⟨HAO.out, A3, m, e3, rfl, HAC.out, HI.out.own.rdB, HAL.out.trans (HBW.out.mono HAL.out.size), HI.out.mem, fun y hy a ha => by
        obtain ⟨A9, c9, hv9, _, h9⟩ := HI.out.own.rd
        injection hv9 with hA9 _ _
        have hya := adr_mem hy
        rw [ha] at hya
        have h2 := HI.out.own.rdB.adr_ltF y hy a ha
        have h3 := HWZ.out
        refine ⟨?_, h2⟩
        have h4 := h9 a.block a.off (by rw [← hA9, ← hya]; exact congrArg some (by
          rcases HI.out.own.rdB.cells with h0 | ⟨g, o, hg, _, _⟩
          · subst h0; cases hy
          · rw [hg] at hya; injection hya with hya; rw [hya]))
        omega⟩
end Go.Proofs.YtembmegllpkmfaaGreatDoor
