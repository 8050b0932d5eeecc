/- region.Minus. -/
import Derived.Test.YtembmegllpkmfaaGreatDoorRegWith
import Derived.Test.YtembmegllpkmfaaGreatDoorConc
namespace Go.Proofs.YtembmegllpkmfaaGreatDoor
open Go.RowKit
set_option linter.unusedVariables false
theorem orN_zero2 {x y : Nat} (h : orN x y = 0) : x = 0 ∧ y = 0 := by
  unfold orN at h
  split at h <;> omega
theorem minusGo_snoc (a : Pt.Rg.Reg) (h : Pt.Pat) : ∀ (l pre : List Pt.Pat), Pt.Rg.minusGo a pre (l ++ [h]) = Pt.Rg.minusGo a pre l ++ (match Pt.meet a.base h with
    | none => []
    | some B => [⟨B, a.holes ++ (pre ++ l)⟩])
  | [], pre => by
    simp only [List.nil_append, Pt.Rg.minusGo, List.append_nil]
    cases Pt.meet a.base h <;> rfl
  | x :: l, pre => by
    have ih := minusGo_snoc a h l (pre ++ [x])
    simp only [List.cons_append, List.nil_append, Pt.Rg.minusGo, ih, List.append_assoc]
theorem RdB.adr_lt {w : World} {A : Option Addr} {bl : List BindV} {c : Nat} (h : RdB w A bl c) : ∀ y ∈ adr A bl, ∀ a, y = some a → a.block < w.heap.size := by
  intro y hy a ha
  rcases h.cells with h0 | ⟨g, o, hA, hlt, _⟩
  · subst h0
    cases hy
  · rw [adr_mem hy, hA] at ha
    injection ha with ha
    rw [← ha]
    exact hlt
theorem regV_lt {w : World} {v : RegV} (h : RegV.R w v) : ∀ y ∈ v.addrs, ∀ a, y = some a → a.block < w.heap.size := by
  intro y hy a ha
  rcases List.mem_append.1 hy with hy | hy
  · exact h.base.adr_lt y hy a ha
  · rcases List.mem_append.1 hy with hy | hy
    · exact h.holes.adr_lt y hy a ha
    · obtain ⟨z, hz, hy⟩ := List.mem_flatMap.1 hy
      exact (h.holes.parts z hz).adr_lt y hy a ha
theorem ownG_new (w : World) (y : RegV) (hy : RegV.R w y) : OwnG (w.alloc (.cells #[.slice y.A y.xs.length y.c, .bool y.b, .slice y.H y.bl.length y.e] 27)) w.heap.size (.slice (some ⟨w.heap.size, 0, none⟩) 1 1) [y] := by
  have hb : Below w.heap.size w (w.alloc (.cells #[.slice y.A y.xs.length y.c, .bool y.b, .slice y.H y.bl.length y.e] 27)) := (Below.refl _ _).alloc (Nat.le_refl _) _
  refine ⟨⟨rfl, .inr ⟨w.heap.size, 1, _, rfl, Nat.le_refl _, heap_alloc_new w _, Nat.le_refl _, by decide, rfl, rfl⟩⟩, fun x hx => ?_, fun x hx z hz a ha => ?_⟩
  · rw [List.mem_singleton.1 hx]
    exact hy.keep hb
  · rw [List.mem_singleton.1 hx] at hz
    have h1 : a.block < w.heap.size := regV_lt hy z hz a ha
    refine ⟨fun e => ?_, by simp; omega⟩
    have e2 : w.heap.size = a.block := Option.some.inj e
    omega
theorem wp_append_rg2 {w : World} {o : Oper} {a : Act} {K : Act → World → Prop} {Q : Exit → Act → World → Prop} (s x : Operand)
    (ho : o.op = .call { callee := .builtin .append, args := #[s, x], argTypes := #[41, 41] })
    (base : Nat) (v : Value) (l : List RegV) (hs : a.eval s = v) (hown : OwnG w base v l)
    (A : Option Addr) (ys : List RegV) (n c : Nat) (hn : n = ys.length) (hx : a.eval x = .slice A n c) (hr : RdG w A ys c)
    (hya : ∀ x ∈ ys, ∀ y ∈ x.addrs, ∀ a, y = some a → v.ownBlock ≠ some a.block ∧ a.block < w.heap.size) (hN : (l.length + ys.length) * 56 ≤ 140737488355328) (hbase : base ≤ w.heap.size)
    (h : ∀ v' w', OwnG w' base v' (l ++ ys) → Below base w w' → (v'.ownBlock = v.ownBlock ∨ v'.ownBlock = some w.heap.size) → K (a.put o.dst v') w') : o.wp Tryz.prog a w K Q := by
  subst hn
  obtain ⟨v', w', hrun, h1, h2, h3, h4⟩ := run_append_rg w o.type base v l hown A ys c hr hya hN hbase
  unfold Oper.wp execOp
  simp only [ho, resolve, invoke, builtin, Sem.run_bind, Sem.run_pure, Result.andThen_ok, List.map_toArray, List.map_cons, List.map_nil, hs, hx, hrun]
  exact h v' w' h1 h2 h4
theorem wpList_append_rg2 {w : World} {ops : Array Oper} {rest : List Oper} {o : Oper} {a : Act} {Q : Exit → Act → World → Prop} (hgd : o.guard = none) (s x : Operand)
    (ho : o.op = .call { callee := .builtin .append, args := #[s, x], argTypes := #[41, 41] })
    (base : Nat) (v : Value) (l : List RegV) (hs : a.eval s = v) (hown : OwnG w base v l)
    (A : Option Addr) (ys : List RegV) (n c : Nat) (hn : n = ys.length) (hx : a.eval x = .slice A n c) (hr : RdG w A ys c)
    (hya : ∀ x ∈ ys, ∀ y ∈ x.addrs, ∀ a, y = some a → v.ownBlock ≠ some a.block ∧ a.block < w.heap.size) (hN : (l.length + ys.length) * 56 ≤ 140737488355328) (hbase : base ≤ w.heap.size)
    (h : ∀ v' w', OwnG w' base v' (l ++ ys) → Below base w w' → (v'.ownBlock = v.ownBlock ∨ v'.ownBlock = some w.heap.size) → wpList Tryz.prog ops Q rest (a.put o.dst v') w') : wpList Tryz.prog ops Q (o :: rest) a w := by
  refine wpList_plain hgd fun K hK => ?_
  exact wp_append_rg2 s x ho base v l hs hown A ys n c hn hx hr hya hN hbase fun v' w' h1 h2 h3 => hK _ _ (h v' w' h1 h2 h3)
theorem step_append_rg2 {w : World} {ops : Array Oper} {o : Oper} {a : Act} {K : Act → World → Prop} {Q : Exit → Act → World → Prop} {E : Prop} (hgd : o.guard = none) (s x : Operand)
    (ho : o.op = .call { callee := .builtin .append, args := #[s, x], argTypes := #[41, 41] })
    (base : Nat) (v : Value) (l : List RegV) (hs : a.eval s = v) (hown : OwnG w base v l)
    (A : Option Addr) (ys : List RegV) (n c : Nat) (hn : n = ys.length) (hx : a.eval x = .slice A n c) (hr : RdG w A ys c)
    (hya : ∀ x ∈ ys, ∀ y ∈ x.addrs, ∀ a, y = some a → v.ownBlock ≠ some a.block ∧ a.block < w.heap.size) (hN : (l.length + ys.length) * 56 ≤ 140737488355328) (hbase : base ≤ w.heap.size)
    (h : ∀ v' w', OwnG w' base v' (l ++ ys) → Below base w w' → (v'.ownBlock = v.ownBlock ∨ v'.ownBlock = some w.heap.size) → K (a.put o.dst v') w') : if Region.wanted o (yielded ops a.tmps) = true then Oper.wp Tryz.prog o a w K Q else E := by
  have hw : Region.wanted o (yielded ops a.tmps) = true := by simp [Region.wanted, hgd]
  rw [if_pos hw]
  exact wp_append_rg2 s x ho base v l hs hown A ys n c hn hx hr hya hN hbase h
theorem step_append_rg3 {w : World} {ops : Array Oper} {o : Oper} {a : Act} {K : Act → World → Prop} {Q : Exit → Act → World → Prop} {E : Prop} (hgd : o.guard = none) (s x : Operand)
    (ho : o.op = .call { callee := .builtin .append, args := #[s, x], argTypes := #[41, 41] })
    (base : Nat) (v : Value) (l : List RegV) (hs : a.eval s = v) (hown : OwnG w base v l)
    (A : Option Addr) (ys : List RegV) (n c : Nat) (hn : n = ys.length) (hx : a.eval x = .slice A n c) (hr : RdG w A ys c)
    (hya : ∀ x ∈ ys, ∀ y ∈ x.addrs, ∀ a, y = some a → v.ownBlock ≠ some a.block ∧ a.block < w.heap.size) (hN : (l.length + ys.length) * 56 ≤ 140737488355328) (hbase : base ≤ w.heap.size)
    (h : ∀ v' w', OwnG w' base v' (l ++ ys) → Below base w w' → w.grownBy w' v.ownBlock → (v'.ownBlock = v.ownBlock ∨ v'.ownBlock = some w.heap.size) → K (a.put o.dst v') w') : if Region.wanted o (yielded ops a.tmps) = true then Oper.wp Tryz.prog o a w K Q else E := by
  have hw : Region.wanted o (yielded ops a.tmps) = true := by simp [Region.wanted, hgd]
  rw [if_pos hw]
  subst hn
  obtain ⟨v', w', hrun, h1, h2, h3, h4⟩ := run_append_rg w o.type base v l hown A ys c hr hya hN hbase
  unfold Oper.wp execOp
  simp only [ho, resolve, invoke, builtin, Sem.run_bind, Sem.run_pure, Result.andThen_ok, List.map_toArray, List.map_cons, List.map_nil, hs, hx, hrun]
  exact h v' w' h1 h2 h3 h4
theorem regR_lt {w : World} {A : Option Addr} {xs : List ByteArray} {c : Nat} {b : Bool} {H : Option Addr} {bl : List BindV} {e : Nat} {g : Pt.Rg.Reg} (h : RegR w A xs c b H bl e g) : ∀ y ∈ adr A xs ++ (adr H bl ++ bl.flatMap fun y => adr y.A y.xs), ∀ a, y = some a → a.block < w.heap.size := by
  intro y hy a ha
  rcases List.mem_append.1 hy with hy | hy
  · exact h.base.adr_lt y hy a ha
  · rcases List.mem_append.1 hy with hy | hy
    · exact h.holes.adr_lt y hy a ha
    · obtain ⟨z, hz, hy⟩ := List.mem_flatMap.1 hy
      exact (h.holes.parts z hz).adr_lt y hy a ha
theorem GBox.grow2 {w w' : World} {q : Nat} {A : Option Addr} {n c : Nat} {b : Bool} {H : Option Addr} {m e : Nat} (h : GBox w q A n c b H m e) {row : Option Nat} (hg : w.grownBy w' row) (hne : row ≠ some q) : GBox w' q A n c b H m e :=
  ⟨hg.cell h.c0 (fun e => hne e.symm), hg.cell h.c1 (fun e => hne e.symm), hg.cell h.c2 (fun e => hne e.symm), Nat.lt_of_lt_of_le h.lt hg.size⟩
theorem RdB.take {w : World} {A : Option Addr} {l : List BindV} {c : Nat} (h : RdB w A l c) (k : Nat) : RdB w A (l.take k) c := by
  refine ⟨?_, fun x hx => h.parts x (List.mem_of_mem_take hx), Nat.le_trans (by rw [List.length_take]; exact Nat.min_le_right _ _) h.le, h.cm, h.nil⟩
  rcases h.cells with h0 | ⟨g, o, hA, hg, hc⟩
  · exact .inl (by rw [h0]; simp)
  · refine .inr ⟨g, o, hA, hg, fun j hj => ?_⟩
    have hj2 : j < l.length := by rw [List.length_take] at hj; omega
    have e : (l.take k)[j] = l[j] := List.getElem_take
    rw [e]
    exact hc j hj2
theorem grown_own {w7 wa w9 : World} {q : Nat} {own : Option Nat} (hg : w7.grownBy wa (some q)) (h9 : wa.grownBy w9 own) (ho : own = some q ∨ ∃ r, own = some r ∧ w7.heap.size ≤ r) : w7.grownBy w9 (some q) :=
  ⟨h9.os.trans hg.os, h9.tape.trans hg.tape, h9.output.trans hg.output, Nat.le_trans hg.size h9.size, fun k hk hne => by
    rw [h9.block k (Nat.lt_of_lt_of_le hk hg.size) (fun e => by
      rcases ho with h | ⟨r, h, hr⟩
      · exact hne (e.trans h)
      · rw [h] at e
        have e2 : k = r := Option.some.inj e
        omega)]
    exact hg.block k hk hne⟩
def GivesMn (w : World) (o : Option (List Pt.Rg.Reg) × Nat) (e : Ending) (w' : World) : Prop :=
  match o.1 with
  | none => e = .returned (.tuple #[.slice none 0 0, .int .i64 (o.2 : Int)]) ∧ Below w.heap.size w w'
  | some r => ∃ A ol c, e = .returned (.tuple #[.slice A (List.length ol) c, .int .i64 (o.2 : Int)]) ∧ ol.map RegV.reg = r ∧ OwnG w' w.heap.size (.slice A ol.length c) ol ∧ Below w.heap.size w w' ∧ ∀ x ∈ ol, FreshV w w' x
/-- What the loop over the holes keeps. -/
structure NInv (base : Nat) (a : Pt.Rg.Reg) (P0 : Pt.Pat) (hs : List Pt.Pat) (q N : Nat) (wx : World) (v : Value) (l : List RegV) (k : Nat) : Prop where
  own : OwnG wx base v l
  acc : l.map RegV.reg = ⟨a.base, a.holes ++ [P0]⟩ :: Pt.Rg.minusGo a [] (hs.take k)
  blk : v.ownBlock = some q ∨ ∃ r, v.ownBlock = some r ∧ N ≤ r
  len : l.length ≤ k + 1
  fit : ∀ x ∈ l, SzG 100000 x.reg ∧ x.bl.length ≤ 1000000 ∧ x.xs.length ≤ 1000000 ∧ Pt.check x.reg.base = 0
theorem NInv.skip {W : Nat} {a : Pt.Rg.Reg} {P0 : Pt.Pat} {hs : List Pt.Pat} {q N : Nat} {wx wy : World} {v : Value} {l : List RegV} {k : Nat} (h : NInv W a P0 hs q N wx v l k) (hb : Below wx.heap.size wx wy) (hk : k < hs.length) (hm : Pt.meet a.base hs[k] = none) : NInv W a P0 hs q N wy v l (k + 1) :=
  ⟨h.own.below hb, by rw [List.take_succ_eq_append_getElem hk, minusGo_snoc, hm, List.append_nil]; exact h.acc, h.blk, Nat.le_succ_of_le h.len, h.fit⟩
theorem NInv.add {W : Nat} {a : Pt.Rg.Reg} {P0 C : Pt.Pat} {hs : List Pt.Pat} {q N : Nat} {wx wy : World} {v v' : Value} {l : List RegV} {y : RegV} {k : Nat} (h : NInv W a P0 hs q N wx v l k) (hk : k < hs.length) (hm : Pt.meet a.base hs[k] = some C)
    (hy : y.reg = ⟨C, a.holes ++ hs.take k⟩) (hown : OwnG wy W v' (l ++ [y])) (hb : v'.ownBlock = some q ∨ ∃ r, v'.ownBlock = some r ∧ N ≤ r) (hf : SzG 100000 y.reg ∧ y.bl.length ≤ 1000000 ∧ y.xs.length ≤ 1000000 ∧ Pt.check y.reg.base = 0) : NInv W a P0 hs q N wy v' (l ++ [y]) (k + 1) := by
  refine ⟨hown, ?_, hb, by have := h.len; simp; omega, fun x hx => ?_⟩
  · rw [List.take_succ_eq_append_getElem hk, minusGo_snoc, hm, List.map_append, h.acc, List.nil_append]
    simp [hy]
  · rcases List.mem_append.1 hx with hx | hx
    · exact h.fit x hx
    · rw [List.mem_singleton.1 hx]; exact hf
theorem minus_step {w8 : World} {A6 A7 : Option Addr} {xs6 : List ByteArray} {c6 : Nat} {b6 : Bool} {M bl bl' : List BindV} {c7 k base : Nat} {g h : Pt.Rg.Reg} {C : Pt.Pat} (hp : PatR w8 A6 xs6 c6 b6 C) (ho : OwnP w8 base (.slice A7 M.length c7) M) (hM : M = bl ++ bl'.take k) (hg : bl.map BindV.pat = g.holes) (hh : bl'.map BindV.pat = h.simp.holes) (hk : k < (bl'.map BindV.pat).length)
    (hm : Pt.meet g.base ((bl'.map BindV.pat)[k]) = some C) (sg : SzG 100000 g) (sh : ∀ x ∈ h.simp.holes, Pt.szs 100000 x ∧ Pt.check x = 0) (hb : bl.length ≤ 64) (hb' : bl'.length ≤ 64) :
    RegV.R w8 ⟨A6, xs6, c6, b6, A7, M, c7⟩ ∧ RegV.reg ⟨A6, xs6, c6, b6, A7, M, c7⟩ = ⟨C, g.holes ++ (bl'.map BindV.pat).take k⟩ ∧ SzG 100000 (RegV.reg ⟨A6, xs6, c6, b6, A7, M, c7⟩) ∧ M.length ≤ 1000000 ∧ xs6.length ≤ 1000000 ∧ Pt.check (RegV.reg ⟨A6, xs6, c6, b6, A7, M, c7⟩).base = 0 := by
  have hreg : RegV.reg ⟨A6, xs6, c6, b6, A7, M, c7⟩ = ⟨C, g.holes ++ (bl'.map BindV.pat).take k⟩ := by
    unfold RegV.reg
    rw [hM, List.map_append, hg, List.map_take]
    congr 1
    exact hp.pat
  have hmem : (bl'.map BindV.pat)[k] ∈ h.simp.holes := hh ▸ List.getElem_mem hk
  have hc : Pt.check C = 0 := Pt.meet_ok hm
  refine ⟨?_, hreg, ?_, ?_, ?_, ?_⟩
  · unfold RegV.R
    rw [hreg]
    exact ⟨hp, ho.rdB, by rw [hM, List.map_append, hg, List.map_take]⟩
  · rw [hreg]
    refine ⟨Pt.meet_sizes sg.1 (sh _ hmem).1 hm, fun x hx => ?_⟩
    rcases List.mem_append.1 hx with hx | hx
    · exact sg.2 x hx
    · exact (sh x (hh ▸ List.mem_of_mem_take hx)).1
  · rw [hM, List.length_append, List.length_take]
    have := Nat.min_le_right k bl'.length
    omega
  · have h1 := (Pt.check_ok.1 hc).2
    rw [hp.len] at h1
    omega
  · rw [hreg]
    exact hc
theorem minus_addr {w8 : World} {A6 A7 : Option Addr} {xs6 : List ByteArray} {c6 : Nat} {b6 : Bool} {M bl bl' : List BindV} {c7 k base lo q N W : Nat} {v : Value} (h6 : ∀ a, A6 = some a → lo ≤ a.block) (ho : OwnP w8 base (.slice A7 M.length c7) M) (hlo : lo ≤ base) (hM : M = bl ++ bl'.take k)
    (hgl : ∀ z ∈ bl, ∀ y ∈ adr z.A z.xs, ∀ a, y = some a → a.block < W) (hql : ∀ z ∈ bl', ∀ y ∈ adr z.A z.xs, ∀ a, y = some a → q ≠ a.block ∧ a.block < N) (hWq : W < q) (hqN : q < N) (hNl : N ≤ lo) (hv : v.ownBlock = some q ∨ ∃ r, v.ownBlock = some r ∧ N ≤ r) (hvl : ∀ r, v.ownBlock = some r → r < lo) (hR : RegV.R w8 ⟨A6, xs6, c6, b6, A7, M, c7⟩) :
    ∀ x ∈ [(⟨A6, xs6, c6, b6, A7, M, c7⟩ : RegV)], ∀ z ∈ x.addrs, ∀ a, z = some a → v.ownBlock ≠ some a.block ∧ a.block < w8.heap.size := by
  intro x hx z hz a ha
  rw [List.mem_singleton.1 hx] at hz
  refine ⟨fun e => ?_, regV_lt hR z hz a ha⟩
  have e1 : q = a.block ∨ N ≤ a.block := by
    rcases hv with h | ⟨r, h, hr⟩
    · rw [h] at e; exact .inl (Option.some.inj e)
    · rw [h] at e; exact .inr ((Option.some.inj e) ▸ hr)
  have e2 := hvl _ e
  rcases List.mem_append.1 hz with hz | hz
  · have := h6 a (by rw [← ha]; exact (adr_mem hz).symm)
    omega
  · rcases List.mem_append.1 hz with hz | hz
    · obtain ⟨A9, c9, hv9, hrd, hge⟩ := ho.rd
      injection hv9 with hA _ _
      rw [← hA] at hrd hge
      rcases hrd.cells with h0 | ⟨g', o', hA7, hlt, _⟩
      · subst h0; cases hz
      · have := hge g' o' hA7
        rw [adr_mem hz, hA7] at ha
        injection ha with ha
        rw [← ha] at e2
        simp at e2
        omega
    · obtain ⟨u, hu, hz⟩ := List.mem_flatMap.1 hz
      rw [hM] at hu
      rcases List.mem_append.1 hu with hu | hu
      · have := hgl u hu z hz a ha
        omega
      · have := hql u (List.mem_of_mem_take hu) z hz a ha
        omega
theorem minusR_bad {a b : Pt.Rg.Reg} {k : Nat} (hk : orN (Pt.Rg.gcheck a) (Pt.Rg.gcheck b) = k) (h : k ≠ 0) : Pt.Rg.minusR a b = (none, k) := by
  unfold orN at hk
  unfold Pt.Rg.minusR
  by_cases h1 : Pt.Rg.gcheck a = 0
  · rw [if_pos h1] at hk ⊢
    rw [if_neg (by omega), hk]
  · rw [if_neg h1] at hk ⊢
    rw [hk]
set_option maxHeartbeats 16000000 in
theorem minus5_any (A B : Option Addr) (xs ys : List ByteArray) (c d : Nat) (b f : Bool) (H K : Option Addr) (bl cl : List BindV) (e m : Nat) (g h : Pt.Rg.Reg) (w : World) (hg : RegR w A xs c b H bl e g) (hh : RegR w B ys d f K cl m h) (sg : SzG 100000 g) (sh : SzG 100000 h) :
    Calls Tryz.prog 18 #[regV A xs.length c b H bl.length e, regV B ys.length d f K cl.length m] w (GivesMn w (Pt.Rg.minusR g h)) := by
  obtain ⟨W0, hW0⟩ : ∃ W0, W0 = (w.alloc (regObj A xs.length c b H bl.length e)).alloc (regObj B ys.length d f K cl.length m) := ⟨_, rfl⟩
  have hal : Below w.heap.size w W0 := by rw [hW0]; exact ((Below.refl _ _).alloc (Nat.le_refl _) _).alloc (by simp) _
  have HAL := Lib.hid hal
  have hb0 : GBox W0 w.heap.size A xs.length c b H bl.length e := by rw [hW0]; exact (GBox.new ..).keep ((Below.refl _ _).alloc (Nat.le_refl _) _)
  have hb1 : GBox W0 (w.heap.size + 1) B ys.length d f K cl.length m := by
    have h := GBox.new (w.alloc (regObj A xs.length c b H bl.length e)) B ys.length d f K cl.length m
    rw [hW0]
    simpa using h
  have HB0 := Lib.hid (fun (w' : World) (hb : Below W0.heap.size W0 w') => hb0.keep hb)
  have HB1 := Lib.hid (fun (w' : World) (hb : Below W0.heap.size W0 w') => hb1.keep hb)
  have HCK := Lib.hid (both_any A xs c b H bl e B ys d f K cl m g h W0 (hg.keep hal) (hh.keep hal))
  obtain ⟨mr, hmr⟩ : ∃ mr, mr = Pt.Rg.minusR g h := ⟨_, rfl⟩
  rw [← hmr]
  have HMR := Lib.hid hmr
  generalize hk : orN (Pt.Rg.gcheck g) (Pt.Rg.gcheck h) = k at HCK
  by_cases hk0 : k = 0
  rotate_left
  · have hv := HMR.out.trans (minusR_bad hk hk0)
    subst hv
    have i1 : ((k : Int) == 0) = false := by rw [beq_eq_false_iff_ne]; omega
    have i2 : ((k : Int) != 0) = true := by rw [bne, i1]; rfl
    generalize xs.length = nx at *
    generalize ys.length = ny at *
    generalize bl.length = nb at *
    generalize cl.length = nc at *
    obtain ⟨t0, t1, t2, tl⟩ := hb0
    obtain ⟨s0, s1, s2, sl⟩ := hb1
    clear hg hh hal sg sh hk hk0
    subst hW0
    go_enter Tryz.func18, Tryz.ntmps18
    go_wp2_with fail
    with_reducible refine HCK.out.mono ?_
    rintro en w1 ⟨rfl, hb1⟩
    have HX1 := Lib.hid hb1
    clear hb1 t0 t1 t2 tl s0 s1 s2 sl
    go_wp2
    refine bodyPost_ret (v := .tuple #[.slice none 0 0, .int .i64 (k : Int)]) (by simp [results, Tryz.results18, go_sem]) rfl ⟨rfl, ?_⟩
    exact HAL.out.trans (HX1.out.mono HAL.out.size)
  subst hk0
  obtain ⟨ka, kb⟩ := orN_zero2 hk
  obtain ⟨ga1, ga2, ga3⟩ := Pt.Rg.gcheck_zero.1 ka
  obtain ⟨gb1, gb2, gb3⟩ := Pt.Rg.gcheck_zero.1 kb
  have HMV : Hid (Pt.Rg.minusR g h = match Pt.Rg.withP (Pt.Rg.minusL g h) with
    | none => (none, 52)
    | some l => (some l, 0)) := Lib.hid (by
    unfold Pt.Rg.minusR
    rw [if_pos ka, if_pos kb]
    cases Pt.Rg.withP (Pt.Rg.minusL g h) <;> rfl)
  have HN : Hid (bl.length ≤ 64 ∧ cl.length ≤ 64 ∧ xs.length ≤ 12 ∧ ys.length ≤ 12) := Lib.hid ⟨by rw [← reg_len hg]; exact ga3, by rw [← reg_len hh]; exact gb3, by have := (Pt.check_ok.1 ga1).2; rw [hg.base.len] at this; exact this, by have := (Pt.check_ok.1 gb1).2; rw [hh.base.len] at this; exact this⟩
  have HGR := Lib.hid (fun (w' : World) (hb : Below W0.heap.size W0 w') => (hg.keep hal).keep hb)
  have HHR := Lib.hid (fun (w' : World) (hb : Below W0.heap.size W0 w') => (hh.keep hal).keep hb)
  have HSI := Lib.hid (fun (w' : World) (hb : Below W0.heap.size W0 w') => simp_any B ys d f K cl m h w' ((hh.keep hal).keep hb) (sh.short (by decide)) (by rw [← reg_len hh]; omega) (by have := HN.out; omega))
  have HSG := Lib.hid sg
  have HSH := Lib.hid sh
  have HGA := Lib.hid ga1
  have HGL := Lib.hid (regR_lt hg)
  obtain ⟨nx, hnx⟩ : ∃ n, n = xs.length := ⟨_, rfl⟩
  obtain ⟨ny, hny⟩ : ∃ n, n = ys.length := ⟨_, rfl⟩
  obtain ⟨nb, hnb⟩ : ∃ n, n = bl.length := ⟨_, rfl⟩
  obtain ⟨nc, hnc⟩ : ∃ n, n = cl.length := ⟨_, rfl⟩
  have HNX := Lib.hid hnx
  have HNY := Lib.hid hny
  have HNB := Lib.hid hnb
  have HNC := Lib.hid hnc
  rw [← hnx, ← hnb] at hW0 hb0 HB0
  rw [← hny, ← hnc] at hW0 hb1 HB1 HSI
  rw [← hnx, ← hny, ← hnb, ← hnc] at HCK ⊢
  clear hnx hny hnb hnc
  obtain ⟨t0, t1, t2, tl⟩ := hb0
  obtain ⟨s0, s1, s2, sl⟩ := hb1
  clear hg hh hal sg sh ga1 ga2 ga3 gb1 gb2 gb3 hk ka kb
  subst hW0
  go_enter Tryz.func18, Tryz.ntmps18
  go_wp2_with fail
  with_reducible refine HCK.out.mono ?_
  rintro en w1 ⟨rfl, hb1⟩
  have HX1 := Lib.hid hb1
  clear hb1 t0 t1 t2 tl s0 s1 s2 sl
  go_upto_region 4 with fail
  have HKE := Lib.hid (fun (w' : World) (hb : Below w1.heap.size w1 w') => show w'.cell? ⟨w.heap.size, 0, none⟩ = some (.slice A nx c) ∧ w'.cell? ⟨w.heap.size, 1, none⟩ = some (.bool b) ∧ w'.cell? ⟨w.heap.size, 2, none⟩ = some (.slice H nb e) ∧ w'.cell? ⟨w.heap.size + 1, 0, none⟩ = some (.slice B ny d) ∧ w'.cell? ⟨w.heap.size + 1, 1, none⟩ = some (.bool f) from
    ⟨(HB0.out w' (HX1.out.trans (hb.mono HX1.out.size))).c0, (HB0.out w' (HX1.out.trans (hb.mono HX1.out.size))).c1, (HB0.out w' (HX1.out.trans (hb.mono HX1.out.size))).c2, (HB1.out w' (HX1.out.trans (hb.mono HX1.out.size))).c0, (HB1.out w' (HX1.out.trans (hb.mono HX1.out.size))).c1⟩)
  obtain ⟨U, hU⟩ : ∃ U, U = ((w1.alloc (.cells #[.slice B ny d, .bool f] 24)).alloc (.cells #[.slice H nb e, .slice (some ⟨w1.heap.size, 0, none⟩) 1 1] 25)).drew := ⟨_, rfl⟩
  have RU : Hid (Below w1.heap.size w1 U) := Lib.hid (by rw [hU]; exact below_drew (((Below.refl _ _).alloc (Nat.le_refl _) _).alloc (by simp) _))
  have ZU : Hid (U.heap.size = w1.heap.size + 1 + 1) := Lib.hid (by rw [hU]; simp)
  obtain ⟨pv, hpv⟩ : ∃ pv : BindV, pv = ⟨B, ys, d, f⟩ := ⟨_, rfl⟩
  have hpp : pv.pat = h.base := by rw [hpv]; exact (HHR.out _ HX1.out).base.pat
  have HPV := Lib.hid hpp
  have HCO := Lib.hid (show Calls Tryz.prog 41 #[.slice (some ⟨w1.heap.size + 1, 0, none⟩) 2 2] U (fun en w' => ∃ A c, en = .returned (.slice A (bl ++ [pv]).length c) ∧ OwnP w' U.heap.size (.slice A (bl ++ [pv]).length c) (bl ++ [pv]) ∧ Below U.heap.size U w') from by
    have hv1 : (w1.alloc (.cells #[.slice B ny d, .bool f] 24)).heap.size = w1.heap.size + 1 := by simp
    have q0 := cells_new (w1.alloc (.cells #[.slice B ny d, .bool f] 24)) #[.slice H nb e, .slice (some ⟨w1.heap.size, 0, none⟩) 1 1] 25 0 (.slice H nb e) rfl
    have q1 := cells_new (w1.alloc (.cells #[.slice B ny d, .bool f] 24)) #[.slice H nb e, .slice (some ⟨w1.heap.size, 0, none⟩) 1 1] 25 1 (.slice (some ⟨w1.heap.size, 0, none⟩) 1 1) rfl
    rw [hv1] at q0 q1
    have hnp := newP w1 pv (by rw [hpp, hpv]; exact (HHR.out _ HX1.out).base)
    rw [hpv] at hnp
    simp only [← HNY.out] at hnp
    rw [← hpv] at hnp
    have hk : Below (w1.alloc (.cells #[.slice B ny d, .bool f] 24)).heap.size (w1.alloc (.cells #[.slice B ny d, .bool f] 24)) U := by rw [hU]; exact below_drew ((Below.refl _ _).alloc (Nat.le_refl _) _)
    exact concat_any (w1.heap.size + 1) H (some ⟨w1.heap.size, 0, none⟩) bl [pv] e 1 U (by rw [hU, ← HNB.out]; exact q0) (by rw [hU]; exact q1) (by have := ZU.out; omega) (HGR.out _ (HX1.out.trans (RU.out.mono HX1.out.size))).holes (hnp.keep hk) (by have := HN.out; simp; omega))
  have HU := Lib.hid hU
  have HPE := Lib.hid hpv
  rw [hU] at HCO
  clear hU hpp hpv
  obtain ⟨d0, d1, d2, d3, d4⟩ := HKE.out w1 (Below.refl _ _)
  set_option maxRecDepth 100000 in
  go_region_held3 (fun w' => w'.cell? ⟨w.heap.size, 0, none⟩ = some (.slice A nx c) ∧ w'.cell? ⟨w.heap.size, 1, none⟩ = some (.bool b) ∧ w'.cell? ⟨w.heap.size, 2, none⟩ = some (.slice H nb e) ∧ w'.cell? ⟨w.heap.size + 1, 0, none⟩ = some (.slice B ny d) ∧ w'.cell? ⟨w.heap.size + 1, 1, none⟩ = some (.bool f))
    (first | exact HKE.out _ b5_ | exact HKE.out _ (b5_.trans (((Below.refl _ _).alloc (Nat.le_refl _) _).mono b5_.size)) | exact HKE.out _ (by rw [HU.out] at RU; exact RU.out) | exact HKE.out _ (below_drew (Below.refl _ _)) | exact HKE.out _ (Below.refl _ _) | exact HKE.out _ ((Below.refl _ _).alloc (Nat.le_refl _) _) | exact HKE.out _ (below_drew ((Below.refl _ _).alloc (Nat.le_refl _) _)) | exact HKE.out _ (((Below.refl _ _).alloc (Nat.le_refl _) _).alloc (by simp) _) | go_keep)
    ((go_at_call 41; have hcc := HCO.out; with_reducible refine hcc.mono ?_; intro en w5 hh; rw [← HU.out] at hh; obtain ⟨A7, c7, rfl, hown7, hb7⟩ := hh
      have b5_ : Below w1.heap.size w1 w5 := RU.out.trans (hb7.mono (by have := ZU.out; omega))
      have HO7 := Lib.hid hown7
      have HW5 := Lib.hid b5_
      clear hown7 hb7))
  obtain ⟨l0, hl0⟩ : ∃ l : List BindV, l = bl ++ [pv] := ⟨_, rfl⟩
  have HL0 := Lib.hid hl0
  have hl0n : l0.length = bl.length + 1 := by rw [hl0]; simp
  have hRG : RegR w5 A xs c b A7 l0 c7 ⟨g.base, g.holes ++ [h.base]⟩ := ⟨(HGR.out _ (HX1.out.trans (HW5.out.mono HX1.out.size))).base, by rw [hl0]; exact HO7.out.rdB, by rw [hl0, List.map_append, (HGR.out _ HX1.out).eq, List.map_cons, List.map_nil, HPV.out]⟩
  obtain ⟨y0, hy0⟩ : ∃ y : RegV, y = ⟨A, xs, c, b, A7, l0, c7⟩ := ⟨_, rfl⟩
  have hreg0 : y0.reg = ⟨g.base, g.holes ++ [h.base]⟩ := by rw [hy0]; exact hRG.reg
  have hR0 : RegV.R w5 y0 := by unfold RegV.R; rw [hreg0, hy0]; exact hRG
  have hnew := ownG_new w5 y0 hR0
  have hfit0 : SzG 100000 y0.reg ∧ y0.bl.length ≤ 1000000 ∧ y0.xs.length ≤ 1000000 ∧ Pt.check y0.reg.base = 0 := by
    rw [hreg0]
    refine ⟨⟨HSG.out.1, fun x hx => ?_⟩, ?_, ?_, HGA.out⟩
    · rcases List.mem_append.1 hx with hx | hx
      · exact HSG.out.2 x hx
      · rw [List.mem_singleton.1 hx]; exact HSH.out.1
    · rw [hy0]; show l0.length ≤ _; have := HN.out; omega
    · rw [hy0]; show xs.length ≤ _; have := HN.out; omega
  rw [hy0] at hnew
  simp only [← HNX.out, hl0n] at hnew
  rw [← hy0] at hnew
  obtain ⟨W6, hW6⟩ : ∃ W6, W6 = w5.alloc (.cells #[.slice A nx c, .bool b, .slice A7 (bl.length + 1) c7] 27) := ⟨_, rfl⟩
  rw [← hW6] at hnew
  have hal6 : Below w5.heap.size w5 W6 := by rw [hW6]; exact (Below.refl _ _).alloc (Nat.le_refl _) _
  have hX6 := HX1.out.trans ((HW5.out.trans (hal6.mono HW5.out.size)).mono HX1.out.size)
  have HX6 := Lib.hid hX6
  have HOG := Lib.hid (hnew.more (show w.heap.size ≤ w5.heap.size from Nat.le_trans HAL.out.size (Nat.le_trans HX1.out.size HW5.out.size)))
  have HFIT := Lib.hid hfit0
  have HREG := Lib.hid hreg0
  have HSI6 := Lib.hid (HSI.out _ hX6)
  obtain ⟨u0, u1, u2, ul⟩ := HB1.out _ hX6
  have hz6 : W6.heap.size = w5.heap.size + 1 := by rw [hW6]; simp
  have HZ6 := Lib.hid hz6
  have hsq : w5.heap.size < W6.heap.size := by rw [hz6]; exact Nat.lt_succ_self _
  have HSQ := Lib.hid hsq
  clear hRG hR0 hnew hfit0 hreg0 hal6 hX6 d0 d1 d2 d3 d4 hl0 hz6 hsq
  go_upto_region 5 with fail
  generalize hwg : w5.alloc (.cells #[.slice A nx c, .bool b, .slice A7 (bl.length + 1) c7] 27) = V6
  have hWW : V6 = W6 := hwg.symm.trans hW6.symm
  subst hWW
  clear hwg hW6
  go_wp2_with fail
  with_reducible refine HSI6.out.mono ?_
  rintro en w7 ⟨A', xs', c', b', H', bl', e', rfl, hr', hb7, hf1, hf2, hf3⟩
  have HS' := Lib.hid hr'
  have HB7 := Lib.hid hb7
  have HX7 := Lib.hid (HX6.out.trans (hb7.mono HX6.out.size))
  have HQF : Hid (∀ y ∈ adr A' xs' ++ (adr H' bl' ++ bl'.flatMap fun y => adr y.A y.xs), ∀ a, y = some a → w5.heap.size ≠ a.block ∧ a.block < w7.heap.size) := Lib.hid fun y hy a ha => by
    have h0 := HSQ.out
    rcases List.mem_append.1 hy with hy | hy
    · have h1 := hf1 a (by rw [← ha]; exact (adr_mem hy).symm)
      exact ⟨by omega, h1.2⟩
    rcases List.mem_append.1 hy with hy | hy
    · have h1 := hf2 a (by rw [← ha]; exact (adr_mem hy).symm)
      exact ⟨by omega, h1.2⟩
    · obtain ⟨z, hz, hy⟩ := List.mem_flatMap.1 hy
      have h1 := hf3 z hz a (by rw [← ha]; exact (adr_mem hy).symm)
      exact ⟨by omega, h1.2⟩
  have HLB : Hid (bl'.length ≤ 64) := Lib.hid (by
    have h1 := reg_len hr'
    have h2 := simp_holes_len h
    have h3 := reg_len (HHR.out _ HX1.out)
    have h4 := HN.out
    omega)
  have hn' : (bl'.length : Int) ≤ 64 := by have := HLB.out; omega
  have HSF : Hid (∀ x ∈ h.simp.holes, Pt.szs 100000 x ∧ Pt.check x = 0) := Lib.hid fun x hx => ⟨HSH.out.simp.2 x hx, (Pt.Rg.simp_holes (Pt.Rg.simpL_is h.base h.holes) x hx).1⟩
  obtain ⟨n', hnn⟩ : ∃ n, n = bl'.length := ⟨_, rfl⟩
  have HNN := Lib.hid hnn
  rw [← hnn] at hn' ⊢
  have HE' : Hid ((n' : Int) ≤ (e' : Int) ∧ (e' : Int) ≤ 9223372036854775807) := Lib.hid (by
    have h1 := hr'.holes.le
    have h2 := hr'.holes.cm
    unfold maxLen at h2
    omega)
  obtain ⟨i1, i2⟩ := HE'.out
  have HOW := Lib.hid (HOG.out.below hb7)
  clear hr' hb7 hf1 hf2 hf3 hnn u0 u1 u2 ul
  have hwz : w.heap.size < w5.heap.size := Nat.lt_of_lt_of_le (HB0.out _ HX1.out).lt HW5.out.size
  have HWZ := Lib.hid hwz
  have HQ7 : Hid (w5.heap.size < w7.heap.size) := Lib.hid (Nat.lt_of_lt_of_le HSQ.out HB7.out.size)
  unfold regV
  have hfd : ∀ w : World, (Instr.field 27 (.agg #[.slice A' xs'.length c', .bool b', .slice H' n' e']) 1).run Tryz.prog w = .ok (.slice H' n' e') w := fun _ => by kernel_rfl
  go_wp2
  clear hfd
  go_loopg [35, 7] n' (fun gg s35 s7 wx => ∃ (k n7 : Nat) (A3 : Option Addr) (e3 : Nat), k + gg = n' ∧ s35 = .int .i64 (k : Int) ∧ s7 = .slice A3 n7 e3 ∧ w7.grownBy wx (some w5.heap.size) ∧ Aside (∃ l : List RegV, n7 = l.length ∧ NInv w.heap.size g h.base (bl'.map BindV.pat) w5.heap.size w7.heap.size wx (.slice A3 l.length e3) l k))
  case atStart =>
    refine ⟨0, 1, some ⟨w5.heap.size, 0, none⟩, 1, by omega, rfl, rfl, World.grownBy.refl _ _, [y0], rfl, HOW.out, ?_, .inl rfl, Nat.le_refl _, fun x hx => ?_⟩
    · rw [List.map_cons, List.map_nil, HREG.out]
      rfl
    · rw [List.mem_singleton.1 hx]
      exact HFIT.out
  case round =>
    obtain ⟨k, n7, A3, e3, hk, rfl, rfl, hgw, HA⟩ := hrel
    obtain ⟨l, hl7, hI⟩ := HA.out
    have HI := Lib.hid hI
    have HL7 := Lib.hid hl7
    have HGW := Lib.hid hgw
    by_cases hkn : k < n'
    · have j1 : (k : Int) < (n' : Int) := by omega
      have hkb : k < bl'.length := by rw [← HNN.out]; exact hkn
      have HKH : Hid (k < (bl'.map BindV.pat).length) := Lib.hid (by rw [List.length_map]; exact hkb)
      have hS : RegR wr A' xs' c' b' H' bl' e' h.simp := HS'.out.grownA hgw (fun y hy a ha => ⟨fun e9 => (HQF.out y hy a ha).1 (Option.some.inj e9), (HQF.out y hy a ha).2⟩)
      have hG : RegR wr A xs c b H bl e g := (HGR.out _ HX7.out).grownA hgw (fun y hy a ha => ⟨fun e9 => by have h1 := HGL.out y hy a ha; have h2 : w5.heap.size = a.block := Option.some.inj e9; omega, by have h1 := HGL.out y hy a ha; have h2 := HQ7.out; omega⟩)
      have hgb : GBox wr w.heap.size A nx c b H nb e := (HB0.out _ HX7.out).grow2 hgw (fun e9 => by have h2 : w5.heap.size = w.heap.size := Option.some.inj e9; omega)
      have HSW := Lib.hid hS
      have HGG := Lib.hid hG
      have HGB := Lib.hid hgb
      obtain ⟨q9, o9, hA9, hq9, hcell⟩ := hS.holes.at (by omega)
      obtain ⟨e0, e1⟩ := hcell k hkb
      obtain ⟨W2, hW2⟩ : ∃ W2, W2 = wr.alloc (.cells #[.slice bl'[k].A bl'[k].xs.length bl'[k].c, .bool bl'[k].b] 24) := ⟨_, rfl⟩
      have hal2 : Below wr.heap.size wr W2 := by rw [hW2]; exact (Below.refl _ _).alloc (Nat.le_refl _) _
      have hC := meetF_any A bl'[k].A xs bl'[k].xs c bl'[k].c b bl'[k].b g.base bl'[k].pat W2 (hG.keep hal2).base ((hS.keep hal2).holes.parts _ (List.getElem_mem hkb))
      have HME : Hid (∀ r, Pt.meet g.base bl'[k].pat = r → Pt.meet g.base ((bl'.map BindV.pat)[k]'HKH.out) = r) := Lib.hid (by intro r h9; rw [List.getElem_map]; exact h9)
      have HAL2 := Lib.hid hal2
      have hpb2 : PBox W2 wr.heap.size bl'[k].A bl'[k].xs.length bl'[k].c bl'[k].b := by rw [hW2]; exact PBox.new ..
      obtain ⟨x0, x1, x2, xl⟩ := hgb.keep hal2
      generalize hor : Pt.meet g.base bl'[k].pat = o' at hC
      have HOR := Lib.hid (HME.out _ hor)
      rw [← HNX.out] at hC
      have HC := Lib.hid hC
      obtain ⟨s0, s1, sl⟩ := hpb2
      obtain ⟨g0, g1, g2, gl⟩ := hgb
      clear hC hor HME hal2 hcell hS hG hI hl7
      subst hA9
      generalize bl'[k] = yk at *
      go_wp2_with fail
      subst hW2
      with_reducible refine HC.out.mono ?_
      intro en w3 hh
      obtain ⟨A6, xs6, c6, b6, rfl, hp6, hb3, hf6⟩ := hh
      have HP6 := Lib.hid hp6
      have HF6 := Lib.hid hf6
      have HB3 := Lib.hid (HAL2.out.trans (hb3.mono HAL2.out.size))
      have hs3 := HB3.out.size
      clear hp6 hf6 hb3 e0 e1 x0 x1 x2 xl s0 s1 sl g0 g1 g2 gl
      cases o' with
      | none =>
        go_wp2
        go_roundg (n' - (k + 1))
        case measure => go_light; omega
        case rel =>
          go_light
          have hbx := HB3.out.trans (((Below.refl w3.heap.size w3).alloc (Nat.le_refl _) (.cells #[.slice A6 xs6.length c6, .bool b6] 24)).mono hs3)
          exact ⟨k + 1, n7, A3, e3, by omega, by go_num, rfl, HGW.out.trans (grown_of_below hbx), l, HL7.out, HI.out.skip hbx HKH.out HOR.out⟩
      | some C =>
        obtain ⟨M, hM⟩ : ∃ M, M = bl ++ bl'.take k := ⟨_, rfl⟩
        have hlk : (bl'.take k).length = k := by rw [List.length_take]; exact Nat.min_eq_left (Nat.le_of_lt hkb)
        obtain ⟨V, hV⟩ : ∃ V, V = w3.alloc (.cells #[.slice A6 xs6.length c6, .bool b6] 24) := ⟨_, rfl⟩
        have hal4 : Below w3.heap.size w3 V := by rw [hV]; exact (Below.refl _ _).alloc (Nat.le_refl _) _
        have hx4 : Below wr.heap.size wr V := HB3.out.trans (hal4.mono hs3)
        have hpb4 : PBox V w3.heap.size A6 xs6.length c6 b6 := by rw [hV]; exact PBox.new ..
        have hgb4 := HGB.out.keep hx4
        have HKF := Lib.hid (fun (w' : World) (hb : Below V.heap.size V w') => show w'.cell? ⟨w.heap.size, 2, none⟩ = some (.slice H nb e) ∧ w'.cell? ⟨w3.heap.size, 0, none⟩ = some (.slice A6 xs6.length c6) ∧ w'.cell? ⟨w3.heap.size, 1, none⟩ = some (.bool b6) from ⟨(hgb4.keep hb).c2, (hpb4.keep hb).c0, (hpb4.keep hb).c1⟩)
        obtain ⟨U4, hU4⟩ : ∃ U4, U4 = (V.alloc (.cells #[.slice H nb e, .slice (some ⟨q9, o9, none⟩) k e'] 25)).drew := ⟨_, rfl⟩
        have RU4 : Hid (Below V.heap.size V U4) := Lib.hid (by rw [hU4]; exact below_drew ((Below.refl _ _).alloc (Nat.le_refl _) _))
        have ZU4 : Hid (U4.heap.size = V.heap.size + 1) := Lib.hid (by rw [hU4]; simp)
        have HC4 := Lib.hid (show Calls Tryz.prog 41 #[.slice (some ⟨V.heap.size, 0, none⟩) 2 2] U4 (fun en w' => ∃ A c, en = .returned (.slice A M.length c) ∧ OwnP w' U4.heap.size (.slice A M.length c) M ∧ Below U4.heap.size U4 w') from by
          have q0 := cells_new V #[.slice H nb e, .slice (some ⟨q9, o9, none⟩) k e'] 25 0 (.slice H nb e) rfl
          have q1 := cells_new V #[.slice H nb e, .slice (some ⟨q9, o9, none⟩) k e'] 25 1 (.slice (some ⟨q9, o9, none⟩) k e') rfl
          rw [hM]
          exact concat_any V.heap.size H (some ⟨q9, o9, none⟩) bl (bl'.take k) e e' U4 (by rw [hU4, ← HNB.out]; exact q0) (by rw [hU4, hlk]; exact q1) (by have := ZU4.out; omega) (HGG.out.keep (hx4.trans (RU4.out.mono hx4.size))).holes ((HSW.out.keep (hx4.trans (RU4.out.mono hx4.size))).holes.take k) (by have := HN.out; have := HLB.out; rw [hlk]; omega))
        have HU4 := Lib.hid hU4
        rw [hU4] at HC4
        have HM := Lib.hid hM
        have HX4 := Lib.hid hx4
        have HA4 := Lib.hid hal4
        have HOL := Lib.hid (show OwnG V w.heap.size (.slice A3 n7 e3) l from by have h9 := HI.out.own.below hx4; rw [← HL7.out] at h9; exact h9)
        have HVL : Hid (∀ r, (Value.slice A3 n7 e3).ownBlock = some r → r < wr.heap.size) := Lib.hid fun r hr => by have h9 := HI.out.own.lt r; rw [← HL7.out] at h9; exact (h9 hr).2
        have HVB : Hid ((Value.slice A3 n7 e3).ownBlock = some w5.heap.size ∨ ∃ r, (Value.slice A3 n7 e3).ownBlock = some r ∧ w7.heap.size ≤ r) := Lib.hid (by have h9 := HI.out.blk; rw [← HL7.out] at h9; exact h9)
        have HLL : Hid (l.length ≤ 65) := Lib.hid (by have h9 := HI.out.len; have := HLB.out; omega)
        have HSZ : Hid (w.heap.size < wr.heap.size ∧ w7.heap.size ≤ wr.heap.size ∧ wr.heap.size ≤ w3.heap.size ∧ w3.heap.size < V.heap.size) := Lib.hid (by
          have h1 := HGW.out.size
          have h2 := HWZ.out
          have h3 := HQ7.out
          have h4 : V.heap.size = w3.heap.size + 1 := by rw [hV]; simp
          omega)
        clear hU4 hM hlk hal4 hx4 hpb4 hgb4 hs3
        go_upto_region 11 with fail
        generalize hwg : w3.alloc (.cells #[.slice A6 xs6.length c6, .bool b6] 24) = V6
        have hWW : V6 = V := hwg.symm.trans hV.symm
        subst hWW
        clear hwg hV
        obtain ⟨k2, k3, k4⟩ := HKF.out V6 (Below.refl _ _)
        have i3 : (0 : Int) ≤ (k : Int) := Int.natCast_nonneg _
        have i4 : (k : Int) ≤ (e' : Int) := by omega
        set_option maxRecDepth 100000 in
        go_region_held3 (fun w' => w'.cell? ⟨w.heap.size, 2, none⟩ = some (.slice H nb e) ∧ w'.cell? ⟨w3.heap.size, 0, none⟩ = some (.slice A6 xs6.length c6) ∧ w'.cell? ⟨w3.heap.size, 1, none⟩ = some (.bool b6))
          (first | exact p9_ | exact HKF.out _ b5_ | exact HKF.out _ (b5_.trans (((Below.refl _ _).alloc (Nat.le_refl _) _).mono b5_.size)) | exact HKF.out _ (below_drew (b5_.trans (((Below.refl _ _).alloc (Nat.le_refl _) _).mono b5_.size))) | exact HKF.out _ (by rw [HU4.out] at RU4; exact RU4.out) | exact HKF.out _ (below_drew (Below.refl _ _)) | exact HKF.out _ (Below.refl _ _) | exact HKF.out _ ((Below.refl _ _).alloc (Nat.le_refl _) _) | exact HKF.out _ (below_drew ((Below.refl _ _).alloc (Nat.le_refl _) _)) | go_keep)
          (first
            | (go_at_call 41; have hcc := HC4.out; with_reducible refine hcc.mono ?_; intro en w8 hh; rw [← HU4.out] at hh; obtain ⟨A7b, c7b, rfl, hown8, hb8⟩ := hh
               have b5_ : Below V6.heap.size V6 w8 := RU4.out.trans (hb8.mono (by have := ZU4.out; omega))
               have HW8 := Lib.hid b5_
               have HST := Lib.hid (minus_step (HP6.out.keep (HA4.out.trans (b5_.mono HA4.out.size))) hown8 HM.out HGG.out.eq HSW.out.eq HKH.out HOR.out HSG.out HSF.out (by have := HN.out; omega) HLB.out)
               have HYA := Lib.hid (minus_addr (v := .slice A3 n7 e3) (q := w5.heap.size) (N := w7.heap.size) (W := w.heap.size) (fun a ha => Nat.le_trans HAL2.out.size (HF6.out a ha).1) hown8 (show wr.heap.size ≤ U4.heap.size by have := HSZ.out; have := ZU4.out; omega) HM.out (fun z hz y hy a ha => HGL.out y (List.mem_append_right _ (List.mem_append_right _ (List.mem_flatMap.2 ⟨z, hz, hy⟩))) a ha) (fun z hz y hy a ha => HQF.out y (List.mem_append_right _ (List.mem_append_right _ (List.mem_flatMap.2 ⟨z, hz, hy⟩))) a ha) HWZ.out HQ7.out HSZ.out.2.1 HVB.out HVL.out HST.out.1)
               clear hown8 hb8)
            | (refine step_append_rg3 rfl _ _ rfl w.heap.size (.slice A3 n7 e3) l (by rfl) (HOL.out.below (HW8.out.trans ((show Below w8.heap.size w8 _ from by first | exact (Below.refl _ _).alloc (Nat.le_refl _) _ | exact below_drew ((Below.refl _ _).alloc (Nat.le_refl _) _)).mono HW8.out.size))) (some ⟨w8.heap.size, 0, none⟩) [⟨A6, xs6, c6, b6, A7b, M, c7b⟩] 1 1 rfl (by rfl) (by first | exact newG w8 ⟨A6, xs6, c6, b6, A7b, M, c7b⟩ HST.out.1 | exact (newG w8 ⟨A6, xs6, c6, b6, A7b, M, c7b⟩ HST.out.1).keep (below_drew (Below.refl _ _))) (fun x hx y hy a ha => ⟨(HYA.out x hx y hy a ha).1, Nat.lt_of_lt_of_le (HYA.out x hx y hy a ha).2 (by simp)⟩) (by have := HLL.out; simp; omega) (by have h1 := HSZ.out; have h2 := HW8.out.size; simp; omega) ?_
               intro v9 w9 hown9 hb9 hg9 hv9
               have bX_ : Hid (∃ X, Below w8.heap.size w8 X ∧ X.grownBy w9 (Value.slice A3 n7 e3).ownBlock ∧ (v9.ownBlock = (Value.slice A3 n7 e3).ownBlock ∨ v9.ownBlock = some X.heap.size)) := Lib.hid ⟨_, by first | exact (Below.refl _ _).alloc (Nat.le_refl _) _ | exact below_drew ((Below.refl _ _).alloc (Nat.le_refl _) _), hg9, hv9⟩
               obtain ⟨A10, e10, hfv, _⟩ := hown9.form
               rw [show (l ++ [(⟨A6, xs6, c6, b6, A7b, M, c7b⟩ : RegV)]).length = n7 + 1 by rw [List.length_append, ← HL7.out]; rfl] at hfv
               subst hfv
               have HO9 := Lib.hid hown9
               have p9_ : w9.cell? ⟨w.heap.size, 2, none⟩ = some (.slice H nb e) ∧ w9.cell? ⟨w3.heap.size, 0, none⟩ = some (.slice A6 xs6.length c6) ∧ w9.cell? ⟨w3.heap.size, 1, none⟩ = some (.bool b6) := by
                 obtain ⟨X, hX, hgX, _⟩ := bX_.out
                 have hc := HKF.out X (b5_.trans (hX.mono b5_.size))
                 have n1 : some w.heap.size ≠ (Value.slice A3 n7 e3).ownBlock := fun e9 => by
                   have h1 := HWZ.out
                   have h2 := HQ7.out
                   rcases HVB.out with h9 | ⟨r, h9, hr⟩
                   · rw [h9] at e9; have := Option.some.inj e9; omega
                   · rw [h9] at e9; have := Option.some.inj e9; omega
                 have n2 : some w3.heap.size ≠ (Value.slice A3 n7 e3).ownBlock := fun e9 => by
                   have h1 := HVL.out _ e9.symm
                   have h2 := HSZ.out
                   omega
                 exact ⟨hgX.cell hc.1 n1, hgX.cell hc.2.1 n2, hgX.cell hc.2.2 n2⟩
               clear hb9 hg9 hv9 hown9))
        go_wp2
        go_roundg (n' - (k + 1))
        case measure => go_light; omega
        case rel =>
          go_light
          obtain ⟨X, hX, hgX, hvX⟩ := bX_.out
          have hbX : Below wr.heap.size wr X := HX4.out.trans ((HW8.out.trans (hX.mono HW8.out.size)).mono HX4.out.size)
          have hg9 : w7.grownBy w9 (some w5.heap.size) := grown_own (wa := X) (HGW.out.trans (grown_of_below hbX)) hgX HVB.out
          have hst := HST.out
          have hln : (l ++ [(⟨A6, xs6, c6, b6, A7b, M, c7b⟩ : RegV)]).length = n7 + 1 := by rw [List.length_append, ← HL7.out]; rfl
          have hblk : (Value.slice A10 (n7 + 1) e10).ownBlock = some w5.heap.size ∨ ∃ r, (Value.slice A10 (n7 + 1) e10).ownBlock = some r ∧ w7.heap.size ≤ r := by
            rcases hvX with h9 | h9
            · rw [h9]; exact HVB.out
            · exact .inr ⟨X.heap.size, h9, Nat.le_trans HSZ.out.2.1 hbX.size⟩
          have hadd := NInv.add HI.out HKH.out HOR.out hst.2.1 HO9.out hblk ⟨hst.2.2.1, hst.2.2.2.1, hst.2.2.2.2.1, hst.2.2.2.2.2⟩
          refine ⟨k + 1, n7 + 1, A10, e10, by omega, by go_num, rfl, hg9, l ++ [⟨A6, xs6, c6, b6, A7b, M, c7b⟩], hln.symm, ?_⟩
          rw [hln]
          exact hadd
    · have j1 : ¬ (k : Int) < (n' : Int) := by omega
      have hkn : k = n' := by omega
      obtain ⟨A9, e9, hv9, hrd9, _⟩ := hI.own.rd
      injection hv9 with hA9 _ he9
      subst hA9 he9
      have hWP := withP_any A3 l e3 wr hrd9 (fun x hx => (hI.fit x hx).1.short (by decide)) (fun x hx => (hI.fit x hx).2) (by have := hI.len; have h4 := HLB.out; have h5 := HNN.out; omega)
      have hwr : Below w.heap.size w wr := HAL.out.trans ((HX7.out.mono HAL.out.size).trans (below_row hgw (fun q hq => by injection hq with hq; have := HWZ.out; omega) (by have := HWZ.out; have := HQ7.out; omega)))
      have hML : l.map RegV.reg = Pt.Rg.minusL g h := by
        rw [hI.acc, HS'.out.eq, List.take_of_length_le (by have h1 := reg_len HS'.out; have h2 := HNN.out; omega)]
        rfl
      rw [hML, ← hl7] at hWP
      have HWR := Lib.hid hwr
      have hmv := HMV.out
      clear hwr hML hrd9 hI hl7 hmr
      generalize Pt.Rg.withP (Pt.Rg.minusL g h) = o at hmv hWP
      cases o with
      | none =>
        have hmv2 : Pt.Rg.minusR g h = (none, 52) := hmv
        have HV2 := Lib.hid hmv2
        have HWP := Lib.hid hWP
        clear hWP hmv hmv2
        go_wp2_with fail
        with_reducible refine HWP.out.mono ?_
        rintro en w9 ⟨rfl, hb9⟩
        have HB9 := Lib.hid hb9
        clear hb9
        go_wp2
        refine bodyPost_ret (v := .tuple #[.slice none 0 0, .int .i64 52]) (by simp [results, Tryz.results18, go_sem]) rfl (by rw [HMR.out, HV2.out]; exact ⟨rfl, HWR.out.trans (HB9.out.mono HWR.out.size)⟩)
      | some r =>
        have hmv2 : Pt.Rg.minusR g h = (some r, 0) := hmv
        have HV2 := Lib.hid hmv2
        have HWP := Lib.hid hWP
        clear hWP hmv hmv2
        go_wp2_with fail
        with_reducible refine HWP.out.mono ?_
        rintro en w9 ⟨A8, ol, c8, rfl, hol, hown8, hb8, hfr8⟩
        have HR8 := Lib.hid (And.intro hol (And.intro hown8 (And.intro hb8 hfr8)))
        clear hol hown8 hb8 hfr8
        go_wp2
        obtain ⟨hol, hown8, hb8, hfr8⟩ := HR8.out
        refine bodyPost_ret (v := .tuple #[.slice A8 ol.length c8, .int .i64 0]) (by simp [results, Tryz.results18, go_sem]) rfl (by rw [HMR.out, HV2.out]; exact ⟨A8, ol, c8, rfl, hol, hown8.more HWR.out.size, HWR.out.trans (hb8.mono HWR.out.size), fun x hx => (hfr8 x hx).old HWR.out.size⟩)
end Go.Proofs.YtembmegllpkmfaaGreatDoor
