/- No step of a run gives a draw back: what a call draws only grows. No program. -/
import GoSem.Step
import Derived.Calls
import Derived.Control
namespace Go.Proofs.YtembmegllpkmfaaGreatDoor.Mono
open Go

def resW {α : Type} : Result α → World
  | .ok _ w => w
  | .halt _ w => w
theorem exc_bind {ε α β : Type} {x : Except ε α} {f : α → Except ε β} {r : β} (h : (x >>= f) = .ok r) : ∃ a, x = .ok a ∧ f a = .ok r := by
  cases x with
  | error e => cases h
  | ok a => exact ⟨a, rfl, h⟩
theorem farStore_drawn {p : Program} {w w' : World} {a : Addr} {v : Value} {t : Bool} {l : List Addr} (h : w.farStore p a v t = .ok (w', l)) : w'.drawn = w.drawn := by
  unfold World.farStore at h
  split at h
  · split at h
    · rename_i r hr
      simp only [Except.ok.injEq] at h
      subst h
      unfold World.viewStore at hr
      dsimp only at hr
      split at hr
      · first
          | (obtain ⟨_, h1, _⟩ := exc_bind hr; cases h1; done)
      · first
          | (obtain ⟨_, h1, _⟩ := exc_bind hr; cases h1; done)
          | (obtain ⟨⟨c, e, frozen, first, like, cells⟩, _, hr⟩ := exc_bind hr
             dsimp only at hr
             split at hr
             · split at hr
               · obtain ⟨_, h1, _⟩ := exc_bind hr
                 cases h1
               · obtain ⟨c', _, hr⟩ := exc_bind hr
                 cases hr
                 rfl
             · cases hr)
    · cases h
  · cases h
theorem ask_drawn {α : Type} : ∀ (q : Ask α) (w : World), w.drawn ≤ (w.ask q).2.drawn
  | .done a, w => Nat.le_refl _
  | .ask what range k, w => by
    unfold World.ask
    simp only
    split
    · exact ask_drawn (k 0) w
    · have := ask_drawn (k ((Question.extern what range).cut (w.tape w.drawn (Question.extern what range)))) { w with drawn := w.drawn + 1 }
      simp only at this ⊢
      omega
theorem sys_drawn (w : World) (c : Sys) : w.drawn ≤ (w.sys c).2.drawn := by
  have h := ask_drawn (Kernel.perform c w.os) w
  unfold World.sys
  generalize w.ask (Kernel.perform c w.os) = x at h
  obtain ⟨⟨r, os⟩, w1⟩ := x
  split
  · exact Nat.le_refl _
  · rename_i h2
    injection h2 with h3 h4
    injection h3 with h5 h6
    subst h4
    exact h
theorem run_drawn {α : Type} {p : Program} : ∀ (m : Sem α) (w : World), w.drawn ≤ (resW (m.run p w)).drawn := by
  intro m
  induction m with
  | pure a => intro w; exact Nat.le_refl _
  | load md a k ih =>
    intro w
    unfold Sem.run
    split
    · exact ih _ w
    · split
      · exact ih _ w
      · exact Nat.le_refl _
  | store md a v k ih =>
    intro w
    cases v <;> first | exact Nat.le_refl _ | skip
    all_goals
      unfold Sem.run
      split
      · split
        · exact Nat.le_refl _
        · exact ih (w.setCell a _)
      · split
        · rename_i w1 t h
          exact Nat.le_trans (Nat.le_of_eq (farStore_drawn h).symm) (ih w1)
        · exact Nat.le_refl _
  | new o k ih => intro w; unfold Sem.run; exact ih _ { w with heap := w.heap.push o }
  | shape r k ih => intro w; unfold Sem.run; exact ih _ w
  | freeze a n k ih =>
    intro w
    unfold Sem.run
    have h1 : (w.freeze a n).drawn = w.drawn := by unfold World.freeze; split <;> rfl
    exact Nat.le_trans (Nat.le_of_eq h1.symm) (ih (w.freeze a n))
  | frozen a k ih => intro w; unfold Sem.run; exact ih _ w
  | getObj r k ih =>
    intro w
    unfold Sem.run
    split
    · exact Nat.le_refl _
    · exact ih _ w
    · exact Nat.le_refl _
  | setObj r o k ih =>
    intro w
    unfold Sem.run
    split
    · exact Nat.le_refl _
    · exact ih { w with heap := w.heap.setIfInBounds r o }
    · exact Nat.le_refl _
  | choose q k ih =>
    intro w
    unfold Sem.run
    split
    · exact ih _ w
    · exact Nat.le_trans (Nat.le_succ _) (ih (q.cut (w.tape w.drawn q)) { w with drawn := w.drawn + 1 })
  | sys c k ih =>
    intro w
    unfold Sem.run
    exact Nat.le_trans (sys_drawn w c) (ih _ _)
  | program k ih => intro w; unfold Sem.run; exact ih _ w
  | mark md k ih => intro w; unfold Sem.run; exact ih w
  | halt h => intro w; exact Nat.le_refl _
theorem runT_drawn {α : Type} {p : Program} : ∀ (m : Sem α) (w : World) (es : Array Event), w.drawn ≤ (resW (m.runT p w es).1).drawn := by
  intro m
  induction m with
  | pure a => intro w es; exact Nat.le_refl _
  | load md a k ih =>
    intro w es
    unfold Sem.runT
    split
    · exact ih _ w _
    · split
      · exact ih _ w _
      · exact Nat.le_refl _
  | store md a v k ih =>
    intro w es
    cases v <;> first | exact Nat.le_refl _ | skip
    all_goals
      unfold Sem.runT
      split
      · split
        · exact Nat.le_refl _
        · exact ih (w.setCell a _) _
      · split
        · rename_i w1 t h
          exact Nat.le_trans (Nat.le_of_eq (farStore_drawn h).symm) (ih w1 _)
        · exact Nat.le_refl _
  | new o k ih => intro w es; unfold Sem.runT; exact ih _ { w with heap := w.heap.push o } _
  | shape r k ih => intro w es; unfold Sem.runT; exact ih _ w _
  | freeze a n k ih =>
    intro w es
    unfold Sem.runT
    have h1 : (w.freeze a n).drawn = w.drawn := by unfold World.freeze; split <;> rfl
    exact Nat.le_trans (Nat.le_of_eq h1.symm) (ih (w.freeze a n) _)
  | frozen a k ih => intro w es; unfold Sem.runT; exact ih _ w _
  | getObj r k ih =>
    intro w es
    unfold Sem.runT
    split
    · exact Nat.le_refl _
    · exact ih _ w _
    · exact Nat.le_refl _
  | setObj r o k ih =>
    intro w es
    unfold Sem.runT
    split
    · exact Nat.le_refl _
    · exact ih { w with heap := w.heap.setIfInBounds r o } _
    · exact Nat.le_refl _
  | choose q k ih =>
    intro w es
    unfold Sem.runT
    split
    · exact ih _ w _
    · exact Nat.le_trans (Nat.le_succ _) (ih (q.cut (w.tape w.drawn q)) { w with drawn := w.drawn + 1 } _)
  | sys c k ih =>
    intro w es
    unfold Sem.runT
    exact Nat.le_trans (sys_drawn w c) (ih _ _ _)
  | program k ih => intro w es; unfold Sem.runT; exact ih _ w _
  | mark md k ih => intro w es; unfold Sem.runT; exact ih w _
  | halt h => intro w es; exact Nat.le_refl _
theorem run_ok {α : Type} {p : Program} {m : Sem α} {w w' : World} {a : α} (h : m.run p w = .ok a w') : w.drawn ≤ w'.drawn := by
  have := run_drawn (p := p) m w
  rw [h] at this
  exact this
theorem run_halt {α : Type} {p : Program} {m : Sem α} {w w' : World} {a : Halt} (h : m.run p w = .halt a w') : w.drawn ≤ w'.drawn := by
  have := run_drawn (p := p) m w
  rw [h] at this
  exact this
def gw : GStep → World
  | .go _ w _ => w
  | .comm _ _ _ _ w _ => w
  | .spawn _ _ w _ => w
  | .count _ w _ => w
  | .timer _ _ w _ => w
  | .alone _ _ w _ => w
  | .newcoro _ _ _ w _ => w
  | .coroswitch _ _ _ w _ => w
  | .collect _ w _ => w
  | .watch _ w _ => w
  | .ended _ w _ => w
theorem gw_after (es : Array Event) (s : GStep) : gw (s.after es) = gw s := by cases s <;> rfl
theorem gw_ite {n : Nat} {c : Prop} [Decidable c] {a b : GStep} (ha : n ≤ (gw a).drawn) (hb : n ≤ (gw b).drawn) : n ≤ (gw (if c then a else b)).drawn := by split <;> assumption
theorem endWith_drawn (w : World) (fd : Nat) (t : ByteArray) (o : Outcome) : w.drawn ≤ (gw (endWith w fd t o)).drawn := by
  have h := sys_drawn w (.write fd t)
  unfold endWith
  generalize w.sys (.write fd t) = x at h
  obtain ⟨r, w1⟩ := x
  cases r <;> simp only
  all_goals first | exact h | (split <;> exact h)
theorem endThrow_drawn (fr : Frame) (m : String) (w : World) : (gw (endThrow fr m w)).drawn = w.drawn := rfl
theorem endPrinting_drawn (p : Program) (fr : Frame) (v : Value) (w : World) : (gw (endPrinting p fr v w)).drawn = w.drawn := by
  unfold endPrinting
  simp only
  split <;> rfl
theorem endFatal_drawn (p : Program) (fr : Frame) (cs : List Frame) (d : Option Dying) (m : String) (w : World) : w.drawn ≤ (gw (endFatal p fr cs d m w)).drawn := by
  unfold endFatal
  extract_lets
  rename_i shown
  have h := run_drawn (p := p) shown w
  generalize shown.run p w = x at h
  cases x with
  | ok a w1 => exact h
  | halt a w1 => cases a <;> exact h
theorem writeOn_drawn (p : Program) (fr : Frame) (d : Dying) (f : Fatal) (w : World) : w.drawn ≤ (gw (writeOn p fr d f w)).drawn := by
  unfold writeOn
  extract_lets
  split
  · exact Nat.le_refl _
  · extract_lets
    rename_i write
    have h := runT_drawn (p := p) write w #[]
    generalize write.runT p w #[] = x at h
    obtain ⟨r, es⟩ := x
    cases r with
    | ok a w1 => exact h
    | halt a w1 => cases a <;> exact h
theorem die_drawn (p : Program) (fr : Frame) (d : Dying) (w : World) : w.drawn ≤ (gw (die p fr d w)).drawn := by
  unfold die
  split
  · exact writeOn_drawn ..
  · split
    · split
      · exact Nat.le_refl _
      · exact endWith_drawn ..
    · extract_lets
      split
      · exact Nat.le_refl _
      · rename_i s hs
        have h := run_drawn (p := p) (withAddress s) w
        generalize (withAddress s).run p w = x at h
        cases x <;> exact h
      · rename_i t recv name hs
        have h := runT_drawn (p := p) (invoke (.fn (.method name) #[]) #[.iface t recv]) w #[]
        generalize (invoke (.fn (.method name) #[]) #[.iface t recv]).runT p w #[] = x at h
        obtain ⟨r, es⟩ := x
        simp only
        rw [gw_after]
        cases r with
        | ok a w1 =>
          cases a <;> first | exact h | exact Nat.le_refl _ | skip
          all_goals (rename_i v; cases v <;> first | exact h | exact Nat.le_refl _)
        | halt a w1 => cases a <;> first | exact h | exact Nat.le_refl _ | (simp only; rw [endPrinting_drawn]; exact h)
      · exact Nat.le_refl _
theorem doReturn_drawn (p : Program) (main : Bool) (fr : Frame) (cs : List Frame) (d : Option Dying) (v : Value) (w : World) : (gw (doReturn p main fr cs d v w)).drawn = w.drawn := by
  unfold doReturn
  repeat (first | rfl | split)
theorem callDeferred_drawn (p : Program) (fr : Frame) (cs : List Frame) (dy : Option Dying) (d : Deferred) (w : World) : w.drawn ≤ (gw (callDeferred p fr cs dy d w)).drawn := by
  unfold callDeferred
  refine gw_ite (Nat.le_refl _) ?_
  · have h := runT_drawn (p := p) (invoke d.target d.args) w #[]
    generalize (invoke d.target d.args).runT p w #[] = x at h
    obtain ⟨r, es⟩ := x
    simp only
    rw [gw_after]
    cases r with
    | ok a w1 =>
      cases a <;> first | exact h | skip
      all_goals first
        | (dsimp only; split <;> exact h)
        | (rename_i on v; cases on <;> exact h)
        | (rename_i c ex; cases ex <;> exact h)
    | halt a w1 => cases a <;> first | exact h | exact Nat.le_refl _ | (exact Nat.le_trans h (endFatal_drawn ..)) | (simp only [endThrow_drawn]; exact h)
theorem unwind_drawn (p : Program) (main : Bool) (fr : Frame) (cs : List Frame) (dy : Option Dying) (w : World) : w.drawn ≤ (gw (unwind p main fr cs dy w)).drawn := by
  unfold unwind
  split
  · rename_i block args ds _
    have h := runT_drawn (p := p) (Instr.takeDeferred block) w #[]
    generalize (Instr.takeDeferred block).runT p w #[] = x at h
    obtain ⟨r, es⟩ := x
    simp only
    rw [gw_after]
    cases r <;> exact h
  · exact callDeferred_drawn ..
  · split
    · exact Nat.le_refl _
    · rename_i chain _
      split
      · exact Nat.le_refl _
      · split
        · exact Nat.le_refl _
        · split
          · split
            · exact Nat.le_refl _
            · have h := run_drawn (p := p) (reportChain chain false) w
              generalize (reportChain chain false).run p w = x at h
              cases x with
              | ok a w1 => exact h
              | halt a w1 => cases a <;> exact h
          · split
            · rw [endPrinting_drawn]; exact Nat.le_refl _
            · exact Nat.le_refl _
    · split
      · rw [doReturn_drawn]; exact Nat.le_refl _
      · rename_i fn _
        have h := runT_drawn (p := p) (results fn fr.tmps) w #[]
        generalize (results fn fr.tmps).runT p w #[] = x at h
        obtain ⟨r, es⟩ := x
        simp only
        rw [gw_after]
        cases r with
        | ok a w1 => simp only [doReturn_drawn]; exact h
        | halt a w1 => cases a <;> exact h
theorem early_drawn (p : Program) (fr : Frame) (cs : List Frame) (dy : Option Dying) (g : Nat) (w : World) : w.drawn ≤ (gw (early p fr cs dy g w)).drawn := by
  unfold early
  extract_lets refuse notYet
  have hN : ∀ w', (gw (notYet w')).drawn = w'.drawn := fun w' => by
    simp only [notYet]
    split <;> rfl
  split
  · rw [hN]; exact Nat.le_refl _
  · split
    · exact Nat.le_refl _
    · extract_lets there
      split
      · rw [hN]; exact Nat.le_refl _
      · split
        · rw [hN]; exact Nat.le_refl _
        · split
          · exact Nat.le_refl _
          · exact Nat.le_refl _
          · exact Nat.le_refl _
          · rw [hN]; exact Nat.le_refl _
          · split
            · exact Nat.le_refl _
            · split
              · rw [hN]; exact Nat.le_refl _
              · have h := run_drawn (p := p) (choose (.early g)) w
                generalize (choose (.early g)).run p w = x at h
                cases x with
                | ok a w1 => cases a <;> first | exact h | (simp only [hN]; exact h)
                | halt a w1 => exact h
theorem apply_drawn (p : Program) (listen : Bool) (fr : Frame) (cs : List Frame) (dy : Option Dying) (s : Sem Next) (w : World) : w.drawn ≤ (gw (stepG.apply p listen fr cs dy s w)).drawn := by
  have h : w.drawn ≤ (resW (if listen then s.runT p w #[] else (s.run p w, #[])).1).drawn := by
    split
    · exact runT_drawn ..
    · exact run_drawn ..
  unfold stepG.apply
  extract_lets go kind
  generalize (if listen then s.runT p w #[] else (s.run p w, #[])) = x at h
  obtain ⟨r, es⟩ := x
  simp only
  rw [gw_after]
  cases r with
  | ok a w1 =>
    cases a <;> first | exact h | skip
    all_goals (dsimp only; repeat' (first | exact h | split | (simp only [endThrow_drawn]; exact h)))
  | halt a w1 =>
    cases a <;> first | exact h | exact Nat.le_refl _ | (exact Nat.le_trans h (endFatal_drawn ..)) | (simp only [endThrow_drawn]; exact h) | skip
    all_goals (rename_i u; cases u <;> first | exact h | exact Nat.le_trans h (early_drawn ..))
theorem oper_drawn (p : Program) (listen : Bool) (fr : Frame) (cs : List Frame) (dy : Option Dying) (w : World) : w.drawn ≤ (gw (stepG.oper p listen fr cs dy w)).drawn := by
  unfold stepG.oper
  split
  · exact Nat.le_refl _
  · split <;> exact apply_drawn ..
theorem gw_elim {α : Type} {n : Nat} (o : Option α) {a : GStep} {f : α → GStep} (ha : n ≤ (gw a).drawn) (hb : ∀ x, n ≤ (gw (f x)).drawn) : n ≤ (gw (o.elim a f)).drawn := by
  cases o with
  | none => exact ha
  | some x => exact hb x
set_option maxHeartbeats 4000000 in
theorem exec_drawn (p : Program) (main listen : Bool) (fr : Frame) (cs : List Frame) (dy : Option Dying) (w : World) : w.drawn ≤ (gw (stepG.exec p main listen fr cs dy w)).drawn := by
  unfold stepG.exec
  extract_lets go to lost leave
  have hL : ∀ j, w.drawn ≤ (gw (leave j)).drawn := fun j => by
    simp only [leave]
    split
    · split <;> exact Nat.le_refl _
    · rename_i l _
      have h := runT_drawn (p := p) (Instr.endRound l j) w #[]
      generalize (Instr.endRound l j).runT p w #[] = x at h
      obtain ⟨r, es⟩ := x
      simp only
      rw [gw_after]
      cases r with
      | ok v w1 => simp only [doReturn_drawn]; exact h
      | halt a w1 => exact h
  split
  case h_1 => exact hL none
  case h_2 => exact hL (some .ret)
  case h_8 => split <;> exact Nat.le_refl _
  case h_13 => exact gw_elim _ (hL (some (.exit _))) (fun _ => Nat.le_refl _)
  case h_14 => exact gw_elim _ (hL (some (.goto _))) (fun _ => Nat.le_refl _)
  case h_15 =>
    rename_i f params assign body k _
    have h := runT_drawn (p := p) (Instr.enterLoop fr.fn fr.tmps params assign body fr.roundOf) w #[]
    generalize (Instr.enterLoop fr.fn fr.tmps params assign body fr.roundOf).runT p w #[] = x at h
    obtain ⟨r, es⟩ := x
    simp only
    rw [gw_after]
    cases r with
    | ok a w1 => exact Nat.le_trans h (apply_drawn ..)
    | halt a w1 => exact h
  case h_17 => exact apply_drawn ..
  case h_18 =>
    rename_i l k _
    have h := runT_drawn (p := p) (Instr.endLoop l) w #[]
    generalize (Instr.endLoop l).runT p w #[] = x at h
    obtain ⟨r, es⟩ := x
    simp only
    rw [gw_after]
    cases r with
    | ok a w1 => exact h
    | halt a w1 => cases a <;> exact h
  case h_20 => exact apply_drawn ..
  case h_21 => exact gw_elim _ (Nat.le_refl _) (fun _ => apply_drawn ..)
  case h_22 =>
    refine gw_ite (Nat.le_refl _) ?_
    rename_i id ops draw k _
    have h := run_drawn (p := p) (choose (.order fr.fn id)) w
    generalize (choose (.order fr.fn id)).run p w = x at h
    cases x <;> exact h
  case h_24 => exact gw_ite (oper_drawn ..) (Nat.le_refl _)
  all_goals exact Nat.le_refl _
theorem stepG_drawn (p : Program) (main : Bool) (g : Goroutine) (w : World) (listen : Bool) : w.drawn ≤ (gw (stepG p main g w listen)).drawn := by
  unfold stepG
  split
  split
  · exact die_drawn ..
  · exact exec_drawn ..
  · exact unwind_drawn ..
def Up (n : Nat) : Stepped → Prop
  | .next m => n ≤ m.world.drawn
  | _ => True
theorem Up.mono {n k : Nat} (h : n ≤ k) {s : Stepped} (hs : Up k s) : Up n s := by
  cases s with
  | next m => exact Nat.le_trans h hs
  | ended => trivial
theorem withPoller_any (rest : Rest) (cases : Array CommCase) (w w' : World) (h : waitingAt rest cases w = some w') : w'.drawn = w.drawn := by
  unfold waitingAt at h
  split at h
  · split at h
    · injection h with h; rw [← h]
    · cases h
  · injection h with h; rw [← h]
theorem communicate_up (p : Program) (rest : Rest) (gs : Array Goroutine) (i : Nat) (g : Goroutine) (cases : Array CommCase) (blocking : Bool) (shape : CommShape) (w : World) : Up w.drawn (communicate p rest gs i g cases blocking shape w).1 := by
  unfold communicate
  extract_lets put illMade me other ready
  split
  · trivial
  · split
    · split
      · split
        · rename_i w1 h
          exact Nat.le_of_eq (withPoller_any _ _ _ _ h).symm
        · trivial
      · exact Nat.le_refl _
    · rename_i pick _ _
      have h := run_drawn (p := p) pick w
      generalize pick.run p w = x at h
      cases x with
      | halt a w1 => trivial
      | ok a w1 =>
        obtain ⟨k, c, way⟩ := a
        have h : w.drawn ≤ w1.drawn := h
        dsimp only
        split
        · have h2 := run_drawn (p := p) (runtimePanic (.plain "send on closed channel") : Sem Unit) w1
          generalize (runtimePanic (.plain "send on closed channel") : Sem Unit).run p w1 = y at h2
          cases y with
          | ok a w2 => trivial
          | halt a w2 => cases a <;> first | trivial | exact Nat.le_trans h h2
        · exact h
        · exact h
        · split
          · exact h
          · split
            · rename_i b w2 hq
              have h3 := run_ok hq
              exact (show w.drawn ≤ w2.drawn from Nat.le_trans h h3)
            · trivial
        · exact h
        · exact h
        · trivial
theorem look_up (p : Program) (gs : Array Goroutine) (rest : Rest) (w : World) : Up w.drawn (look p gs rest w) := by
  unfold look
  split
  · dsimp only
    split
    · trivial
    · split
      · trivial
      · split
        · rename_i hq
          have h3 := run_ok hq
          exact h3
        · trivial
        · trivial
  · trivial
theorem drain_drawn (w : World) (c : Nat) : (drain w c).2.drawn = w.drawn := by
  unfold drain
  split <;> rfl
theorem retime_drawn (m : Machine) (k : Nat) (t : Timer) (a b : Nat) : (retime m k t a b).2.world.drawn = m.world.drawn := by
  unfold retime
  cases t.chan with
  | none => rfl
  | some c =>
    have h := drain_drawn m.world c
    dsimp only
    generalize drain m.world c = x at h
    obtain ⟨x1, x2⟩ := x
    exact h
theorem named_drawn (m m' : Machine) (var : Addr) (f : Nat → Timer → Value × Machine) (v : Value) (n : Nat) (hf : ∀ k t, (f k t).2.world.drawn = n) (h : timerOp.named m var f = .ok (v, m')) : m'.world.drawn = n := by
  unfold timerOp.named at h
  split at h
  · rename_i k _
    injection h with h
    have := hf k (m.rest.timers.getD k default)
    rw [h] at this
    exact this
  · cases h
theorem opened_drawn (m m' : Machine) (var : Addr) (h : timerOp.opened m var = some m') : m'.world.drawn = m.world.drawn := by
  unfold timerOp.opened at h
  split at h
  · split at h
    · injection h with h; rw [← h]
    · cases h
  · injection h with h; rw [← h]
theorem timerOp_drawn (m m' : Machine) (op : TimerOp) (v : Value) (h : timerOp m op = .ok (v, m')) : m'.world.drawn = m.world.drawn := by
  cases op with
  | new t =>
    dsimp only [timerOp] at h
    split at h
    · injection h with h
      have h2 := congrArg Prod.snd h
      dsimp only at h2
      rw [← h2]
      rfl
    · split at h
      · split at h
        · cases h
        · injection h with h
          have h2 := congrArg Prod.snd h
          dsimp only at h2
          rw [← h2]
      · cases h
  | stop var =>
    dsimp only [timerOp] at h
    exact named_drawn m m' var _ v _ (fun k t => retime_drawn m k t 0 t.period) h
  | reset var a b =>
    dsimp only [timerOp] at h
    split at h
    · rename_i m1 h1
      rw [← opened_drawn m m1 var h1]
      exact named_drawn _ m' var _ v _ (fun k t => retime_drawn m1 k t a b) h
    · cases h
  | deadline ctx a b c =>
    dsimp only [timerOp] at h
    injection h with h
    have h2 := congrArg Prod.snd h
    dsimp only at h2
    rw [← h2]
    rfl
theorem serve_up (p : Program) (m : Machine) (k : Nat) : Up m.world.drawn (serve p m k) := by
  unfold serve
  split
  · trivial
  · exact Nat.le_refl _
  · extract_lets
    split
    · trivial
    · exact Nat.le_refl _
theorem runT_up (p : Program) (m : Machine) (i : Nat) (listen : Bool) : Up m.world.drawn (Go.runT p m i listen).1 := by
  have hs := fun g => stepG_drawn p (i == 0) g m.world listen
  unfold Go.runT
  dsimp only
  generalize m.gs.swapAt! i { (default : Goroutine) with status := .finished } = x
  obtain ⟨g, gs⟩ := x
  have hg := hs g
  dsimp only
  generalize stepG p (i == 0) g m.world listen = st at hg
  cases st with
  | go g w es => exact hg
  | comm g cs bl sh w es => exact Up.mono hg (communicate_up ..)
  | spawn g c w es => exact hg
  | count g w es =>
    dsimp only
    split
    · trivial
    · exact hg
  | timer g op w es =>
    dsimp only
    split
    · rename_i v m1 h1
      have h2 := timerOp_drawn _ _ _ _ h1
      exact (show m.world.drawn ≤ m1.world.drawn from by rw [h2]; exact hg)
    · exact hg
    · trivial
    · trivial
  | alone g on w es => exact hg
  | newcoro g c d w es => exact hg
  | coroswitch g c ex w es =>
    dsimp only
    split
    · exact hg
    · exact hg
    · trivial
  | collect g w es => exact Up.mono hg (look_up ..)
  | watch g w es => exact hg
  | ended o w es => trivial
def UpM (n : Nat) : Move → Prop
  | .goroutine m _ => n ≤ m.world.drawn
  | .machine s _ => Up n s
theorem askOn_up (p : Program) (m : Machine) : UpM m.world.drawn (askOn p m) := by
  unfold askOn
  dsimp only
  split
  · trivial
  · rename_i k w1 hq
    have h1 := run_ok hq
    split
    · exact Up.mono h1 (serve_up p { m with world := w1 } _)
    · split
      · split
        · exact h1
        · split
          · exact h1
          · split <;> trivial
      · split
        · split
          · trivial
          · rename_i kA wA hqA
            have hA := run_ok hqA
            split
            · exact Nat.le_trans (h1) hA
            · split
              · trivial
              · rename_i nB wB hqB
                have hB := run_ok hqB
                exact Nat.le_trans (h1) (Nat.le_trans hA hB)
        · split
          · trivial
          · rename_i w2 hq2
            have h2 := run_ok hq2
            split
            · trivial
            · rename_i kA wA hqA
              have hA := run_ok hqA
              split
              · exact Nat.le_trans (Nat.le_trans h1 h2) hA
              · split
                · trivial
                · rename_i nB wB hqB
                  have hB := run_ok hqB
                  exact Nat.le_trans (Nat.le_trans h1 h2) (Nat.le_trans hA hB)
          · rename_i w2 hq2
            have h2 := run_ok hq2
            exact Nat.le_trans h1 h2
          · rename_i t _ k2 w2 hq2
            have h2 := run_ok hq2
            split
            · trivial
            · rename_i kA wA hqA
              have hA := run_ok hqA
              split
              · exact Nat.le_trans (Nat.le_trans h1 h2) hA
              · split
                · trivial
                · rename_i nB wB hqB
                  have hB := run_ok hqB
                  exact Nat.le_trans (Nat.le_trans h1 h2) (Nat.le_trans hA hB)
theorem ask_up (p : Program) (m : Machine) : UpM m.world.drawn (ask p m) := by
  unfold ask
  split
  · split
    · trivial
    · rename_i w1 hq
      have h1 := run_ok hq
      have h2 := look_up p m.gs m.rest w1
      split
      · rename_i m2 hq2
        rw [hq2] at h2
        have h3 := askOn_up p m2
        generalize askOn p m2 = y at h3
        cases y with
        | goroutine m3 i => exact Nat.le_trans (Nat.le_trans h1 h2) h3
        | machine s ops => exact Up.mono (Nat.le_trans h1 h2) h3
      · exact Up.mono h1 h2
    · rename_i w1 _ hq
      have h1 := run_ok hq
      have h3 := askOn_up p { m with world := w1 }
      generalize askOn p { m with world := w1 } = y at h3
      cases y with
      | goroutine m3 i => exact Nat.le_trans h1 h3
      | machine s ops => exact Up.mono h1 h3
  · exact askOn_up p m
theorem move_up (p : Program) (m : Machine) : UpM m.world.drawn (move p m) := by
  unfold move
  split
  · split
    · exact Nat.le_refl _
    · trivial
  · split
    · split
      · exact Nat.le_refl _
      · exact ask_up p { m with rest := { m.rest with slice := none } }
    · exact ask_up p m
theorem step_up (p : Program) (m : Machine) : Up m.world.drawn (step p m) := by
  have h := move_up p m
  unfold step stepT
  generalize move p m = y at h
  cases y with
  | goroutine m1 i => exact Up.mono h (runT_up p m1 i true)
  | machine s ops => exact h
theorem runN_up (p : Program) : ∀ (n : Nat) (m m' : Machine), runN p n m = .next m' → m.world.drawn ≤ m'.world.drawn
  | 0, m, m', h => by
    unfold runN at h
    injection h with h
    rw [h]
    exact Nat.le_refl _
  | n + 1, m, m', h => by
    have h1 := step_up p m
    unfold runN at h
    split at h
    · rename_i m1 hq
      rw [hq] at h1
      exact Nat.le_trans h1 (runN_up p n m1 m' h)
    · rename_i hq
      exact absurd h (hq m')
theorem steps_up {p : Program} {m m' : Machine} (h : Steps p m m') : m.world.drawn ≤ m'.world.drawn := by
  obtain ⟨n, hn⟩ := h
  exact runN_up p n m m' hn
end Go.Proofs.YtembmegllpkmfaaGreatDoor.Mono
namespace Go.Proofs.YtembmegllpkmfaaGreatDoor
open Go
/-- What a call that returns has drawn. -/
theorem calls_drawn {P : Program} {f : FuncId} {args : Array Value} {w : World} {R : Ending → World → Prop} (h : Calls P f args w R) : Calls P f args w fun e w' => R e w' ∧ ∀ v, e = .returned v → w.drawn ≤ w'.drawn := by
  intro cs
  obtain ⟨e, w', fr, hR, hc, h1, h2⟩ := h cs
  refine ⟨e, w', fr, ⟨hR, fun v hv => ?_⟩, hc, h1, h2⟩
  subst hv
  exact Mono.steps_up (m := lone (Frame.enter P f args .normal) cs w) (m' := lone fr cs w') hc
end Go.Proofs.YtembmegllpkmfaaGreatDoor
