/- The contract of Backward of a view; how long what Forward gives is. -/
import Derived.Test.YtipljgkhooeeiaaGreatDoorVwTurn
namespace Go.Proofs.YtipljgkhooeeiaaGreatDoor
open Go.RowKit

theorem turn_szv {N : Nat} {tl rl : List RulV} (h : tl.map RulV.rul = Pt.Vw.turnV (rl.map RulV.rul)) (hz : SzV N rl) : SzV N tl := by
  refine szv_of fun r hr => ?_
  rw [h] at hr
  obtain ⟨x, hx, rfl⟩ := List.mem_map.1 hr
  exact ⟨(hz.szs x hx).2, (hz.szs x hx).1⟩
theorem vfwd_len {N M : Nat} {v : List Pt.Rul} {s t : List UInt8} (h : Pt.Vw.vfwd v s = some t) (hr : ∀ r ∈ v, Pt.szs N r.right) (hs : s.length ≤ M) : t.length ≤ 13 * (N + M + 1) + 2 := by
  obtain ⟨i, hi, _, _, hf⟩ := Pt.Vw.vfwd_line h
  exact fwd_len hf (hr _ (List.getElem_mem hi)) hs
set_option maxHeartbeats 2000000 in
theorem vback_any (A : Option Addr) (rl : List RulV) (c : Nat) (s : ByteArray) (w : World) (hr : RdV w A rl c) (hn : ∀ x ∈ rl, x.xs.length ≤ 1000000 ∧ x.ys.length ≤ 1000000) (hN : rl.length ≤ 900000) (hz : SzV 100000 rl) (hs : s.size ≤ 100000) (hm : MaxL w) :
    Calls Tryz.prog 46 #[.slice A rl.length c, .string s] w (GivesFw w (Pt.Vw.vfwd (Pt.Vw.turnV (rl.map RulV.rul)) s.data.toList)) := by
  have HT := Lib.hid (vturn_any A rl c w hr hn hN)
  have HF := Lib.hid (fun (B : Option Addr) (tl : List RulV) (d : Nat) (w1 : World) (h : tl.map RulV.rul = Pt.Vw.turnV (rl.map RulV.rul)) (hrd : RdV w1 B tl d) (hm1 : MaxL w1) => vfwd_any B tl d s w1 hrd (turn_szv h hz) hs hm1)
  have HFF := Lib.hid (fun (B : Option Addr) (tl : List RulV) (d : Nat) (w1 : World) (h : tl.map RulV.rul = Pt.Vw.turnV (rl.map RulV.rul)) (hrd : RdV w1 B tl d) (hm1 : MaxL w1) => show Calls Tryz.prog 42 #[.slice B tl.length d, .string s] w1 (GivesFw w1 (Pt.Vw.vfwd (Pt.Vw.turnV (rl.map RulV.rul)) s.data.toList)) from by rw [← h]; exact HF.out B tl d w1 h hrd hm1)
  have HM := Lib.hid hm
  generalize Pt.Vw.vfwd (Pt.Vw.turnV (rl.map RulV.rul)) s.data.toList = o at *
  unfold GivesTurnV at HT
  generalize rl.length = n at *
  clear hr hn hN hz hm HF
  go_enter Tryz.func46, Tryz.ntmps46
  go_wp2_with fail
  with_reducible refine HT.out.mono ?_
  rintro e w1 ⟨B, tl, d, rfl, hown, htm, hb⟩
  obtain ⟨B2, d2, he, hrd, _⟩ := hown.rd
  injection he with e1 _ e3
  subst e1 e3
  have HF2 := Lib.hid (HFF.out _ _ _ w1 htm hrd (HM.out.keep hb HM.out.size))
  have HB1 := Lib.hid hb
  clear hown htm hrd hb
  generalize tl.length = tn at *
  go_wp2_with fail
  with_reducible refine HF2.out.mono ?_
  rintro e w2 ⟨rfl, hb2⟩
  have HB2 := Lib.hid (HB1.out.trans (hb2.mono HB1.out.size))
  clear hb2
  go_wp2
  go_ret2
  exact ⟨rfl, HB2.out⟩
end Go.Proofs.YtipljgkhooeeiaaGreatDoor
