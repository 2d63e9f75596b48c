/-
  THE WALKS OF (*Chip).goOn, acknowledged, await.
-/
import Derived.Test.YtfcdlnpfneinlaaDoorEDat
import Derived.Test.YtfcdlnpfneinlaaDoorEAddr
import Derived.Test.YtfcdlnpfneinlaaDoorESend
import Derived.Deep.RegionWith
namespace Go.Proofs.YtfcdlnpfneinlaaDoor
open Go.RowKit
set_option maxRecDepth 20000

def Chip.meth (s : Chip) (k : Nat) (e : Int) (line wp : Bool) : Chip := if k = 2 then s.addr e line else if k = 3 then s.dat e line wp else s.send e
set_option maxRecDepth 100000 in
set_option maxHeartbeats 4000000 in
theorem goOn_any (w : World) (p : Nat) (F : Nat → Prop) (s : Chip) (k : Nat) (n e : Int) (line wp : Bool) (h : ChipAt w p F s) (hok : Chip.Ok n { s with nx := k }) (hj : s.join = false) (hn : n ≤ 1000000) (he : e = 2 ∨ e = 3 ∨ e = 4) (hk : k = 2 ∨ k = 3 ∨ k = 5) :
    Calls Tryd.prog 86 #[.pointer (some ⟨p, 0, none⟩), fnV p k, nowV e line wp] w (Did p F (Chip.meth { s with nx := k } k e line wp) w) := by
  have HT := Lib.hid h.tab
  obtain ⟨d, cap, l, cm, wm, hin⟩ := h
  have HI := Lib.hid hin
  have HO := Lib.hid hok
  have HJ := Lib.hid hj
  have HE := Lib.hid he
  have hlt := hin.blk.lt
  have hne : w.heap.size ≠ p := by omega
  have f4 := hin.blk.frozen 4
  have c4 := hin.blk.cell 4
  simp only [cellsOf, List.getElem?_toArray, List.getElem?_cons_zero, List.getElem?_cons_succ] at c4
  have hst : ∀ (fn : Fn) (first cap : Array Value) (a : Addr) (w : World), (store a (.func fn first cap)).run Tryd.prog w = stored Tryd.prog w a (.func fn first cap) .plain := fun _ _ _ _ _ => run_store _ _ _ _ _ rfl
  have Z := Lib.hid ((HI.out.sets (cm' := cm) [(4, fnV p k)] { s with nx := k } rfl rfl rfl rfl (.inl ⟨rfl, rfl, rfl⟩)).box HT.out (.cells #[.int .i64 e, .bool line, .bool wp] 72))
  clear hin hok hj he
  rcases hk with rfl | rfl | rfl
  · unfold fnV fnum nowV
    go_enter Tryd.func86, Tryd.ntmps86
    go_wp2_with fail
    refine (addr_any _ p _ _ n e line wp Z.out.1 HO.out rfl hn HE.out).mono ?_
    rintro e' w1 ⟨rfl, hz⟩
    have Z1 := Lib.hid (Z.out.then_ hz HT.out)
    clear hz
    go_wp2_with fail
    go_end0
    exact ⟨rfl, Z1.out⟩
  · unfold fnV fnum nowV
    go_enter Tryd.func86, Tryd.ntmps86
    go_wp2_with fail
    refine (dat_any _ p _ _ n e line wp Z.out.1 HO.out HJ.out hn HE.out).mono ?_
    rintro e' w1 ⟨rfl, hz⟩
    have Z1 := Lib.hid (Z.out.then_ hz HT.out)
    clear hz
    go_wp2_with fail
    go_end0
    exact ⟨rfl, Z1.out⟩
  · unfold fnV fnum nowV
    go_enter Tryd.func86, Tryd.ntmps86
    go_wp2_with fail
    refine (send_any _ p _ _ n e line wp Z.out.1 HO.out hn HE.out).mono ?_
    rintro e' w1 ⟨rfl, hz⟩
    have Z1 := Lib.hid (Z.out.then_ hz HT.out)
    clear hz
    go_wp2_with fail
    go_end0
    exact ⟨rfl, Z1.out⟩

set_option maxRecDepth 100000 in
set_option maxHeartbeats 4000000 in
theorem acked_any (w : World) (p : Nat) (F : Nat → Prop) (s : Chip) (n e : Int) (line wp : Bool) (h : ChipAt w p F s) (hok : s.Ok n) (hx : s.nx = 4) (hj : s.join = false) (hn : n ≤ 1000000) (he : e = 2 ∨ e = 3 ∨ e = 4) :
    Calls Tryd.prog 79 #[.pointer (some ⟨p, 0, none⟩), nowV e line wp] w (Did p F (s.acked e line wp) w) := by
  have HT := Lib.hid h.tab
  obtain ⟨d, cap, l, cm, wm, hin⟩ := h
  have HI := Lib.hid hin
  have HJ := Lib.hid hj
  have hlt := hin.blk.lt
  have hne : w.heap.size ≠ p := by omega
  have f3 := hin.blk.frozen 3
  have c3 := hin.blk.cell 3
  have c5 := hin.blk.cell 5
  simp only [cellsOf, List.getElem?_toArray, List.getElem?_cons_zero, List.getElem?_cons_succ] at c3 c5
  obtain ⟨k, hk⟩ : ∃ k, s.bh = k := ⟨_, rfl⟩
  have hb := hok.bh hx
  rw [hk] at c5 hb
  by_cases he4 : e = 4
  · have Z := Lib.hid (((HI.out.sets (cm' := cm) [(3, .bool false)] { s with pulls := false } rfl rfl rfl rfl (.inl ⟨rfl, rfl, rfl⟩)).box HT.out (.cells #[.int .i64 e, .bool line, .bool wp] 72)).calm (below_drew _) HT.out)
    have HE := Lib.hid he
    have HO := Lib.hid (show Chip.Ok n { s with pulls := false, nx := k } from { hok with hears := fun e => hok.hears (.inr ⟨hx, by simp only at e; omega⟩), nx := by simp only; omega, bh := fun e => by simp only at e; omega })
    have HR := Lib.hid (show s.acked e line wp = Chip.meth { s with pulls := false, nx := k } k e line wp by
      unfold Chip.acked Chip.meth
      rw [if_pos he4, hk]
      rcases hb with rfl | rfl | rfl <;> rfl)
    have HB := Lib.hid hb
    have hkn : bhV p k = .func (.func (fnum k)) #[.pointer (some ⟨p, 0, none⟩)] #[] := by unfold bhV fnV; rw [if_neg (by omega)]
    rw [hkn] at c5
    have he4' : (e == 4) = true := by simp [he4]
    subst he4
    clear hin hok hj he hx hk hb hkn he4'
    unfold nowV
    go_enter Tryd.func79, Tryd.ntmps79
    go_wp2_with fail
    go_region_with (go_at_call 86; refine (goOn_any _ p _ _ k n 4 line wp Z.out.1 HO.out HJ.out hn (by decide) HB.out).mono ?_; rintro e' w1 ⟨rfl, hz⟩)
    all_goals
      go_end0
      rw [HR.out]
      exact ⟨rfl, Z.out.then_ hz HT.out⟩
  · have HR := Lib.hid (show s.acked e line wp = s by unfold Chip.acked; rw [if_neg he4])
    have he4' : (e == 4) = false := by simp [he4]
    clear hin hok hj he hx hk hb he4
    unfold nowV
    go_enter Tryd.func79, Tryd.ntmps79
    go_wp2_with fail
    go_end0
    rw [HR.out]
    exact ⟨rfl, (HI.out.sets (cm' := cm) [] s rfl rfl rfl rfl (.inl ⟨rfl, rfl, rfl⟩)).box HT.out _⟩

set_option maxRecDepth 100000 in
set_option maxHeartbeats 4000000 in
theorem await_any (w : World) (p : Nat) (F : Nat → Prop) (s : Chip) (n e : Int) (line wp : Bool) (h : ChipAt w p F s) (hok : s.Ok n) (hj : s.join = false) (hn : n ≤ 1000000) (he : e = 2 ∨ e = 3 ∨ e = 4) :
    Calls Tryd.prog 81 #[.pointer (some ⟨p, 0, none⟩), nowV e line wp] w (Did p F (s.await e line) w) := by
  have HT := Lib.hid h.tab
  have HJ := Lib.hid hj
  have Z := Lib.hid (h.went.box h.tab (.cells #[.int .i64 e, .bool line, .bool wp] 72))
  have hmf : ∀ (fn : Fn) (first cap : Array Value) (w : World), (Instr.makeFunc fn first cap).run Tryd.prog w = .ok (.func fn first cap) w := fun _ _ _ _ => rfl
  have HO := Lib.hid (show Chip.Ok n { s with nx := 5 } from { hok with hears := fun e => by simp at e, nx := by show (5 : Nat) ≤ 6; omega, bh := fun e => by simp at e })
  unfold nowV
  rcases he with rfl | rfl | rfl
  · clear h hok hj
    go_enter Tryd.func81, Tryd.ntmps81
    go_wp2_with fail
    go_end0
    exact ⟨rfl, Z.out⟩
  · cases line
    · clear h hok hj
      go_enter Tryd.func81, Tryd.ntmps81
      go_wp2_with fail
      go_end0
      exact ⟨rfl, Z.out⟩
    · clear h hok hj
      go_enter Tryd.func81, Tryd.ntmps81
      go_wp2_with fail
      refine (rest_any _ p _ _ Z.out.1).mono ?_
      rintro e' w1 ⟨rfl, hz⟩
      have Z1 := Lib.hid (Z.out.then_ hz HT.out)
      clear hz
      go_wp2_with fail
      go_end0
      exact ⟨rfl, Z1.out⟩
  · clear h hok hj
    go_enter Tryd.func81, Tryd.ntmps81
    go_wp2_with fail
    refine (goOn_any _ p _ _ 5 n 4 line wp Z.out.1 HO.out HJ.out hn (by decide) (by decide)).mono ?_
    rintro e' w1 ⟨rfl, hz⟩
    have Z1 := Lib.hid (Z.out.then_ hz HT.out)
    clear hz
    go_wp2_with fail
    go_end0
    exact ⟨rfl, Z1.out⟩
end Go.Proofs.YtfcdlnpfneinlaaDoor
