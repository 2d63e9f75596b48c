/-
  THE WALK OF (*Chip).Step.
-/
import Derived.Test.YtfcdlnpfneinlaaDoorEAck
import Derived.Test.YtfcdlnpfneinlaaDoorEWrite
namespace Go.Proofs.YtfcdlnpfneinlaaDoor
open Go.RowKit
set_option maxRecDepth 20000

set_option maxHeartbeats 4000000 in
theorem idle_any (w : World) (p : Nat) (F : Nat → Prop) (s : Chip) (e : Int) (line wp : Bool) (h : ChipAt w p F s) : Calls Tryd.prog 57 #[.pointer (some ⟨p, 0, none⟩), nowV e line wp] w (Did p F s w) := by
  have Z := Lib.hid (h.went.box h.tab (.cells #[.int .i64 e, .bool line, .bool wp] 72))
  clear h
  unfold nowV
  go_enter Tryd.func57, Tryd.ntmps57
  go_wp2_with fail
  go_end0
  exact ⟨rfl, Z.out⟩
theorem callFunc_any (k : Nat) (args : Array Value) (w : World) : (callFunc (fnum k) args).run Tryd.prog w = .ok (.enter (fnum k) args) w := by
  unfold fnum
  split <;> rfl
/-- whatever the chip does next -/
theorem run_any (w : World) (p : Nat) (F : Nat → Prop) (s : Chip) (n e : Int) (line wp : Bool) (h : ChipAt w p F s) (hok : s.Ok n) (hj : s.join = false) (hn : n ≤ 1000000) (he : e = 2 ∨ e = 3 ∨ e = 4) :
    Calls Tryd.prog (fnum s.nx) #[.pointer (some ⟨p, 0, none⟩), nowV e line wp] w (Did p F (s.run e line wp) w) := by
  have hx := hok.nx
  have : s.nx = 0 ∨ s.nx = 1 ∨ s.nx = 2 ∨ s.nx = 3 ∨ s.nx = 4 ∨ s.nx = 5 ∨ s.nx = 6 := by omega
  rcases this with hx | hx | hx | hx | hx | hx | hx <;> unfold Chip.run <;> rw [hx]
  · exact idle_any w p F s e line wp h
  · exact device_any w p F s n e line wp h hok hn he
  · exact addr_any w p F s n e line wp h hok hx hn he
  · exact dat_any w p F s n e line wp h hok hj hn he
  · exact acked_any w p F s n e line wp h hok hx hj hn he
  · exact send_any w p F s n e line wp h hok hn he
  · exact await_any w p F s n e line wp h hok hj hn he
/-- the lines have gone on -/
theorem ChipIn.goes {w w' : World} {p d cap l : Nat} {cm wm : Option Nat} {F : Nat → Prop} {s : Chip} {x : Lev} (h : ChipIn w p d cap l cm wm F s) (hw : WireAt w' l x) (hk : Keeps (fun b => b = l) w w') : Went p F { s with lev := x } w w' := by
  have hF : Keeps F w w' := hk.mono fun b e => by rw [e]; exact h.fl
  have he : ∀ b, b < w.heap.size → b ≠ l → w'.heap[b]? = w.heap[b]? := fun b hb hn => hk.block b hb hn
  refine Went.of h.tab ⟨d, cap, l, cm, wm, { h with blk := ?_, data := ?_, line := hw, coll := ?_, wait := ?_, tab := tab_keeps h.tab hF h.ft, there := fun b hb => Nat.lt_of_lt_of_le (h.there b hb) hk.size }⟩ hF
  · exact h.blk.of_eq (he _ h.blk.lt (Blk.ne_ h.line h.blk (by decide)).symm)
  · exact h.data.same fun g hg => by
      simp [Value.ownBlock] at hg
      subst hg
      obtain ⟨cur, hc⟩ := h.d_blk
      exact he _ (h.there _ h.fd) (Blk.ne_ hc h.line (by decide))
  · exact h.coll.keep fun b hb => he b (h.coll.lt hb) (by obtain ⟨es, clock, h1⟩ := h.coll.blk hb; exact not_blk h.line h1)
  · exact h.wait.keep fun b hb => he b (h.wait.lt hb) (by obtain ⟨es, clock, h1⟩ := h.wait.blk hb; exact not_blk h.line h1)

theorem event1 (s : Chip) (line wp : Bool) : s.event 1 line wp = s.turn 1 := by simp [Chip.event]
theorem event2 (s : Chip) (line wp : Bool) : s.event 2 line wp = (s.run 2 line wp).rest := by simp [Chip.event]
theorem event3 (s : Chip) (line wp : Bool) : s.event 3 line wp = s.run 3 line wp := by simp [Chip.event]
theorem event4 (s : Chip) (line wp : Bool) : s.event 4 line wp = s.run 4 line wp := by simp [Chip.event]
theorem event0 (s : Chip) (line wp : Bool) : s.event 0 line wp = s := by simp [Chip.event]
theorem out_true (s : Chip) : s.out true = !s.pulls := by simp [Chip.out]
theorem out_false (s : Chip) : s.out false = false := by simp [Chip.out]
set_option maxRecDepth 100000 in
set_option maxHeartbeats 4000000 in
theorem chipStep_any (w : World) (p : Nat) (F : Nat → Prop) (s : Chip) (n : Int) (scl sda wp : Bool) (h : ChipAt w p F s) (hok : s.Ok n) (hj : s.join = false) (hn : n ≤ 1000000) :
    Calls Tryd.prog 15 #[.pointer (some ⟨p, 0, none⟩), .bool scl, .bool sda, .bool wp] w fun e' w' => e' = .returned (.bool ((s.step scl sda wp).out sda)) ∧ Went p F (s.step scl sda wp) w w' := by
  have HT := Lib.hid h.tab
  have hcf := callFunc_any
  have HH := Lib.hid h
  have HO := Lib.hid hok
  have HO1 := Lib.hid hok.write
  have HJ1 := Lib.hid ((Chip.write_join s).trans hj)
  obtain ⟨s1, hs1⟩ : ∃ s1, s.write = s1 := ⟨_, rfl⟩
  obtain ⟨line, hline⟩ : ∃ line, (sda && !s1.pulls) = line := ⟨_, rfl⟩
  have HS := Lib.hid (show s.step scl sda wp = ({ s1 with lev := (scl, line) } : Chip).event (tell s1.lev (scl, line)) line wp by unfold Chip.step; simp only [hs1, hline])
  rw [hs1] at HO1 HJ1
  have HW := Lib.hid hs1
  clear h hok hj hs1
  cases sda
  · have hl0 : line = false := by simpa using hline.symm
    subst hl0
    clear hline
    go_enter Tryd.func15, Tryd.ntmps15
    go_wp2_with fail
    refine (write_any w p F s n HH.out HO.out).mono ?_
    rintro e' w1 ⟨rfl, hz⟩
    rw [HW.out] at hz
    have Z1 := Lib.hid hz
    obtain ⟨d, cap, l, cm, wm, hin⟩ := hz.1
    have HI := Lib.hid hin
    have c2 := hin.blk.cell 2
    simp only [cellsOf, List.getElem?_toArray, List.getElem?_cons_zero, List.getElem?_cons_succ] at c2
    clear hz hin
    go_wp2_with fail
    refine (step_any _ l s1.lev (scl, false) HI.out.line).mono ?_
    rintro e' w2 ⟨rfl, hwl, hkl⟩
    have Z2 := Lib.hid (Z1.out.then_ (HI.out.goes hwl hkl) HT.out)
    clear hwl hkl c2
    obtain ⟨e, hte⟩ : ∃ e, tell s1.lev (scl, false) = e := ⟨_, rfl⟩
    have hti := tell_in s1.lev (scl, false)
    have hs2 := HS.out
    rw [hte] at hti hs2 ⊢
    have HS2 := Lib.hid hs2
    clear hte hs2
    rcases hti with rfl | rfl | rfl | rfl | rfl
    · have HR := Lib.hid (HS2.out.trans (event0 _ _ _))
      have Z3 := Lib.hid (Z2.out.box HT.out (.cells #[.int .i64 0, .bool false, .bool wp] 72))
      go_wp2_with fail
      go_ret
      rw [HR.out, out_false]
      exact ⟨rfl, Z3.out⟩
    · have HR := Lib.hid (HS2.out.trans (event1 _ _ _))
      have Z3 := Lib.hid (Z2.out.box HT.out (.cells #[.int .i64 1, .bool false, .bool wp] 72))
      go_wp2_with fail
      refine (turn_any _ p _ _ 1 Z3.out.1).mono ?_
      rintro e' w3 ⟨rfl, hz⟩
      have Z4 := Lib.hid (Z3.out.then_ hz HT.out)
      clear hz
      go_wp2_with fail
      go_ret
      rw [HR.out, out_false]
      exact ⟨rfl, Z4.out⟩
    · have HR := Lib.hid (HS2.out.trans (event2 _ _ _))
      have Z3 := Lib.hid ((Z2.out.box HT.out (.cells #[.int .i64 2, .bool false, .bool wp] 72)).calm (below_drew _) HT.out)
      obtain ⟨d3, cap3, l3, cm3, wm3, hin3⟩ := Z2.out.1
      have c4 := hin3.blk.cell 4
      have hlt := hin3.blk.lt
      have hne : w2.heap.size ≠ p := by omega
      simp only [cellsOf, List.getElem?_toArray, List.getElem?_cons_zero, List.getElem?_cons_succ] at c4
      unfold fnV at c4
      clear hin3
      go_wp2_with fail
      go_region_with (refine (run_any _ p _ { s1 with lev := (scl, false) } n 2 false wp Z3.out.1 { HO1.out with } HJ1.out hn (by decide)).mono ?_; rintro e' w3 ⟨rfl, hz⟩)
      all_goals
        have Z4 := Lib.hid (Z3.out.then_ hz HT.out)
        clear hz c4 hne
        go_wp2_with fail
        refine (rest_any _ p _ _ Z4.out.1).mono ?_
        rintro e' w4 ⟨rfl, hz⟩
        have Z5 := Lib.hid (Z4.out.then_ hz HT.out)
        clear hz
        go_wp2_with fail
        go_ret
        rw [HR.out, out_false]
        exact ⟨rfl, Z5.out⟩
    · have HR := Lib.hid (HS2.out.trans (event3 _ _ _))
      have Z3 := Lib.hid ((Z2.out.box HT.out (.cells #[.int .i64 3, .bool false, .bool wp] 72)).calm (below_drew _) HT.out)
      obtain ⟨d3, cap3, l3, cm3, wm3, hin3⟩ := Z2.out.1
      have c4 := hin3.blk.cell 4
      have hlt := hin3.blk.lt
      have hne : w2.heap.size ≠ p := by omega
      simp only [cellsOf, List.getElem?_toArray, List.getElem?_cons_zero, List.getElem?_cons_succ] at c4
      unfold fnV at c4
      clear hin3
      go_wp2_with fail
      go_region_with (refine (run_any _ p _ { s1 with lev := (scl, false) } n 3 false wp Z3.out.1 { HO1.out with } HJ1.out hn (by decide)).mono ?_; rintro e' w3 ⟨rfl, hz⟩)
      all_goals
        have Z4 := Lib.hid (Z3.out.then_ hz HT.out)
        clear hz c4 hne
        go_wp2_with fail
        go_ret
        rw [HR.out, out_false]
        exact ⟨rfl, Z4.out⟩
    · have HR := Lib.hid (HS2.out.trans (event4 _ _ _))
      have Z3 := Lib.hid ((Z2.out.box HT.out (.cells #[.int .i64 4, .bool false, .bool wp] 72)).calm (below_drew _) HT.out)
      obtain ⟨d3, cap3, l3, cm3, wm3, hin3⟩ := Z2.out.1
      have c4 := hin3.blk.cell 4
      have hlt := hin3.blk.lt
      have hne : w2.heap.size ≠ p := by omega
      simp only [cellsOf, List.getElem?_toArray, List.getElem?_cons_zero, List.getElem?_cons_succ] at c4
      unfold fnV at c4
      clear hin3
      go_wp2_with fail
      go_region_with (refine (run_any _ p _ { s1 with lev := (scl, false) } n 4 false wp Z3.out.1 { HO1.out with } HJ1.out hn (by decide)).mono ?_; rintro e' w3 ⟨rfl, hz⟩)
      all_goals
        have Z4 := Lib.hid (Z3.out.then_ hz HT.out)
        clear hz c4 hne
        go_wp2_with fail
        go_ret
        rw [HR.out, out_false]
        exact ⟨rfl, Z4.out⟩
  · obtain ⟨q, hq⟩ : ∃ q, s1.pulls = q := ⟨_, rfl⟩
    have HQ := Lib.hid hq
    rw [hq] at hline
    clear hq
    cases q
    · have hl0 : line = true := by simpa using hline.symm
      subst hl0
      clear hline
      go_enter Tryd.func15, Tryd.ntmps15
      go_wp2_with fail
      refine (write_any w p F s n HH.out HO.out).mono ?_
      rintro e' w1 ⟨rfl, hz⟩
      rw [HW.out] at hz
      have Z1 := Lib.hid hz
      obtain ⟨d, cap, l, cm, wm, hin⟩ := hz.1
      have HI := Lib.hid hin
      have c2 := hin.blk.cell 2
      have c3 := hin.blk.cell 3
      simp only [cellsOf, List.getElem?_toArray, List.getElem?_cons_zero, List.getElem?_cons_succ] at c2 c3
      rw [HQ.out] at c3
      clear hz hin
      go_wp2_with fail
      refine (step_any _ l s1.lev (scl, true) HI.out.line).mono ?_
      rintro e' w2 ⟨rfl, hwl, hkl⟩
      have Z2 := Lib.hid (Z1.out.then_ (HI.out.goes hwl hkl) HT.out)
      clear hwl hkl c2 c3
      obtain ⟨e, hte⟩ : ∃ e, tell s1.lev (scl, true) = e := ⟨_, rfl⟩
      have hti := tell_in s1.lev (scl, true)
      have hs2 := HS.out
      rw [hte] at hti hs2 ⊢
      have HS2 := Lib.hid hs2
      clear hte hs2
      rcases hti with rfl | rfl | rfl | rfl | rfl
      · have HR := Lib.hid (HS2.out.trans (event0 _ _ _))
        have Z3 := Lib.hid (Z2.out.box HT.out (.cells #[.int .i64 0, .bool true, .bool wp] 72))
        obtain ⟨d9, cap9, l9, cm9, wm9, hin9⟩ := Z3.out.1
        have c3 := hin9.blk.cell 3
        simp only [cellsOf, List.getElem?_toArray, List.getElem?_cons_zero, List.getElem?_cons_succ] at c3
        clear hin9
        go_wp2_with fail
        go_ret
        rw [HR.out, out_true]
        exact ⟨rfl, Z3.out⟩
      · have HR := Lib.hid (HS2.out.trans (event1 _ _ _))
        have Z3 := Lib.hid (Z2.out.box HT.out (.cells #[.int .i64 1, .bool true, .bool wp] 72))
        go_wp2_with fail
        refine (turn_any _ p _ _ 1 Z3.out.1).mono ?_
        rintro e' w3 ⟨rfl, hz⟩
        have Z4 := Lib.hid (Z3.out.then_ hz HT.out)
        clear hz
        obtain ⟨d9, cap9, l9, cm9, wm9, hin9⟩ := Z4.out.1
        have c3 := hin9.blk.cell 3
        simp only [cellsOf, List.getElem?_toArray, List.getElem?_cons_zero, List.getElem?_cons_succ] at c3
        clear hin9
        go_wp2_with fail
        go_ret
        rw [HR.out, out_true]
        exact ⟨rfl, Z4.out⟩
      · have HR := Lib.hid (HS2.out.trans (event2 _ _ _))
        have Z3 := Lib.hid ((Z2.out.box HT.out (.cells #[.int .i64 2, .bool true, .bool wp] 72)).calm (below_drew _) HT.out)
        obtain ⟨d3, cap3, l3, cm3, wm3, hin3⟩ := Z2.out.1
        have c4 := hin3.blk.cell 4
        have hlt := hin3.blk.lt
        have hne : w2.heap.size ≠ p := by omega
        simp only [cellsOf, List.getElem?_toArray, List.getElem?_cons_zero, List.getElem?_cons_succ] at c4
        unfold fnV at c4
        clear hin3
        go_wp2_with fail
        go_region_with (refine (run_any _ p _ { s1 with lev := (scl, true) } n 2 true wp Z3.out.1 { HO1.out with } HJ1.out hn (by decide)).mono ?_; rintro e' w3 ⟨rfl, hz⟩)
        all_goals
          have Z4 := Lib.hid (Z3.out.then_ hz HT.out)
          clear hz c4 hne
          go_wp2_with fail
          refine (rest_any _ p _ _ Z4.out.1).mono ?_
          rintro e' w4 ⟨rfl, hz⟩
          have Z5 := Lib.hid (Z4.out.then_ hz HT.out)
          clear hz
          obtain ⟨d9, cap9, l9, cm9, wm9, hin9⟩ := Z5.out.1
          have c3 := hin9.blk.cell 3
          simp only [cellsOf, List.getElem?_toArray, List.getElem?_cons_zero, List.getElem?_cons_succ] at c3
          clear hin9
          go_wp2_with fail
          go_ret
          rw [HR.out, out_true]
          exact ⟨rfl, Z5.out⟩
      · have HR := Lib.hid (HS2.out.trans (event3 _ _ _))
        have Z3 := Lib.hid ((Z2.out.box HT.out (.cells #[.int .i64 3, .bool true, .bool wp] 72)).calm (below_drew _) HT.out)
        obtain ⟨d3, cap3, l3, cm3, wm3, hin3⟩ := Z2.out.1
        have c4 := hin3.blk.cell 4
        have hlt := hin3.blk.lt
        have hne : w2.heap.size ≠ p := by omega
        simp only [cellsOf, List.getElem?_toArray, List.getElem?_cons_zero, List.getElem?_cons_succ] at c4
        unfold fnV at c4
        clear hin3
        go_wp2_with fail
        go_region_with (refine (run_any _ p _ { s1 with lev := (scl, true) } n 3 true wp Z3.out.1 { HO1.out with } HJ1.out hn (by decide)).mono ?_; rintro e' w3 ⟨rfl, hz⟩)
        all_goals
          have Z4 := Lib.hid (Z3.out.then_ hz HT.out)
          clear hz c4 hne
          obtain ⟨d9, cap9, l9, cm9, wm9, hin9⟩ := Z4.out.1
          have c3 := hin9.blk.cell 3
          simp only [cellsOf, List.getElem?_toArray, List.getElem?_cons_zero, List.getElem?_cons_succ] at c3
          clear hin9
          go_wp2_with fail
          go_ret
          rw [HR.out, out_true]
          exact ⟨rfl, Z4.out⟩
      · have HR := Lib.hid (HS2.out.trans (event4 _ _ _))
        have Z3 := Lib.hid ((Z2.out.box HT.out (.cells #[.int .i64 4, .bool true, .bool wp] 72)).calm (below_drew _) HT.out)
        obtain ⟨d3, cap3, l3, cm3, wm3, hin3⟩ := Z2.out.1
        have c4 := hin3.blk.cell 4
        have hlt := hin3.blk.lt
        have hne : w2.heap.size ≠ p := by omega
        simp only [cellsOf, List.getElem?_toArray, List.getElem?_cons_zero, List.getElem?_cons_succ] at c4
        unfold fnV at c4
        clear hin3
        go_wp2_with fail
        go_region_with (refine (run_any _ p _ { s1 with lev := (scl, true) } n 4 true wp Z3.out.1 { HO1.out with } HJ1.out hn (by decide)).mono ?_; rintro e' w3 ⟨rfl, hz⟩)
        all_goals
          have Z4 := Lib.hid (Z3.out.then_ hz HT.out)
          clear hz c4 hne
          obtain ⟨d9, cap9, l9, cm9, wm9, hin9⟩ := Z4.out.1
          have c3 := hin9.blk.cell 3
          simp only [cellsOf, List.getElem?_toArray, List.getElem?_cons_zero, List.getElem?_cons_succ] at c3
          clear hin9
          go_wp2_with fail
          go_ret
          rw [HR.out, out_true]
          exact ⟨rfl, Z4.out⟩
    · have hl0 : line = false := by simpa using hline.symm
      subst hl0
      clear hline
      go_enter Tryd.func15, Tryd.ntmps15
      go_wp2_with fail
      refine (write_any w p F s n HH.out HO.out).mono ?_
      rintro e' w1 ⟨rfl, hz⟩
      rw [HW.out] at hz
      have Z1 := Lib.hid hz
      obtain ⟨d, cap, l, cm, wm, hin⟩ := hz.1
      have HI := Lib.hid hin
      have c2 := hin.blk.cell 2
      have c3 := hin.blk.cell 3
      simp only [cellsOf, List.getElem?_toArray, List.getElem?_cons_zero, List.getElem?_cons_succ] at c2 c3
      rw [HQ.out] at c3
      clear hz hin
      go_wp2_with fail
      refine (step_any _ l s1.lev (scl, false) HI.out.line).mono ?_
      rintro e' w2 ⟨rfl, hwl, hkl⟩
      have Z2 := Lib.hid (Z1.out.then_ (HI.out.goes hwl hkl) HT.out)
      clear hwl hkl c2 c3
      obtain ⟨e, hte⟩ : ∃ e, tell s1.lev (scl, false) = e := ⟨_, rfl⟩
      have hti := tell_in s1.lev (scl, false)
      have hs2 := HS.out
      rw [hte] at hti hs2 ⊢
      have HS2 := Lib.hid hs2
      clear hte hs2
      rcases hti with rfl | rfl | rfl | rfl | rfl
      · have HR := Lib.hid (HS2.out.trans (event0 _ _ _))
        have Z3 := Lib.hid (Z2.out.box HT.out (.cells #[.int .i64 0, .bool false, .bool wp] 72))
        obtain ⟨d9, cap9, l9, cm9, wm9, hin9⟩ := Z3.out.1
        have c3 := hin9.blk.cell 3
        simp only [cellsOf, List.getElem?_toArray, List.getElem?_cons_zero, List.getElem?_cons_succ] at c3
        clear hin9
        go_wp2_with fail
        go_ret
        rw [HR.out, out_true]
        exact ⟨rfl, Z3.out⟩
      · have HR := Lib.hid (HS2.out.trans (event1 _ _ _))
        have Z3 := Lib.hid (Z2.out.box HT.out (.cells #[.int .i64 1, .bool false, .bool wp] 72))
        go_wp2_with fail
        refine (turn_any _ p _ _ 1 Z3.out.1).mono ?_
        rintro e' w3 ⟨rfl, hz⟩
        have Z4 := Lib.hid (Z3.out.then_ hz HT.out)
        clear hz
        obtain ⟨d9, cap9, l9, cm9, wm9, hin9⟩ := Z4.out.1
        have c3 := hin9.blk.cell 3
        simp only [cellsOf, List.getElem?_toArray, List.getElem?_cons_zero, List.getElem?_cons_succ] at c3
        clear hin9
        go_wp2_with fail
        go_ret
        rw [HR.out, out_true]
        exact ⟨rfl, Z4.out⟩
      · have HR := Lib.hid (HS2.out.trans (event2 _ _ _))
        have Z3 := Lib.hid ((Z2.out.box HT.out (.cells #[.int .i64 2, .bool false, .bool wp] 72)).calm (below_drew _) HT.out)
        obtain ⟨d3, cap3, l3, cm3, wm3, hin3⟩ := Z2.out.1
        have c4 := hin3.blk.cell 4
        have hlt := hin3.blk.lt
        have hne : w2.heap.size ≠ p := by omega
        simp only [cellsOf, List.getElem?_toArray, List.getElem?_cons_zero, List.getElem?_cons_succ] at c4
        unfold fnV at c4
        clear hin3
        go_wp2_with fail
        go_region_with (refine (run_any _ p _ { s1 with lev := (scl, false) } n 2 false wp Z3.out.1 { HO1.out with } HJ1.out hn (by decide)).mono ?_; rintro e' w3 ⟨rfl, hz⟩)
        all_goals
          have Z4 := Lib.hid (Z3.out.then_ hz HT.out)
          clear hz c4 hne
          go_wp2_with fail
          refine (rest_any _ p _ _ Z4.out.1).mono ?_
          rintro e' w4 ⟨rfl, hz⟩
          have Z5 := Lib.hid (Z4.out.then_ hz HT.out)
          clear hz
          obtain ⟨d9, cap9, l9, cm9, wm9, hin9⟩ := Z5.out.1
          have c3 := hin9.blk.cell 3
          simp only [cellsOf, List.getElem?_toArray, List.getElem?_cons_zero, List.getElem?_cons_succ] at c3
          clear hin9
          go_wp2_with fail
          go_ret
          rw [HR.out, out_true]
          exact ⟨rfl, Z5.out⟩
      · have HR := Lib.hid (HS2.out.trans (event3 _ _ _))
        have Z3 := Lib.hid ((Z2.out.box HT.out (.cells #[.int .i64 3, .bool false, .bool wp] 72)).calm (below_drew _) HT.out)
        obtain ⟨d3, cap3, l3, cm3, wm3, hin3⟩ := Z2.out.1
        have c4 := hin3.blk.cell 4
        have hlt := hin3.blk.lt
        have hne : w2.heap.size ≠ p := by omega
        simp only [cellsOf, List.getElem?_toArray, List.getElem?_cons_zero, List.getElem?_cons_succ] at c4
        unfold fnV at c4
        clear hin3
        go_wp2_with fail
        go_region_with (refine (run_any _ p _ { s1 with lev := (scl, false) } n 3 false wp Z3.out.1 { HO1.out with } HJ1.out hn (by decide)).mono ?_; rintro e' w3 ⟨rfl, hz⟩)
        all_goals
          have Z4 := Lib.hid (Z3.out.then_ hz HT.out)
          clear hz c4 hne
          obtain ⟨d9, cap9, l9, cm9, wm9, hin9⟩ := Z4.out.1
          have c3 := hin9.blk.cell 3
          simp only [cellsOf, List.getElem?_toArray, List.getElem?_cons_zero, List.getElem?_cons_succ] at c3
          clear hin9
          go_wp2_with fail
          go_ret
          rw [HR.out, out_true]
          exact ⟨rfl, Z4.out⟩
      · have HR := Lib.hid (HS2.out.trans (event4 _ _ _))
        have Z3 := Lib.hid ((Z2.out.box HT.out (.cells #[.int .i64 4, .bool false, .bool wp] 72)).calm (below_drew _) HT.out)
        obtain ⟨d3, cap3, l3, cm3, wm3, hin3⟩ := Z2.out.1
        have c4 := hin3.blk.cell 4
        have hlt := hin3.blk.lt
        have hne : w2.heap.size ≠ p := by omega
        simp only [cellsOf, List.getElem?_toArray, List.getElem?_cons_zero, List.getElem?_cons_succ] at c4
        unfold fnV at c4
        clear hin3
        go_wp2_with fail
        go_region_with (refine (run_any _ p _ { s1 with lev := (scl, false) } n 4 false wp Z3.out.1 { HO1.out with } HJ1.out hn (by decide)).mono ?_; rintro e' w3 ⟨rfl, hz⟩)
        all_goals
          have Z4 := Lib.hid (Z3.out.then_ hz HT.out)
          clear hz c4 hne
          obtain ⟨d9, cap9, l9, cm9, wm9, hin9⟩ := Z4.out.1
          have c3 := hin9.blk.cell 3
          simp only [cellsOf, List.getElem?_toArray, List.getElem?_cons_zero, List.getElem?_cons_succ] at c3
          clear hin9
          go_wp2_with fail
          go_ret
          rw [HR.out, out_true]
          exact ⟨rfl, Z4.out⟩
end Go.Proofs.YtfcdlnpfneinlaaDoor
