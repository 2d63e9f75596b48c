/-
  THE WALKS OF command, exactly$1, Write.
-/
import Derived.Test.YtojdbmkbcjaikaaFStep
namespace Go.Proofs.Ytojdbmkbcjaikaa
open Go.RowKit
set_option maxRecDepth 20000

theorem Held.next {w : World} {p d cap : Nat} {nx : Value} {s : Flash} (h : Held w p d cap nx s) (k : Nat) : Held w p d cap nx { s with k := k } := ⟨h.blk, h.data, h.big⟩
theorem StepAt.two (w : World) : StepAt w 2 cmdV := rfl
theorem StepAt.three (w : World) : StepAt w 3 progV := rfl
theorem StepAt.four {w : World} {V : Value} (h : KeyOf w eraseV V) : StepAt w 4 V := h
set_option maxHeartbeats 4000000 in
theorem command_any (w : World) (p d cap : Nat) (nx : Value) (s : Flash) (a v : Int) (h : Held w p d cap nx s) (ha : 0 ≤ a ∧ a ≤ 1000000) :
    Calls Try.prog 51 #[.pointer (some ⟨p, 0, none⟩), .int .i64 a, .int .u8 v] w (Nexts p d cap nx (s.command a v) w) := by
  have H := Lib.hid h
  obtain ⟨ha0, ha1⟩ := ha
  by_cases hl : a % 256 = 85
  · have hl' : (a % 256 != 85) = false := by simp [hl]
    by_cases e1 : v = 160
    · subst e1
      have HE := Lib.hid (show s.command a 160 = { s with k := 3 } by unfold Flash.command; rw [if_pos hl, if_pos rfl])
      clear h
      go_enter Try.func51, Try.ntmps51
      go_wp2_with fail
      go_ret
      rw [HE.out]
      exact ⟨_, rfl, StepAt.three w, H.out.next 3, Keeps.refl _ _⟩
    · have e1' : (v == 160) = false := by simp [e1]
      by_cases e2 : v = 128
      · subst e2
        have HE := Lib.hid (show s.command a 128 = { s with k := 4 } by unfold Flash.command; rw [if_pos hl, if_neg (by decide), if_pos rfl])
        clear h e1 e1'
        go_enter Try.func51, Try.ntmps51
        go_wp2_with fail
        refine (key_any w _ _ _).mono ?_
        rintro e w1 ⟨V, rfl, h1, hb1⟩
        have H1 := Lib.hid h1
        have HB1 := Lib.hid hb1
        clear h1 hb1
        go_wp2_with fail
        go_ret
        rw [HE.out]
        exact ⟨_, rfl, StepAt.four H1.out, (H.out.next 4).below HB1.out, (Keeps.of_below HB1.out).no⟩
      · have e2' : (v == 128) = false := by simp [e2]
        by_cases e3 : v = 144
        · subst e3
          have HE := Lib.hid (show s.command a 144 = { s with k := 0, named := true } by unfold Flash.command; rw [if_pos hl, if_neg (by decide), if_neg (by decide), if_pos rfl])
          have f2 := h.blk.frozen 2
          have c2 := h.blk.cell 2
          simp only [cellsOf, List.getElem?_toArray, List.getElem?_cons_zero, List.getElem?_cons_succ] at c2
          obtain ⟨h1, h2⟩ := h.sets (nx' := nx) (s' := { s with k := 0, named := true }) [(2, .bool true)] rfl rfl
          have HS1 := Lib.hid h1
          have HS2 := Lib.hid h2
          clear h h1 h2 e1 e1' e2 e2'
          go_enter Try.func51, Try.ntmps51
          go_wp2_with fail
          refine (begin_any _).mono ?_
          rintro e w1 ⟨V, rfl, h3, hb⟩
          have H3 := Lib.hid h3
          have HB := Lib.hid hb
          clear h3 hb
          go_wp2_with fail
          go_ret
          rw [HE.out]
          exact ⟨_, rfl, H3.out, HS1.out.below HB.out, HS2.out.trans (Keeps.of_below HB.out).no⟩
        · have e3' : (v == 144) = false := by simp [e3]
          have HE := Lib.hid (show s.command a v = s.ends v by unfold Flash.command; rw [if_pos hl, if_neg e1, if_neg e2, if_neg e3])
          clear h e1 e2 e3
          go_enter Try.func51, Try.ntmps51
          go_wp2_with fail
          refine (end_any w p d cap nx s v H.out).mono ?_
          rintro e w1 ⟨V, rfl, h1, h2, h3⟩
          have H1 := Lib.hid h1
          have H2 := Lib.hid h2
          have H3 := Lib.hid h3
          clear h1 h2 h3
          go_wp2_with fail
          go_ret
          rw [HE.out]
          exact ⟨_, rfl, H1.out, H2.out, H3.out⟩
  · have hl' : (a % 256 != 85) = true := by simp [hl]
    have HE := Lib.hid (show s.command a v = s.ends v by unfold Flash.command; rw [if_neg hl])
    clear h hl
    go_enter Try.func51, Try.ntmps51
    go_wp2_with fail
    refine (end_any w p d cap nx s v H.out).mono ?_
    rintro e w1 ⟨V, rfl, h1, h2, h3⟩
    have H1 := Lib.hid h1
    have H2 := Lib.hid h2
    have H3 := Lib.hid h3
    clear h1 h2 h3
    go_wp2_with fail
    go_ret
    rw [HE.out]
    exact ⟨_, rfl, H1.out, H2.out, H3.out⟩
set_option maxHeartbeats 4000000 in
theorem exact_yes (w : World) (p : Nat) (a v low val : Int) (x y z : Nat) (fn : Fn) (fi cs : Array Value) (ha : 0 ≤ a ∧ a ≤ 1000000) (e : a % 256 = low ∧ v = val)
    (hx : Blk w x 5 #[.int .u8 low]) (hy : Blk w y 5 #[.int .u8 val]) (hz : Blk w z 65 #[.func fn fi cs]) :
    Calls Try.prog 62 #[.pointer (some ⟨p, 0, none⟩), .int .i64 a, .int .u8 v, ptrV x, ptrV y, ptrV z] w fun e w' => e = .returned (.func fn fi cs) ∧ w = w' := by
  obtain ⟨ha0, ha1⟩ := ha
  have c1 := hx.cell 0
  have c2 := hy.cell 0
  have c3 := hz.cell 0
  simp only [List.getElem?_toArray, List.getElem?_cons_zero] at c1 c2 c3
  obtain ⟨e1, e2⟩ := e
  have e1' : (a % 256 == low) = true := by simp [e1]
  have e2' : (v == val) = true := by simp [e2]
  clear e1 e2 hx hy hz
  go_enter Try.func62, Try.ntmps62
  go_wp2_with fail
  go_ret
  exact ⟨rfl, rfl⟩
set_option maxHeartbeats 4000000 in
theorem exact_no (w : World) (p d cap : Nat) (nx : Value) (s : Flash) (a v low val : Int) (x y z : Nat) (h : Held w p d cap nx s) (ha : 0 ≤ a ∧ a ≤ 1000000) (e : ¬ (a % 256 = low ∧ v = val))
    (hx : Blk w x 5 #[.int .u8 low]) (hy : Blk w y 5 #[.int .u8 val]) :
    Calls Try.prog 62 #[.pointer (some ⟨p, 0, none⟩), .int .i64 a, .int .u8 v, ptrV x, ptrV y, ptrV z] w (Nexts p d cap nx (s.ends v) w) := by
  have H := Lib.hid h
  obtain ⟨ha0, ha1⟩ := ha
  have c1 := hx.cell 0
  have c2 := hy.cell 0
  simp only [List.getElem?_toArray, List.getElem?_cons_zero] at c1 c2
  clear h hx hy
  by_cases e1 : a % 256 = low
  · have e1' : (a % 256 == low) = true := by simp [e1]
    have e2' : (v == val) = false := by simp; exact fun e2 => e ⟨e1, e2⟩
    clear e e1
    go_enter Try.func62, Try.ntmps62
    go_wp2_with fail
    refine (end_any w p d cap nx s v H.out).mono ?_
    rintro e w1 ⟨V, rfl, h1, h2, h3⟩
    have H1 := Lib.hid h1
    have H2 := Lib.hid h2
    have H3 := Lib.hid h3
    clear h1 h2 h3
    go_wp2_with fail
    go_ret
    exact ⟨_, rfl, H1.out, H2.out, H3.out⟩
  · have e1' : (a % 256 == low) = false := by simp [e1]
    clear e e1
    go_enter Try.func62, Try.ntmps62
    go_wp2_with fail
    refine (end_any w p d cap nx s v H.out).mono ?_
    rintro e w1 ⟨V, rfl, h1, h2, h3⟩
    have H1 := Lib.hid h1
    have H2 := Lib.hid h2
    have H3 := Lib.hid h3
    clear h1 h2 h3
    go_wp2_with fail
    go_ret
    exact ⟨_, rfl, H1.out, H2.out, H3.out⟩
theorem address_any (w : World) (p d cap : Nat) (nx : Value) (s : Flash) (a : Int) (h : Held w p d cap nx s) :
    Calls Try.prog 38 #[.pointer (some ⟨p, 0, none⟩), .int .i64 a] w fun e w' => e = .returned (.int .i64 (s.place a)) ∧ w = w' := by
  have c0 := h.blk.cell 0
  have hb := h.big
  simp only [cellsOf, List.getElem?_toArray, List.getElem?_cons_zero] at c0
  unfold Flash.place Flash.size
  clear h
  go_enter Try.func38, Try.ntmps38
  go_wp2_with fail
  go_ret
  exact ⟨rfl, rfl⟩
end Go.Proofs.Ytojdbmkbcjaikaa
