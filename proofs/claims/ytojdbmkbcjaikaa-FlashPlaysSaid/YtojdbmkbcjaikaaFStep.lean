/-
  THE WALKS OF exactly, key, begin, end, beBusy, AND OF EACH STEP.
-/
import Derived.Test.YtojdbmkbcjaikaaFAt
namespace Go.Proofs.Ytojdbmkbcjaikaa
open Go.RowKit
set_option maxRecDepth 20000

theorem exactly_any (w : World) (low val : Int) (fn : Fn) (fi cs : Array Value) :
    Calls Try.prog 57 #[.int .u8 low, .int .u8 val, .func fn fi cs] w fun e w' => ∃ a b c, e = .returned (exactV a b c) ∧ Exact w' low val (· = .func fn fi cs) (exactV a b c) ∧ Below w.heap.size w w' := by
  have hmf : ∀ (fn : Fn) (first cap : Array Value) (w : World), (Instr.makeFunc fn first cap).run Try.prog w = .ok (.func fn first cap) w := fun _ _ _ _ => rfl
  go_enter Try.func57, Try.ntmps57
  go_wp2_with fail
  go_ret
  have b1 := below_box w (.cells #[.int .u8 low] 5)
  have b2 := below_box (w.alloc (.cells #[.int .u8 low] 5)) (.cells #[.int .u8 val] 5)
  have b3 := below_box ((w.alloc (.cells #[.int .u8 low] 5)).alloc (.cells #[.int .u8 val] 5)) (.cells #[.func fn fi cs] 65)
  have c1 := Blk.new w 5 #[.int .u8 low]
  have c2 := Blk.new (w.alloc (.cells #[.int .u8 low] 5)) 5 #[.int .u8 val]
  have c3 := Blk.new ((w.alloc (.cells #[.int .u8 low] 5)).alloc (.cells #[.int .u8 val] 5)) 65 #[.func fn fi cs]
  rw [World.size_alloc] at c2 b3
  rw [World.size_alloc, World.size_alloc] at c3
  exact ⟨_, _, _, rfl, ⟨_, _, _, _, rfl, (c1.of_eq (b2.block _ (by simp))).of_eq (b3.block _ (by simp; omega)), c2.of_eq (b3.block _ (by simp)), c3, rfl⟩, b1.trans ((b2.mono (by simp)).trans (b3.mono (by simp; omega)))⟩
theorem key_any (w : World) (fn : Fn) (fi cs : Array Value) :
    Calls Try.prog 50 #[.func fn fi cs] w fun e w' => ∃ V, e = .returned V ∧ KeyOf w' (.func fn fi cs) V ∧ Below w.heap.size w w' := by
  go_enter Try.func50, Try.ntmps50
  go_wp2_with fail
  refine (exactly_any w 170 85 fn fi cs).mono ?_
  rintro e w1 ⟨a, b, c, rfl, h1, hb1⟩
  have H1 := Lib.hid h1
  have HB1 := Lib.hid hb1
  clear h1 hb1
  go_wp2_with fail
  refine (exactly_any w1 85 170 _ _ _).mono ?_
  rintro e w2 ⟨a2, b2, c2, rfl, h2, hb2⟩
  have H2 := Lib.hid h2
  have HB2 := Lib.hid hb2
  clear h2 hb2
  go_wp2_with fail
  go_ret
  refine ⟨_, rfl, ?_, HB1.out.trans (HB2.out.mono HB1.out.size)⟩
  exact Exact.keep H2.out (Keeps.refl No w2) (fun _ h => h.elim) fun v hv => by rw [hv]; exact Exact.keep H1.out (Keeps.of_below HB2.out) (fun _ h => h.elim) fun _ h => h
theorem begin_any (w : World) :
    Calls Try.prog 37 #[] w fun e w' => ∃ V, e = .returned V ∧ StepAt w' 0 V ∧ Below w.heap.size w w' := by
  go_enter Try.func37, Try.ntmps37
  go_wp2_with fail
  refine (key_any w _ _ _).mono ?_
  rintro e w1 ⟨V, rfl, h1, hb1⟩
  have H1 := Lib.hid h1
  have HB1 := Lib.hid hb1
  clear h1 hb1
  go_wp2_with fail
  go_ret
  exact ⟨_, rfl, H1.out, HB1.out⟩
theorem StepAt.zero {w : World} {k : Nat} {V : Value} (h : StepAt w 0 V) (hk : k = 0) : StepAt w k V := by rw [hk]; exact h

set_option maxHeartbeats 2000000 in
theorem end_any (w : World) (p d cap : Nat) (nx : Value) (s : Flash) (v : Int) (h : Held w p d cap nx s) :
    Calls Try.prog 58 #[.pointer (some ⟨p, 0, none⟩), .int .u8 v] w (Nexts p d cap nx (s.ends v) w) := by
  have H := Lib.hid h
  have f2 := h.blk.frozen 2
  have c2 := h.blk.cell 2
  simp only [cellsOf, List.getElem?_toArray, List.getElem?_cons_zero, List.getElem?_cons_succ] at c2
  clear h
  by_cases hv : v = 240
  · subst hv
    have hs := H.out.sets (nx' := nx) (s' := s.ends 240) [(2, .bool false)] rfl rfl
    obtain ⟨h1, h2⟩ := hs
    have H1 := Lib.hid h1
    have H2 := Lib.hid h2
    clear h1 h2
    go_enter Try.func58, Try.ntmps58
    go_wp2_with fail
    refine (begin_any _).mono ?_
    rintro e w1 ⟨V, rfl, h3, hb⟩
    have H3 := Lib.hid h3
    have HB := Lib.hid hb
    clear h3 hb
    go_wp2_with fail
    go_ret
    exact ⟨_, rfl, H3.out, H1.out.below HB.out, H2.out.trans (Keeps.of_below HB.out).no⟩
  · have hv' : (v == 240) = false := by simp [hv]
    have HE := Lib.hid (show Held w p d cap nx (s.ends v) from { blk := by have := H.out.blk; unfold Flash.ends cellsOf; rw [if_neg hv]; exact this, data := H.out.data, big := H.out.big })
    clear c2 f2 hv
    go_enter Try.func58, Try.ntmps58
    go_wp2_with fail
    refine (begin_any _).mono ?_
    rintro e w1 ⟨V, rfl, h3, hb⟩
    have H3 := Lib.hid h3
    have HB := Lib.hid hb
    clear h3 hb
    go_wp2_with fail
    go_ret
    exact ⟨_, rfl, H3.out, HE.out.below HB.out, (Keeps.of_below HB.out).no⟩
set_option maxHeartbeats 4000000 in
theorem busy_any (w : World) (p d cap : Nat) (nx : Value) (s : Flash) (t kind a many v : Int) (h : Held w p d cap nx s) :
    Calls Try.prog 63 #[.pointer (some ⟨p, 0, none⟩), .int .i64 t, .agg #[.int .i64 kind, .int .i64 a, .int .i64 many, .int .u8 v]] w (Nexts p d cap nx (s.busy t kind a many v) w) := by
  have hbx := below_box w (.cells #[.int .i64 kind, .int .i64 a, .int .i64 many, .int .u8 v] 39)
  have h1 := h.below hbx
  have H1 := Lib.hid h1
  have HBX := Lib.hid hbx
  have hbk := Blk.new w 39 #[.int .i64 kind, .int .i64 a, .int .i64 many, .int .u8 v]
  have k0 := hbk.cell 0
  have k1 := hbk.cell 1
  have k2 := hbk.cell 2
  have k3 := hbk.cell 3
  simp only [List.getElem?_toArray, List.getElem?_cons_zero, List.getElem?_cons_succ] at k0 k1 k2 k3
  have f2 := h1.blk.frozen 2
  have f3 := h1.blk.frozen 3
  have f4 := h1.blk.frozen 4
  have f5 := h1.blk.frozen 5
  have f6 := h1.blk.frozen 6
  have f7 := h1.blk.frozen 7
  have f8 := h1.blk.frozen 8
  have c2 := h1.blk.cell 2
  have c3 := h1.blk.cell 3
  have c4 := h1.blk.cell 4
  have c5 := h1.blk.cell 5
  have c6 := h1.blk.cell 6
  have c7 := h1.blk.cell 7
  have c8 := h1.blk.cell 8
  simp only [cellsOf, List.getElem?_toArray, List.getElem?_cons_zero, List.getElem?_cons_succ] at c2 c3 c4 c5 c6 c7 c8
  have hn1 : ¬ p = w.heap.size := by have := h.blk.lt; omega
  have hn2 : ¬ w.heap.size = p := by have := h.blk.lt; omega
  clear h h1 hbx hbk
  go_enter Try.func63, Try.ntmps63
  go_wp2_with fail
  go_region
  all_goals
    have hs := H1.out.sets (nx' := nx) (s' := s.busy t kind a many v) [(3, .int .i64 t), (4, .int .i64 kind), (5, .int .i64 a), (6, .int .i64 many), (7, .int .u8 v), (2, .bool false), (8, .int .u8 0)] rfl rfl
    obtain ⟨h1, h2⟩ := hs
    have HS1 := Lib.hid h1
    have HS2 := Lib.hid h2
    clear h1 h2
    go_wp2_with fail
    refine (begin_any _).mono ?_
    rintro e w1 ⟨V, rfl, h3, hb⟩
    have H3 := Lib.hid h3
    have HB := Lib.hid hb
    clear h3 hb
    go_wp2_with fail
    go_ret
    exact ⟨_, rfl, H3.out, (HS1.out.below (below_drew _)).below HB.out, (Keeps.of_below HBX.out).no.trans (HS2.out.trans ((Keeps.of_below (below_drew _)).no.trans (Keeps.of_below HB.out).no))⟩
theorem program_any' (w : World) (p d cap : Nat) (nx : Value) (s : Flash) (a v : Int) (h : Held w p d cap nx s) :
    Calls Try.prog 59 #[.pointer (some ⟨p, 0, none⟩), .int .i64 a, .int .u8 v] w (Nexts p d cap nx (s.busy 10 1 a 1 v) w) := by
  have H := Lib.hid h
  clear h
  go_enter Try.func59, Try.ntmps59
  go_wp2_with fail
  refine (busy_any w p d cap nx s 10 1 a 1 v H.out).mono ?_
  rintro e w1 ⟨V, rfl, h1, h2, h3⟩
  have H1 := Lib.hid h1
  have H2 := Lib.hid h2
  have H3 := Lib.hid h3
  clear h1 h2 h3
  go_wp2_with fail
  go_ret
  exact ⟨_, rfl, H1.out, H2.out, H3.out⟩
set_option maxHeartbeats 4000000 in
theorem erase_any (w : World) (p d cap : Nat) (nx : Value) (s : Flash) (a v : Int) (h : Held w p d cap nx s) (ha : 0 ≤ a ∧ a ≤ 1000000) :
    Calls Try.prog 60 #[.pointer (some ⟨p, 0, none⟩), .int .i64 a, .int .u8 v] w (Nexts p d cap nx (s.erase a v) w) := by
  have H := Lib.hid h
  have c0 := h.blk.cell 0
  simp only [cellsOf, List.getElem?_toArray, List.getElem?_cons_zero] at c0
  obtain ⟨ha0, ha1⟩ := ha
  clear h
  by_cases h48 : v = 48
  · subst h48
    have HE := Lib.hid (show s.erase a 48 = s.busy 100 2 (a - a % 256) 256 0 from if_pos rfl)
    clear c0
    go_enter Try.func60, Try.ntmps60
    go_wp2_with fail
    refine (busy_any w p d cap nx s 100 2 (a - a % 256) 256 0 H.out).mono ?_
    rintro e w1 ⟨V, rfl, h1, h2, h3⟩
    have H1 := Lib.hid h1
    have H2 := Lib.hid h2
    have H3 := Lib.hid h3
    clear h1 h2 h3
    go_wp2_with fail
    go_ret
    rw [HE.out]
    exact ⟨_, rfl, H1.out, H2.out, H3.out⟩
  · have h48' : (v == 48) = false := by simp [h48]
    by_cases h16 : v = 16 ∧ a % 256 = 85
    · obtain ⟨rfl, hl⟩ := h16
      have HE := Lib.hid (show s.erase a 16 = s.busy 200 2 0 s.size 0 by unfold Flash.erase; rw [if_neg (by decide), if_pos ⟨rfl, hl⟩])
      go_enter Try.func60, Try.ntmps60
      go_wp2_with fail
      refine (busy_any w p d cap nx s 200 2 0 s.data.length 0 H.out).mono ?_
      rintro e w1 ⟨V, rfl, h1, h2, h3⟩
      have H1 := Lib.hid h1
      have H2 := Lib.hid h2
      have H3 := Lib.hid h3
      clear h1 h2 h3
      go_wp2_with fail
      go_ret
      rw [HE.out]
      exact ⟨_, rfl, H1.out, H2.out, H3.out⟩
    · have HE := Lib.hid (show s.erase a v = s.ends v by unfold Flash.erase; rw [if_neg h48, if_neg h16])
      by_cases h16' : v = 16
      · subst h16'
        have hl : (a % 256 == 85) = false := by simp; exact fun e => h16 ⟨rfl, e⟩
        clear c0 h16
        go_enter Try.func60, Try.ntmps60
        go_wp2_with fail
        refine (end_any w p d cap nx s 16 H.out).mono ?_
        rintro e w1 ⟨V, rfl, h1, h2, h3⟩
        have H1 := Lib.hid h1
        have H2 := Lib.hid h2
        have H3 := Lib.hid h3
        clear h1 h2 h3
        go_wp2_with fail
        go_ret
        rw [HE.out]
        exact ⟨_, rfl, H1.out, H2.out, H3.out⟩
      · have hl : (v == 16) = false := by simp [h16']
        clear c0 h16 h48
        go_enter Try.func60, Try.ntmps60
        go_wp2_with fail
        refine (end_any w p d cap nx s v H.out).mono ?_
        rintro e w1 ⟨V, rfl, h1, h2, h3⟩
        have H1 := Lib.hid h1
        have H2 := Lib.hid h2
        have H3 := Lib.hid h3
        clear h1 h2 h3
        go_wp2_with fail
        go_ret
        rw [HE.out]
        exact ⟨_, rfl, H1.out, H2.out, H3.out⟩
end Go.Proofs.Ytojdbmkbcjaikaa
