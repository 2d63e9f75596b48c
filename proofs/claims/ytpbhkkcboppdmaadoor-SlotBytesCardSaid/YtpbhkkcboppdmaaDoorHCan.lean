/-
  THE WALKS OF head.canBe AND keepsakeref04.can.
-/
import Derived.Test.YtpbhkkcboppdmaaDoorHGeo
namespace Go.Proofs.YtpbhkkcboppdmaaDoor
open Ks Go.RowKit
set_option maxRecDepth 20000

/-- a head, as a value -/
abbrev headV (a b c n q s : Int) : Value := .agg #[.int .i64 a, .int .i64 b, .int .i64 c, .int .i64 n, .int .u64 q, .int .u32 s]
def can (a b c n : Int) : Bool := right a b c && (n == total a b c)
theorem boxed6 (w : World) (a b c d e f : Value) (t : TypeId) : (w.alloc (.cells #[a, b, c, d, e, f] t)).cell? ⟨w.heap.size, 0, none⟩ = some a ∧ (w.alloc (.cells #[a, b, c, d, e, f] t)).cell? ⟨w.heap.size, 1, none⟩ = some b ∧
    (w.alloc (.cells #[a, b, c, d, e, f] t)).cell? ⟨w.heap.size, 2, none⟩ = some c ∧ (w.alloc (.cells #[a, b, c, d, e, f] t)).cell? ⟨w.heap.size, 3, none⟩ = some d ∧
    (w.alloc (.cells #[a, b, c, d, e, f] t)).cell? ⟨w.heap.size, 4, none⟩ = some e ∧ (w.alloc (.cells #[a, b, c, d, e, f] t)).cell? ⟨w.heap.size, 5, none⟩ = some f := by
  refine ⟨?_, ?_, ?_, ?_, ?_, ?_⟩ <;> simp [go_sem]
theorem right_in (W : World) (p : Regrown) (a b c : Int) (r : Bool) (hT : Tab W) (hr : right a b c = r) : Calls Tryd.prog 33 #[geoV a b c] (In W p) fun e w'' => e = .returned (.bool r) ∧ ∃ q : Regrown, w'' = In W q := by
  apply Calls.regrown_of
  exact (right_any a b c r _ _ (on_in hT p) hr).mono fun _ _ h => ⟨h.1, h.2.bel⟩
theorem total_in (W : World) (p : Regrown) (a b c v : Int) (hT : Tab W) (hv : total a b c = v) : Calls Tryd.prog 35 #[geoV a b c] (In W p) fun e w'' => e = .returned (.int .i64 v) ∧ ∃ q : Regrown, w'' = In W q := by
  apply Calls.regrown_of
  exact (total_any a b c v _ _ (on_in hT p) hv).mono fun _ _ h => ⟨h.1, h.2.bel⟩
theorem refTotal_in (W : World) (p : Regrown) (a b c v : Int) (hT : Tab W) (hv : total a b c = v) : Calls Tryd.prog 21 #[geoV a b c] (In W p) fun e w'' => e = .returned (.int .i64 v) ∧ ∃ q : Regrown, w'' = In W q := by
  apply Calls.regrown_of
  exact (refTotal_any a b c v _ _ (on_in hT p) hv).mono fun _ _ h => ⟨h.1, h.2.bel⟩

theorem canBe_any (a b c n q s : Int) (r : Bool) (w0 w : World) (H : On w0 w) (hr : can a b c n = r) : Calls Tryd.prog 73 #[headV a b c n q s] w fun e w' => e = .returned (.bool r) ∧ On w0 w' := by
  obtain ⟨v, hv⟩ : ∃ v, total a b c = v := ⟨_, rfl⟩
  obtain ⟨x, hx⟩ : ∃ x, right a b c = x := ⟨_, rfl⟩
  unfold can at hr
  rw [hx, hv] at hr
  have HT := Lib.hid (fun o => H.next (below_box w o))
  have HV := Lib.hid hv
  have HX := Lib.hid hx
  have HR := Lib.hid hr
  obtain ⟨b0, b1, b2, b3, _, _⟩ := boxed6 w (.int .i64 a) (.int .i64 b) (.int .i64 c) (.int .i64 n) (.int .u64 q) (.int .u32 s) 83
  clear hv hx hr H
  go_enter Tryd.func73, Tryd.ntmps73
  go_wp2_with fail
  have HW := Lib.hid (HT.out (.cells #[.int .i64 a, .int .i64 b, .int .i64 c, .int .i64 n, .int .u64 q, .int .u32 s] 83))
  generalize w.alloc (.cells #[.int .i64 a, .int .i64 b, .int .i64 c, .int .i64 n, .int .u64 q, .int .u32 s] 83) = W at *
  have r0 := fun d os => cell_regrown b0 d os
  have r1 := fun d os => cell_regrown b1 d os
  have r2 := fun d os => cell_regrown b2 d os
  have r3 := fun d os => cell_regrown b3 d os
  clear b0 b1 b2 b3
  cases x
  · refine wp_region_quiet_below (by kernel_rfl) (by kernel_rfl) ?_
    iterate 2 go_big_quiet_step (fail)
    go_big_quiet_step ((refine right_in W _ a b c false HW.out.tab HX.out))
    repeat (go_big_quiet_step (fail))
    refine wpQuiet_nil ?_
    rintro w' ⟨q, rfl⟩
    have HQ := Lib.hid (HW.out.next (in_below W q))
    go_wp2_with fail
    go_ret
    exact ⟨ret_bool HR.out, HQ.out⟩
  · refine wp_region_quiet_below (by kernel_rfl) (by kernel_rfl) ?_
    iterate 2 go_big_quiet_step (fail)
    go_big_quiet_step ((refine right_in W _ a b c true HW.out.tab HX.out))
    iterate 5 go_big_quiet_step (fail)
    go_big_quiet_step ((refine total_in W _ a b c v HW.out.tab HV.out))
    repeat (go_big_quiet_step (fail))
    refine wpQuiet_nil ?_
    rintro w' ⟨q, rfl⟩
    have HQ := Lib.hid (HW.out.next (in_below W q))
    go_wp2_with fail
    go_ret
    exact ⟨ret_bool HR.out, HQ.out⟩
theorem refCan_any (a b c n q s : Int) (r : Bool) (w0 w : World) (H : On w0 w) (hr : can a b c n = r) : Calls Tryd.prog 77 #[headV a b c n q s] w fun e w' => e = .returned (.bool r) ∧ On w0 w' := by
  obtain ⟨v, hv⟩ : ∃ v, total a b c = v := ⟨_, rfl⟩
  obtain ⟨x, hx⟩ : ∃ x, right a b c = x := ⟨_, rfl⟩
  unfold can at hr
  rw [hx, hv] at hr
  have HT := Lib.hid (fun o => H.next (below_box w o))
  have HV := Lib.hid hv
  have HX := Lib.hid hx
  have HR := Lib.hid hr
  obtain ⟨b0, b1, b2, b3, _, _⟩ := boxed6 w (.int .i64 a) (.int .i64 b) (.int .i64 c) (.int .i64 n) (.int .u64 q) (.int .u32 s) 83
  clear hv hx hr H
  go_enter Tryd.func77, Tryd.ntmps77
  go_wp2_with fail
  have HW := Lib.hid (HT.out (.cells #[.int .i64 a, .int .i64 b, .int .i64 c, .int .i64 n, .int .u64 q, .int .u32 s] 83))
  have HP := Lib.hid (show w.heap.size < (w.alloc (.cells #[.int .i64 a, .int .i64 b, .int .i64 c, .int .i64 n, .int .u64 q, .int .u32 s] 83)).heap.size by simp)
  generalize w.alloc (.cells #[.int .i64 a, .int .i64 b, .int .i64 c, .int .i64 n, .int .u64 q, .int .u32 s] 83) = W at *
  refine (refRight_any a b c x _ _ (On.start HW.out.tab) HX.out).mono ?_
  rintro e w1 ⟨rfl, hw1⟩
  have HW1 := Lib.hid (HW.out.next hw1.bel)
  have k0 := (hw1.bel.cell (p := ⟨w.heap.size, 0, none⟩) HP.out).trans b0
  have k1 := (hw1.bel.cell (p := ⟨w.heap.size, 1, none⟩) HP.out).trans b1
  have k2 := (hw1.bel.cell (p := ⟨w.heap.size, 2, none⟩) HP.out).trans b2
  have k3 := (hw1.bel.cell (p := ⟨w.heap.size, 3, none⟩) HP.out).trans b3
  clear b0 b1 b2 b3 hw1
  have r0 := fun d os => cell_regrown k0 d os
  have r1 := fun d os => cell_regrown k1 d os
  have r2 := fun d os => cell_regrown k2 d os
  have r3 := fun d os => cell_regrown k3 d os
  clear k0 k1 k2 k3
  go_wp2_with fail
  cases x
  · refine wp_region_quiet_below (by kernel_rfl) (by kernel_rfl) ?_
    repeat (go_big_quiet_step (fail))
    refine wpQuiet_nil ?_
    rintro w' ⟨q, rfl⟩
    have HQ := Lib.hid (HW1.out.next (in_below w1 q))
    go_wp2_with fail
    go_ret
    exact ⟨ret_bool HR.out, HQ.out⟩
  · refine wp_region_quiet_below (by kernel_rfl) (by kernel_rfl) ?_
    iterate 6 go_big_quiet_step (fail)
    go_big_quiet_step ((refine refTotal_in w1 _ a b c v HW1.out.tab HV.out))
    repeat (go_big_quiet_step (fail))
    refine wpQuiet_nil ?_
    rintro w' ⟨q, rfl⟩
    have HQ := Lib.hid (HW1.out.next (in_below w1 q))
    go_wp2_with fail
    go_ret
    exact ⟨ret_bool HR.out, HQ.out⟩
end Go.Proofs.YtpbhkkcboppdmaaDoor
