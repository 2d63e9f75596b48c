/-
  THE WALKS OF keepsakeref06.Span AND OF SlotSpans.
-/
import Derived.Test.YthlemcnbebfliaaGreatDoorSAwake
namespace Go.Proofs.YthlemcnbebfliaaGreatDoor
open Ks Go.RowKit
set_option maxRecDepth 20000

theorem refSpan_any (size a b c v : Int) (w0 w : World) (H : On w0 w) (hv : spanOf size a b c = v) : Calls Tryz.prog 43 #[.int .i64 size, geoV a b c] w fun e w' => e = .returned (.int .i64 v) ∧ On w0 w' := by
  have HT := Lib.hid (fun o => H.next (below_box w o))
  have HV := Lib.hid hv
  obtain ⟨b0, b1, b2⟩ := boxed w (.int .i64 a) (.int .i64 b) (.int .i64 c) 23
  clear hv H
  go_enter Tryz.func43, Tryz.ntmps43
  go_wp2_with fail
  have HW := Lib.hid (HT.out (.cells #[.int .i64 a, .int .i64 b, .int .i64 c] 23))
  have HP := Lib.hid (show w.heap.size < (w.alloc (.cells #[.int .i64 a, .int .i64 b, .int .i64 c] 23)).heap.size by simp)
  generalize w.alloc (.cells #[.int .i64 a, .int .i64 b, .int .i64 c] 23) = W at *
  obtain ⟨x, hx⟩ : ∃ x, right a b c = x := ⟨_, rfl⟩
  have HX := Lib.hid hx
  clear hx
  refine (refRight_any a b c x _ _ (On.start HW.out.tab) HX.out).mono ?_
  rintro e w1 ⟨rfl, hw1⟩
  have HW1 := Lib.hid (HW.out.next hw1.bel)
  have k0 := (hw1.bel.cell (p := ⟨w.heap.size, 0, none⟩) HP.out).trans b0
  have k1 := (hw1.bel.cell (p := ⟨w.heap.size, 1, none⟩) HP.out).trans b1
  have k2 := (hw1.bel.cell (p := ⟨w.heap.size, 2, none⟩) HP.out).trans b2
  clear b0 b1 b2 hw1
  cases x
  · have HE := Lib.hid (show (0 : Int) = v by rw [← HV.out]; unfold spanOf; rw [HX.out]; simp)
    go_wp2_with fail
    go_ret
    exact ⟨ret_int HE.out, HW1.out⟩
  by_cases h1 : size < 32
  · have HE := Lib.hid (show (0 : Int) = v by rw [← HV.out]; unfold spanOf; rw [if_neg (by omega)])
    go_wp2_with fail
    go_ret
    exact ⟨ret_int HE.out, HW1.out⟩
  by_cases h2 : 4096 < size
  · have HE := Lib.hid (show (0 : Int) = v by rw [← HV.out]; unfold spanOf; rw [if_neg (by omega)])
    go_wp2_with fail
    go_ret
    exact ⟨ret_int HE.out, HW1.out⟩
  have HE := Lib.hid (show 1 + sect (total a b c) size = v by rw [← HV.out]; unfold spanOf; rw [if_pos ⟨HX.out, by omega, by omega⟩])
  obtain ⟨t, ht⟩ : ∃ t, total a b c = t := ⟨_, rfl⟩
  have HB := Lib.hid (total_lt a b c)
  have HF := Lib.hid (wf_total a b c)
  rw [ht] at HE HB HF
  have HTT := Lib.hid ht
  clear ht
  go_wp2_with fail
  refine (refTotal_any a b c t _ _ (On.start HW1.out.tab) HTT.out).mono ?_
  rintro e w2 ⟨rfl, hw2⟩
  have HW2 := Lib.hid (HW1.out.next hw2.bel)
  clear hw2
  obtain ⟨q, hq⟩ : ∃ q, sect t size = q := ⟨_, rfl⟩
  have hqb := sect_bounds t size HB.out.1 HB.out.2
  rw [hq] at hqb HE
  have HQ := Lib.hid hq
  obtain ⟨q0, q1⟩ := hqb
  clear hq
  go_wp2_with fail
  refine (refSectors_any t size q _ HF.out HQ.out).mono ?_
  rintro e w2 ⟨rfl, rfl⟩
  go_wp2_with fail
  go_ret
  exact ⟨ret_int HE.out, HW2.out⟩
theorem span_in (W : World) (q : Regrown) (size a b c v : Int) (hT : Tab W) (hv : spanOf size a b c = v) : Calls Tryz.prog 109 #[.int .i64 size, geoV a b c] (In W q) fun e w'' => e = .returned (.int .i64 v) ∧ ∃ q : Regrown, w'' = In W q := by
  apply Calls.regrown_of
  exact (span_any size a b c v _ _ (on_in hT q) hv).mono fun _ _ h => ⟨h.1, h.2.bel⟩
theorem refSpan_in (W : World) (q : Regrown) (size a b c v : Int) (hT : Tab W) (hv : spanOf size a b c = v) : Calls Tryz.prog 43 #[.int .i64 size, geoV a b c] (In W q) fun e w'' => e = .returned (.int .i64 v) ∧ ∃ q : Regrown, w'' = In W q := by
  apply Calls.regrown_of
  exact (refSpan_any size a b c v _ _ (on_in hT q) hv).mono fun _ _ h => ⟨h.1, h.2.bel⟩
end Go.Proofs.YthlemcnbebfliaaGreatDoor
