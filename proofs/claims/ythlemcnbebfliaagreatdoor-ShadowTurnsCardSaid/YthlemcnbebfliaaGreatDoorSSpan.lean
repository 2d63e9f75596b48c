/-
  THE WALKS OF slot.Span, slot.Room.
-/
import Derived.Test.YthlemcnbebfliaaGreatDoorHRest
import Derived.Test.YthlemcnbebfliaaGreatDoorISmall
namespace Go.Proofs.YthlemcnbebfliaaGreatDoor
open Ks Go.RowKit
set_option maxRecDepth 20000

/-- how many sectors a slot has -/
def spanOf (size a b c : Int) : Int := if right a b c = true ∧ 32 ≤ size ∧ size ≤ 4096 then 1 + sect (total a b c) size else 0
theorem sect_bounds (m size : Int) (h0 : 0 ≤ m) (h1 : m ≤ 131072) : 0 ≤ sect m size ∧ sect m size ≤ 131072 := by
  unfold sect
  split
  · rename_i h
    have := div_bounds (m - 1) size (by omega) (by omega)
    omega
  · omega
theorem spanOf_bounds (size a b c : Int) : 0 ≤ spanOf size a b c ∧ spanOf size a b c ≤ 131073 := by
  unfold spanOf
  split
  · have h := total_lt a b c
    have := sect_bounds (total a b c) size h.1 h.2
    omega
  · omega
theorem wf_total (a b c : Int) : (Lit.int .i64 (total a b c)).wf = true := by
  have h := total_lt a b c
  simp [Lit.wf, IntKind.min, IntKind.max, IntKind.signed, IntKind.bits]
  omega
theorem span_any (size a b c v : Int) (w0 w : World) (H : On w0 w) (hv : spanOf size a b c = v) : Calls Tryz.prog 109 #[.int .i64 size, geoV a b c] w fun e w' => e = .returned (.int .i64 v) ∧ On w0 w' := by
  have HT := Lib.hid (fun o => H.next (below_box w o))
  have HV := Lib.hid hv
  obtain ⟨b0, b1, b2⟩ := boxed w (.int .i64 a) (.int .i64 b) (.int .i64 c) 23
  clear hv H
  go_enter Tryz.func109, Tryz.ntmps109
  go_wp2_with fail
  have HW := Lib.hid (HT.out (.cells #[.int .i64 a, .int .i64 b, .int .i64 c] 23))
  have HP := Lib.hid (show w.heap.size < (w.alloc (.cells #[.int .i64 a, .int .i64 b, .int .i64 c] 23)).heap.size by simp)
  generalize w.alloc (.cells #[.int .i64 a, .int .i64 b, .int .i64 c] 23) = W at *
  obtain ⟨x, hx⟩ : ∃ x, right a b c = x := ⟨_, rfl⟩
  have HX := Lib.hid hx
  clear hx
  refine (right_any a b c x _ _ (On.start HW.out.tab) HX.out).mono ?_
  rintro e w1 ⟨rfl, hw1⟩
  have HW1 := Lib.hid (HW.out.next hw1.bel)
  have k0 := (hw1.bel.cell (p := ⟨w.heap.size, 0, none⟩) HP.out).trans b0
  have k1 := (hw1.bel.cell (p := ⟨w.heap.size, 1, none⟩) HP.out).trans b1
  have k2 := (hw1.bel.cell (p := ⟨w.heap.size, 2, none⟩) HP.out).trans b2
  clear b0 b1 b2 hw1
  cases x
  · have HE := Lib.hid (show (0 : Int) = v by rw [← HV.out]; unfold spanOf; rw [HX.out]; simp)
    go_wp2_with fail
    go_ret
    exact ⟨ret_int HE.out, HW1.out⟩
  by_cases h1 : size < 32
  · have HE := Lib.hid (show (0 : Int) = v by rw [← HV.out]; unfold spanOf; rw [if_neg (by omega)])
    go_wp2_with fail
    go_ret
    exact ⟨ret_int HE.out, HW1.out⟩
  by_cases h2 : 4096 < size
  · have HE := Lib.hid (show (0 : Int) = v by rw [← HV.out]; unfold spanOf; rw [if_neg (by omega)])
    go_wp2_with fail
    go_ret
    exact ⟨ret_int HE.out, HW1.out⟩
  have HE := Lib.hid (show 1 + sect (total a b c) size = v by rw [← HV.out]; unfold spanOf; rw [if_pos ⟨HX.out, by omega, by omega⟩])
  obtain ⟨t, ht⟩ : ∃ t, total a b c = t := ⟨_, rfl⟩
  have HB := Lib.hid (total_lt a b c)
  have HF := Lib.hid (wf_total a b c)
  rw [ht] at HE HB HF
  have HTT := Lib.hid ht
  clear ht
  go_wp2_with fail
  refine (total_any a b c t _ _ (On.start HW1.out.tab) HTT.out).mono ?_
  rintro e w2 ⟨rfl, hw2⟩
  have HW2 := Lib.hid (HW1.out.next hw2.bel)
  clear hw2
  obtain ⟨q, hq⟩ : ∃ q, sect t size = q := ⟨_, rfl⟩
  have hqb := sect_bounds t size HB.out.1 HB.out.2
  rw [hq] at hqb HE
  have HQ := Lib.hid hq
  obtain ⟨q0, q1⟩ := hqb
  clear hq
  go_wp2_with fail
  refine (sectors_any t size q _ HF.out HQ.out).mono ?_
  rintro e w2 ⟨rfl, rfl⟩
  go_wp2_with fail
  go_ret
  exact ⟨ret_int HE.out, HW2.out⟩
theorem room_any (size a b c v : Int) (w0 w : World) (H : On w0 w) (hv : 2 * spanOf size a b c = v) : Calls Tryz.prog 84 #[.int .i64 size, geoV a b c] w fun e w' => e = .returned (.int .i64 v) ∧ On w0 w' := by
  have HT := Lib.hid (fun o => H.next (below_box w o))
  obtain ⟨q, hq⟩ : ∃ q, spanOf size a b c = q := ⟨_, rfl⟩
  have hqb := spanOf_bounds size a b c
  rw [hq] at hqb hv
  have HQ := Lib.hid hq
  have HV := Lib.hid hv
  obtain ⟨q0, q1⟩ := hqb
  obtain ⟨b0, b1, b2⟩ := boxed w (.int .i64 a) (.int .i64 b) (.int .i64 c) 23
  clear hv H hq
  go_enter Tryz.func84, Tryz.ntmps84
  go_wp2_with fail
  have HW := Lib.hid (HT.out (.cells #[.int .i64 a, .int .i64 b, .int .i64 c] 23))
  generalize w.alloc (.cells #[.int .i64 a, .int .i64 b, .int .i64 c] 23) = W at *
  refine (span_any size a b c q _ _ HW.out HQ.out).mono ?_
  rintro e w1 ⟨rfl, hw1⟩
  have HW1 := Lib.hid hw1
  clear hw1
  go_wp2_with fail
  go_ret
  exact ⟨ret_int HV.out, HW1.out⟩
end Go.Proofs.YthlemcnbebfliaaGreatDoor
