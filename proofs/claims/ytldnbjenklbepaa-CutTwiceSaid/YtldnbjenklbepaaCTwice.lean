/-
  THE WALK OF CutTwice.
-/
import Derived.Test.YtldnbjenklbepaaCAwake
namespace Go.Proofs.Ytldnbjenklbepaa
open Go.RowKit
set_option maxRecDepth 20000

set_option maxRecDepth 100000 in
set_option maxHeartbeats 4000000 in
theorem cutTwice_walk (w : World) (A0 : Option Addr) (n0 c0 : Nat) (z0 : List Int) (h0 : IsRow .u8 w A0 n0 c0 z0) (A1 : Option Addr) (n1 c1 : Nat) (z1 : List Int) (h1 : IsRow .i64 w A1 n1 c1 z1) (A2 : Option Addr) (n2 c2 : Nat) (z2 : List Int) (h2 : IsRow .u8 w A2 n2 c2 z2)
    (a3 : Int) (w3 : (Lit.int .u8 a3).wf = true) (a4 : Int) (w4 : (Lit.int .u8 a4).wf = true) :
    Calls Try.prog 8 #[.slice A0 n0 c0, .slice A1 n1 c1, .slice A2 n2 c2, .int .u8 a3, .int .u8 a4] w fun e w' => e = .returned (.bool true) ∧ Below w.heap.size w w' := by
  have HO := Lib.hid h0.nums
  have HZ := Lib.hid h1.nums
  have HP := Lib.hid h2.nums
  have HC := Lib.hid (And.intro h2.len_le.1 h2.cap_le)
  generalize z0.take n0 = old at *
  generalize z1.take n1 = zs at *
  generalize z2.take n2 = ps at *
  have hb3 : 0 ≤ a3 ∧ a3 ≤ 255 := by simpa [Lit.wf, IntKind.min, IntKind.max, IntKind.signed, IntKind.bits] using w3
  have hb4 : 0 ≤ a4 ∧ a4 ≤ 255 := by simpa [Lit.wf, IntKind.min, IntKind.max, IntKind.signed, IntKind.bits] using w4
  clear h0 h1 h2 w3 w4
  obtain ⟨h30, h31⟩ := hb3
  obtain ⟨h40, h41⟩ := hb4
  go_enter Try.func8, Try.ntmps8
  go_wp2_with fail
  refine (awake_any w).mono ?_
  rintro e w1 ⟨rfl, hb1⟩
  have HB1 := Lib.hid hb1
  clear hb1
  by_cases g0 : 200 < n0
  · have g0' : (200 : Int) < (n0 : Int) := by omega
    go_wp2_with fail
    go_ret
    exact ⟨rfl, HB1.out⟩
  have g0' : ¬ (200 : Int) < (n0 : Int) := by omega
  by_cases g1 : 200 < n1
  · have g1' : (200 : Int) < (n1 : Int) := by omega
    go_wp2_with fail
    go_ret
    exact ⟨rfl, HB1.out⟩
  have g1' : ¬ (200 : Int) < (n1 : Int) := by omega
  by_cases g2 : 200 < n2
  · have g2' : (200 : Int) < (n2 : Int) := by omega
    go_wp2_with fail
    go_ret
    exact ⟨rfl, HB1.out⟩
  have g2' : ¬ (200 : Int) < (n2 : Int) := by omega
  go_wp2_with fail
  refine (cells_any A0 A1 A2 n0 c0 n1 c1 n2 c2 w.heap.size old zs ps w1 (HO.out.below HB1.out) (HZ.out.below HB1.out) (HP.out.below HB1.out) HB1.out.size (by omega) (by unfold maxLen; omega) HC.out.1 HC.out.2).mono ?_
  rintro e w2 ⟨A3, c3, rfl, _, hm, hb⟩
  have ho1 := HO.out.byte
  have hp1 := HP.out.byte
  have HX := Lib.hid (show ∀ v ∈ cellsL old zs ps, 0 ≤ v ∧ v ≤ 255 from cellsL_in ho1 hp1)
  have HY := Lib.hid (show ∀ v ∈ cellsL old (rowL a3 a4) ps, 0 ≤ v ∧ v ≤ 255 from cellsL_in ho1 hp1)
  have H3 := Lib.hid (hm.nums' HX.out)
  have HB2 := Lib.hid (HB1.out.trans (hb.mono HB1.out.size))
  clear hm hb ho1 hp1 HB1
  go_wp2_with fail
  refine (range_any A0 A2 n0 c0 n2 c2 w.heap.size a3 a4 old ps w2 (HO.out.below HB2.out) (HP.out.below HB2.out) HB2.out.size (by omega) (by omega) HC.out.1 HC.out.2).mono ?_
  rintro e w3 ⟨A4, c4, rfl, _, hm, hb⟩
  have H4 := Lib.hid (hm.nums' HY.out)
  have HB3 := Lib.hid (HB2.out.trans (hb.mono HB2.out.size))
  have H3' := Lib.hid ((H3.out.below hb).mono hb.size)
  clear hm hb HB2 H3
  go_wp2_with fail
  refine (cells_any A3 A1 A2 n0 c3 n1 c1 n2 c2 w3.heap.size _ zs ps w3 H3'.out ((HZ.out.below HB3.out).mono HB3.out.size) ((HP.out.below HB3.out).mono HB3.out.size) (Nat.le_refl _) (by omega) (by unfold maxLen; omega) HC.out.1 HC.out.2).mono ?_
  rintro e w4 ⟨A5, c5, rfl, _, hm, hb⟩
  rw [cellsL_twice] at hm
  have H5 := Lib.hid (hm.nums' HX.out)
  have HB4 := Lib.hid (HB3.out.trans (hb.mono HB3.out.size))
  have H3 := Lib.hid ((H3'.out.below hb).mono hb.size)
  have H4' := Lib.hid ((H4.out.below hb).mono hb.size)
  clear hm hb HB3 H3' H4
  go_wp2_with fail
  refine (same_refl A5 A3 n0 c5 c3 w4.heap.size _ w4 (by unfold maxLen; omega) H5.out H3.out (Nat.le_refl _)).mono ?_
  rintro e w5 ⟨rfl, hb⟩
  have HB5 := Lib.hid (HB4.out.trans (hb.mono HB4.out.size))
  have H4 := Lib.hid ((H4'.out.below hb).mono hb.size)
  clear hb HB4 H4' H5 H3
  go_wp2_with fail
  refine (range_any A4 A2 n0 c4 n2 c2 w5.heap.size a3 a4 _ ps w5 H4.out ((HP.out.below HB5.out).mono HB5.out.size) (Nat.le_refl _) (by omega) (by omega) HC.out.1 HC.out.2).mono ?_
  rintro e w6 ⟨A6, c6, rfl, _, hm, hb⟩
  rw [cellsL_twice] at hm
  have H6 := Lib.hid (hm.nums' HY.out)
  have HB6 := Lib.hid (HB5.out.trans (hb.mono HB5.out.size))
  have H4' := Lib.hid ((H4.out.below hb).mono hb.size)
  clear hm hb HB5 H4
  go_wp2_with fail
  refine (same_refl A6 A4 n0 c6 c4 w6.heap.size _ w6 (by unfold maxLen; omega) H6.out H4'.out (Nat.le_refl _)).mono ?_
  rintro e w7 ⟨rfl, hb⟩
  have HB7 := Lib.hid (HB6.out.trans (hb.mono HB6.out.size))
  clear hb HB6 H4' H6
  go_wp2_with fail
  go_ret
  exact ⟨rfl, HB7.out⟩
end Go.Proofs.Ytldnbjenklbepaa
