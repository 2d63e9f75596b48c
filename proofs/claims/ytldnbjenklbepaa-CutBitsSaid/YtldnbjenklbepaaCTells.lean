/-
  THE WALKS OF CutTells, CutRanges.
-/
import Derived.Test.YtldnbjenklbepaaCAwake
namespace Go.Proofs.Ytldnbjenklbepaa
open Go.RowKit
set_option maxRecDepth 20000

theorem Makes.nums {w w' : World} {l : List Int} {n : Nat} {e : Ending} (h : Makes w l e w') (hv : ∀ v ∈ l, 0 ≤ v ∧ v ≤ 255) (hn : l.length = n) : ∃ A c, e = .returned (.slice A n c) ∧ Nums .u8 w' w'.heap.size A n l ∧ Below w.heap.size w w' := by
  obtain ⟨v, rfl, ho, hb⟩ := h
  obtain ⟨A, c, rfl, _, hm⟩ := ho.nums fun v hx => byte_wf (hv v hx)
  exact ⟨A, c, by rw [hn], by rw [hn] at hm; exact hm, hb⟩
theorem Gives.nums {w w' : World} {l : List Int} {n : Nat} {e : Ending} (h : Gives w n l e w') (hv : ∀ v ∈ l, 0 ≤ v ∧ v ≤ 255) : ∃ A c, e = .returned (.slice A n c) ∧ Nums .u8 w' w'.heap.size A n l ∧ Below w.heap.size w w' := by
  obtain ⟨A, c, rfl, _, hm, hb⟩ := h
  exact ⟨A, c, rfl, hm.nums' hv, hb⟩
theorem Tells.nums {w w' : World} {l : List Int} {e : Ending} (h : Tells w l e w') (hv : ∀ v ∈ l, (Lit.int .i64 v).wf = true) : ∃ A c, e = .returned (.slice A l.length c) ∧ Nums .i64 w' w'.heap.size A l.length l ∧ Below w.heap.size w w' := by
  obtain ⟨v, rfl, ho, hb⟩ := h
  obtain ⟨A, c, rfl, _, hm⟩ := ho.nums hv
  exact ⟨A, c, rfl, hm, hb⟩

set_option maxRecDepth 100000 in
set_option maxHeartbeats 4000000 in
theorem cutTells_walk (w : World) (A0 : Option Addr) (n0 c0 : Nat) (z0 : List Int) (h0 : IsRow .u8 w A0 n0 c0 z0) (A1 : Option Addr) (n1 c1 : Nat) (z1 : List Int) (h1 : IsRow .i64 w A1 n1 c1 z1) (A2 : Option Addr) (n2 c2 : Nat) (z2 : List Int) (h2 : IsRow .u8 w A2 n2 c2 z2)
    (A3 : Option Addr) (n3 c3 : Nat) (z3 : List Int) (h3 : IsRow .u8 w A3 n3 c3 z3) :
    Calls Try.prog 3 #[.slice A0 n0 c0, .slice A1 n1 c1, .slice A2 n2 c2, .slice A3 n3 c3] w fun e w' => e = .returned (.bool true) ∧ Below w.heap.size w w' := by
  have HO := Lib.hid h0.nums
  have HZ := Lib.hid h1.nums
  have HP := Lib.hid h2.nums
  have HQ := Lib.hid h3.nums
  have HC := Lib.hid (And.intro h2.len_le.1 h2.cap_le)
  generalize z0.take n0 = old at *
  generalize z1.take n1 = zs at *
  generalize z2.take n2 = ps at *
  generalize z3.take n3 = b at *
  have HL := Lib.hid (And.intro HO.out.1 HQ.out.1)
  clear h0 h1 h2 h3
  go_enter Try.func3, Try.ntmps3
  go_wp2_with fail
  refine (awake_any w).mono ?_
  rintro e w1 ⟨rfl, hb1⟩
  have HB1 := Lib.hid hb1
  clear hb1
  by_cases g0 : 200 < n0
  · have g0' : (200 : Int) < (n0 : Int) := by omega
    go_wp2_with fail
    go_ret
    exact ⟨rfl, HB1.out⟩
  have g0' : ¬ (200 : Int) < (n0 : Int) := by omega
  by_cases g1 : 200 < n1
  · have g1' : (200 : Int) < (n1 : Int) := by omega
    go_wp2_with fail
    go_ret
    exact ⟨rfl, HB1.out⟩
  have g1' : ¬ (200 : Int) < (n1 : Int) := by omega
  by_cases g2 : 200 < n2
  · have g2' : (200 : Int) < (n2 : Int) := by omega
    go_wp2_with fail
    go_ret
    exact ⟨rfl, HB1.out⟩
  have g2' : ¬ (200 : Int) < (n2 : Int) := by omega
  by_cases g3 : 200 < n3
  · have g3' : (200 : Int) < (n3 : Int) := by omega
    go_wp2_with fail
    go_ret
    exact ⟨rfl, HB1.out⟩
  have g3' : ¬ (200 : Int) < (n3 : Int) := by omega
  have HX := Lib.hid (show ∀ v ∈ cellsL old zs ps, 0 ≤ v ∧ v ≤ 255 from cellsL_in HO.out.byte HP.out.byte)
  have HLX := Lib.hid (show (cellsL old zs ps).length = n0 by rw [cellsL_len, HL.out.1])
  have HA := Lib.hid (show ∀ v ∈ apartL old b, (Lit.int .i64 v).wf = true from apartL_wf (by rw [HL.out.1]; omega) (by rw [HL.out.2]; omega))
  have HAL := Lib.hid (show (apartL old b).length ≤ maxLen by have := apartTo_len old b (max old.length b.length); rw [HL.out.1, HL.out.2] at this; unfold apartL maxLen; rw [HL.out.1, HL.out.2]; omega)
  go_wp2_with fail
  refine (cells_any A0 A1 A2 n0 c0 n1 c1 n2 c2 w.heap.size old zs ps w1 (HO.out.below HB1.out) (HZ.out.below HB1.out) (HP.out.below HB1.out) HB1.out.size (by omega) (by unfold maxLen; omega) HC.out.1 HC.out.2).mono ?_
  intro e w2 hg
  obtain ⟨B3, d3, rfl, hm, hb⟩ := hg.nums HX.out
  have H3 := Lib.hid hm
  have HB2 := Lib.hid (HB1.out.trans (hb.mono HB1.out.size))
  clear hg hm hb HB1
  go_wp2_with fail
  refine (refCells_any A0 A1 A2 n0 c0 n1 c1 n2 c2 w.heap.size old zs ps w2 (HO.out.below HB2.out) (HZ.out.below HB2.out) (HP.out.below HB2.out) HB2.out.size (by omega) (by omega)).mono ?_
  intro e w3 hg
  obtain ⟨B4, d4, rfl, hm, hb⟩ := hg.nums HX.out HLX.out
  have H4 := Lib.hid hm
  have HB3 := Lib.hid (HB2.out.trans (hb.mono HB2.out.size))
  have H3' := Lib.hid ((H3.out.below hb).mono hb.size)
  clear hg hm hb HB2 H3
  go_wp2_with fail
  refine (same_refl B3 B4 n0 d3 d4 w3.heap.size _ w3 (by unfold maxLen; omega) H3'.out H4.out (Nat.le_refl _)).mono ?_
  rintro e w4 ⟨rfl, hb⟩
  have HB4 := Lib.hid (HB3.out.trans (hb.mono HB3.out.size))
  clear hb HB3 H3' H4
  go_wp2_with fail
  refine (apart_any A0 A3 n0 c0 n3 c3 w.heap.size old b w4 (HO.out.below HB4.out) (HQ.out.below HB4.out) HB4.out.size (by omega) (by omega)).mono ?_
  intro e w5 hg
  obtain ⟨B5, d5, rfl, hm, hb⟩ := hg.nums HA.out
  have H5 := Lib.hid hm
  have HB5 := Lib.hid (HB4.out.trans (hb.mono HB4.out.size))
  clear hg hm hb HB4
  go_wp2_with fail
  refine (refApart_any A0 A3 n0 c0 n3 c3 w.heap.size old b w5 (HO.out.below HB5.out) (HQ.out.below HB5.out) HB5.out.size (by omega) (by omega)).mono ?_
  intro e w6 hg
  obtain ⟨B6, d6, rfl, hm, hb⟩ := hg.nums HA.out
  have H6 := Lib.hid hm
  have HB6 := Lib.hid (HB5.out.trans (hb.mono HB5.out.size))
  have H5' := Lib.hid ((H5.out.below hb).mono hb.size)
  clear hg hm hb HB5 H5
  generalize (apartL old b).length = m at *
  go_wp2_with fail
  refine (ints_refl B5 B6 m d5 d6 w6.heap.size _ w6 HAL.out H5'.out H6.out (Nat.le_refl _)).mono ?_
  rintro e w7 ⟨rfl, hb⟩
  have HB7 := Lib.hid (HB6.out.trans (hb.mono HB6.out.size))
  clear hb HB6 H5' H6
  go_wp2_with fail
  go_ret
  exact ⟨rfl, HB7.out⟩

set_option maxRecDepth 100000 in
set_option maxHeartbeats 4000000 in
theorem cutRanges_walk (w : World) (A0 : Option Addr) (n0 c0 : Nat) (z0 : List Int) (h0 : IsRow .u8 w A0 n0 c0 z0) (a1 : Int) (_w1 : (Lit.int .i64 a1).wf = true) (a2 : Int) (w2 : (Lit.int .i64 a2).wf = true) (A3 : Option Addr) (n3 c3 : Nat) (z3 : List Int) (h3 : IsRow .u8 w A3 n3 c3 z3)
    (a4 : Int) (_w4 : (Lit.int .i64 a4).wf = true) (a5 : Int) (w5 : (Lit.int .u8 a5).wf = true) :
    Calls Try.prog 4 #[.slice A0 n0 c0, .int .i64 a1, .int .i64 a2, .slice A3 n3 c3, .int .i64 a4, .int .u8 a5] w fun e w' => e = .returned (.bool true) ∧ Below w.heap.size w w' := by
  have HO := Lib.hid h0.nums
  have HP := Lib.hid h3.nums
  have HC := Lib.hid (And.intro h3.len_le.1 h3.cap_le)
  have HT := Lib.hid (int_wf.1 w2).2
  have H5B := Lib.hid (show 0 ≤ a5 ∧ a5 ≤ 255 by simpa [Lit.wf, IntKind.min, IntKind.max, IntKind.signed, IntKind.bits] using w5)
  generalize z0.take n0 = old at *
  generalize z3.take n3 = ps at *
  have HL := Lib.hid HO.out.1
  clear h0 h3 w2 w5
  go_enter Try.func4, Try.ntmps4
  go_wp2_with fail
  refine (awake_any w).mono ?_
  rintro e w1 ⟨rfl, hb1⟩
  have HB1 := Lib.hid hb1
  clear hb1
  by_cases g0 : 200 < n0
  · have g0' : (200 : Int) < (n0 : Int) := by omega
    go_wp2_with fail
    go_ret
    exact ⟨rfl, HB1.out⟩
  have g0' : ¬ (200 : Int) < (n0 : Int) := by omega
  by_cases g1 : 200 < n3
  · have g1' : (200 : Int) < (n3 : Int) := by omega
    go_wp2_with fail
    go_ret
    exact ⟨rfl, HB1.out⟩
  have g1' : ¬ (200 : Int) < (n3 : Int) := by omega
  by_cases g2 : (1099511627776 : Int) < a1
  · go_wp2_with fail
    go_ret
    exact ⟨rfl, HB1.out⟩
  by_cases g3 : a1 < -1099511627776
  · go_wp2_with fail
    go_ret
    exact ⟨rfl, HB1.out⟩
  have HA := Lib.hid (show -1099511627776 ≤ a1 ∧ a1 ≤ 1099511627776 by omega)
  have HX := Lib.hid (show ∀ v ∈ cellsL old (rowL a1 a2) ps, 0 ≤ v ∧ v ≤ 255 from cellsL_in HO.out.byte HP.out.byte)
  have HLX := Lib.hid (show (cellsL old (rowL a1 a2) ps).length = n0 by rw [cellsL_len, HL.out])
  have HY := Lib.hid (show ∀ v ∈ progL old a4 a5, 0 ≤ v ∧ v ≤ 255 from progL_in HO.out.byte H5B.out)
  have HLY := Lib.hid (show (progL old a4 a5).length = n0 by rw [progL_len, HL.out])
  go_wp2_with fail
  refine (range_any A0 A3 n0 c0 n3 c3 w.heap.size a1 a2 old ps w1 (HO.out.below HB1.out) (HP.out.below HB1.out) HB1.out.size (by omega) HT.out HC.out.1 HC.out.2).mono ?_
  intro e w2 hg
  obtain ⟨B3, d3, rfl, hm, hb⟩ := hg.nums HX.out
  have H3 := Lib.hid hm
  have HB2 := Lib.hid (HB1.out.trans (hb.mono HB1.out.size))
  clear hg hm hb HB1
  go_wp2_with fail
  refine (refRange_any A0 A3 n0 c0 n3 c3 w.heap.size a1 a2 old ps w2 (HO.out.below HB2.out) (HP.out.below HB2.out) HB2.out.size (by omega) (by omega) HA.out HT.out).mono ?_
  intro e w3 hg
  obtain ⟨B4, d4, rfl, hm, hb⟩ := hg.nums HX.out HLX.out
  have H4 := Lib.hid hm
  have HB3 := Lib.hid (HB2.out.trans (hb.mono HB2.out.size))
  have H3' := Lib.hid ((H3.out.below hb).mono hb.size)
  clear hg hm hb HB2 H3
  go_wp2_with fail
  refine (same_refl B3 B4 n0 d3 d4 w3.heap.size _ w3 (by unfold maxLen; omega) H3'.out H4.out (Nat.le_refl _)).mono ?_
  rintro e w4 ⟨rfl, hb⟩
  have HB4 := Lib.hid (HB3.out.trans (hb.mono HB3.out.size))
  clear hb HB3 H3' H4
  go_wp2_with fail
  refine (program_any A0 n0 c0 w.heap.size a4 a5 old w4 (HO.out.below HB4.out) HB4.out.size (by omega)).mono ?_
  intro e w5 hg
  obtain ⟨B5, d5, rfl, hm, hb⟩ := hg.nums HY.out
  have H5 := Lib.hid hm
  have HB5 := Lib.hid (HB4.out.trans (hb.mono HB4.out.size))
  clear hg hm hb HB4
  go_wp2_with fail
  refine (refProgram_any A0 n0 c0 w.heap.size a4 a5 old w5 (HO.out.below HB5.out) H5B.out HB5.out.size (by omega)).mono ?_
  intro e w6 hg
  obtain ⟨B6, d6, rfl, hm, hb⟩ := hg.nums HY.out HLY.out
  have H6 := Lib.hid hm
  have HB6 := Lib.hid (HB5.out.trans (hb.mono HB5.out.size))
  have H5' := Lib.hid ((H5.out.below hb).mono hb.size)
  clear hg hm hb HB5 H5
  go_wp2_with fail
  refine (same_refl B5 B6 n0 d5 d6 w6.heap.size _ w6 (by unfold maxLen; omega) H5'.out H6.out (Nat.le_refl _)).mono ?_
  rintro e w7 ⟨rfl, hb⟩
  have HB7 := Lib.hid (HB6.out.trans (hb.mono HB6.out.size))
  clear hb HB6 H5' H6
  go_wp2_with fail
  go_ret
  exact ⟨rfl, HB7.out⟩
end Go.Proofs.Ytldnbjenklbepaa
