/-
  THE WALK OF CutOutside.
-/
import Derived.Test.YtldnbjenklbepaaCTells
namespace Go.Proofs.Ytldnbjenklbepaa
open Go.RowKit
set_option maxRecDepth 20000

/-- what is apart from what was there was laid -/
theorem apart_cells (old zs ps : List Int) (v : Int) (h : v ∈ apartL old (cellsL old zs ps)) : v ∈ zs := by
  obtain ⟨i, h1, rfl, h2⟩ := (apartL_mem _ _ (cellsL_len _ _ _) v).1 h
  by_cases e : (i : Int) ∈ zs
  · exact e
  · exact absurd (cellsL_else old zs ps i h1 e).symm h2
theorem rowL_mem (a t : Int) (h0 : 0 ≤ a) (h1 : a ≤ 255) (h2 : t ≤ 255) (v : Int) (h : v ∈ rowL a t) : a ≤ v ∧ v < a + t := by
  obtain ⟨i, hi, rfl⟩ := List.mem_map.1 h
  have := List.mem_range.1 hi
  omega
theorem getD_mem {l : List Int} {k : Nat} (h : k < l.length) : l.getD k 0 ∈ l := by
  rw [show l.getD k 0 = l[k] by simp [List.getD, h]]
  exact List.getElem_mem _

set_option maxRecDepth 100000 in
set_option maxHeartbeats 4000000 in
theorem cutOutside_walk (w : World) (A0 : Option Addr) (n0 c0 : Nat) (z0 : List Int) (h0 : IsRow .u8 w A0 n0 c0 z0) (A1 : Option Addr) (n1 c1 : Nat) (z1 : List Int) (h1 : IsRow .i64 w A1 n1 c1 z1) (A2 : Option Addr) (n2 c2 : Nat) (z2 : List Int) (h2 : IsRow .u8 w A2 n2 c2 z2)
    (a3 : Int) (w3 : (Lit.int .u8 a3).wf = true) (a4 : Int) (w4 : (Lit.int .u8 a4).wf = true) :
    Calls Try.prog 5 #[.slice A0 n0 c0, .slice A1 n1 c1, .slice A2 n2 c2, .int .u8 a3, .int .u8 a4] w fun e w' => e = .returned (.bool true) ∧ Below w.heap.size w w' := by
  have HO := Lib.hid h0.nums
  have HZ := Lib.hid h1.nums
  have HP := Lib.hid h2.nums
  have HC := Lib.hid (And.intro h2.len_le.1 h2.cap_le)
  generalize z0.take n0 = old at *
  generalize z1.take n1 = zs at *
  generalize z2.take n2 = ps at *
  have hb3 : 0 ≤ a3 ∧ a3 ≤ 255 := by simpa [Lit.wf, IntKind.min, IntKind.max, IntKind.signed, IntKind.bits] using w3
  have hb4 : 0 ≤ a4 ∧ a4 ≤ 255 := by simpa [Lit.wf, IntKind.min, IntKind.max, IntKind.signed, IntKind.bits] using w4
  clear h0 h1 h2 w3 w4
  obtain ⟨h30, h31⟩ := hb3
  obtain ⟨h40, h41⟩ := hb4
  have HL := Lib.hid HO.out.1
  go_enter Try.func5, Try.ntmps5
  go_wp2_with fail
  refine (awake_any w).mono ?_
  rintro e w1 ⟨rfl, hb1⟩
  have HB1 := Lib.hid hb1
  clear hb1
  by_cases g0 : 200 < n0
  · have g0' : (200 : Int) < (n0 : Int) := by omega
    go_wp2_with fail
    go_ret
    exact ⟨rfl, HB1.out⟩
  have g0' : ¬ (200 : Int) < (n0 : Int) := by omega
  by_cases g1 : 200 < n1
  · have g1' : (200 : Int) < (n1 : Int) := by omega
    go_wp2_with fail
    go_ret
    exact ⟨rfl, HB1.out⟩
  have g1' : ¬ (200 : Int) < (n1 : Int) := by omega
  by_cases g2 : 200 < n2
  · have g2' : (200 : Int) < (n2 : Int) := by omega
    go_wp2_with fail
    go_ret
    exact ⟨rfl, HB1.out⟩
  have g2' : ¬ (200 : Int) < (n2 : Int) := by omega
  go_wp2_with fail
  refine (cells_any A0 A1 A2 n0 c0 n1 c1 n2 c2 w.heap.size old zs ps w1 (HO.out.below HB1.out) (HZ.out.below HB1.out) (HP.out.below HB1.out) HB1.out.size (by omega) (by unfold maxLen; omega) HC.out.1 HC.out.2).mono ?_
  intro e w2 hg
  obtain ⟨B3, d3, rfl, hm, hb⟩ := hg.nums (cellsL_in HO.out.byte HP.out.byte)
  have H3 := Lib.hid hm
  have HB2 := Lib.hid (HB1.out.trans (hb.mono HB1.out.size))
  clear hg hm hb HB1
  go_wp2_with fail
  refine (apart_any A0 B3 n0 c0 n0 d3 w2.heap.size old _ w2 ((HO.out.below HB2.out).mono HB2.out.size) H3.out (Nat.le_refl _) (by omega) (by omega)).mono ?_
  intro e w3 hg
  obtain ⟨B4, d4, rfl, hm, hb⟩ := hg.nums (apartL_wf (by rw [HL.out]; omega) (by rw [cellsL_len, HL.out]; omega))
  have HIN := Lib.hid (apart_cells old zs ps)
  have hLA := apartL_len old (cellsL old zs ps) (cellsL_len _ _ _)
  rw [HL.out] at hLA
  generalize apartL old (cellsL old zs ps) = L at *
  obtain ⟨m, hmL⟩ : ∃ m, L.length = m := ⟨_, rfl⟩
  rw [hmL] at hm hLA ⊢
  have HM := Lib.hid hmL
  have H4 := Lib.hid hm
  have HB3 := Lib.hid (HB2.out.trans (hb.mono HB2.out.size))
  clear hg hm hb HB2 hmL H3
  go_wp2_with fail
  go_loop [13, 14] (fun i _ => ∃ k : Nat, k ≤ m ∧ i = .int .i64 k) (fun i _ => m - (intOf i).toNat)
  case atStart => exact ⟨0, Nat.zero_le _, rfl⟩
  case round =>
    obtain ⟨k, hk, rfl⟩ := hrel
    by_cases hlt : k < m
    · obtain ⟨b, o, rfl, hv⟩ := H4.out.cell (Below.refl _ w3) k hlt
      have HI := Lib.hid (HIN.out (L.getD k 0) (getD_mem (by rw [HM.out]; exact hlt)))
      generalize L.getD k 0 = x at *
      have hk0 : (0 : Int) ≤ (k : Int) := by omega
      have hk1 : (k : Int) < (m : Int) := by omega
      go_wp2_with fail
      refine (in_any A1 n1 c1 w.heap.size zs x w3 (HZ.out.below HB3.out) (by unfold maxLen; omega) true (decide_eq_true HI.out)).mono ?_
      rintro e w4 ⟨rfl, rfl⟩
      go_wp2_with fail
      go_round
      case rel => exact ⟨k + 1, by omega, by go_num⟩
      case measure => simp [intOf]; omega
    · obtain rfl : k = m := by omega
      clear HM HIN H4
      have hw3 : IntKind.i64.wrap a3 = a3 := by rw [IntKind.wrap_i64]; omega
      have hw4 : IntKind.i64.wrap a4 = a4 := by rw [IntKind.wrap_i64]; omega
      go_wp2_with fail
      refine (range_any A0 A2 n0 c0 n2 c2 w.heap.size a3 a4 old ps w3 (HO.out.below HB3.out) (HP.out.below HB3.out) HB3.out.size (by omega) (by omega) HC.out.1 HC.out.2).mono ?_
      intro e w4 hg
      obtain ⟨B5, d5, rfl, hm, hb⟩ := hg.nums (cellsL_in HO.out.byte HP.out.byte)
      have H5 := Lib.hid hm
      have HB4 := Lib.hid (HB3.out.trans (hb.mono HB3.out.size))
      clear hg hm hb HB3
      go_wp2_with fail
      refine (apart_any A0 B5 n0 c0 n0 d5 w4.heap.size old _ w4 ((HO.out.below HB4.out).mono HB4.out.size) H5.out (Nat.le_refl _) (by omega) (by omega)).mono ?_
      intro e w5 hg
      obtain ⟨B6, d6, rfl, hm, hb⟩ := hg.nums (apartL_wf (by rw [HL.out]; omega) (by rw [cellsL_len, HL.out]; omega))
      have HIN := Lib.hid (fun v hv => rowL_mem a3 a4 h30 h31 h41 v (apart_cells old (rowL a3 a4) ps v hv))
      have hLA2 := apartL_len old (cellsL old (rowL a3 a4) ps) (cellsL_len _ _ _)
      rw [HL.out] at hLA2
      generalize apartL old (cellsL old (rowL a3 a4) ps) = L2 at *
      obtain ⟨m2, hmL⟩ : ∃ m, L2.length = m := ⟨_, rfl⟩
      rw [hmL] at hm hLA2 ⊢
      have HM := Lib.hid hmL
      have H6 := Lib.hid hm
      have HB5 := Lib.hid (HB4.out.trans (hb.mono HB4.out.size))
      clear hg hm hb HB4 hmL H5
      go_wp2_with fail
      go_loop [16] (fun i => ∃ k : Nat, k ≤ m2 ∧ i = .int .i64 k) (fun i => m2 - (intOf i).toNat)
      case atStart => exact ⟨0, Nat.zero_le _, rfl⟩
      case round =>
        obtain ⟨k, hk, rfl⟩ := hrel
        by_cases hlt : k < m2
        · obtain ⟨b, o, rfl, hv⟩ := H6.out.cell (Below.refl _ w5) k hlt
          have hI := HIN.out (L2.getD k 0) (getD_mem (by rw [HM.out]; exact hlt))
          generalize L2.getD k 0 = x at *
          obtain ⟨hI0, hI1⟩ := hI
          have hx0 : ¬ x < a3 := by omega
          have hx1 : ¬ a3 + a4 ≤ x := by omega
          have hk0 : (0 : Int) ≤ (k : Int) := by omega
          have hk1 : (k : Int) < (m2 : Int) := by omega
          go_wp2_with fail
          go_round
          case rel => exact ⟨k + 1, by omega, by go_num⟩
          case measure => simp [intOf]; omega
        · obtain rfl : k = m2 := by omega
          clear HM HIN H6
          go_wp2_with fail
          refine (cells_any A0 A1 none n0 c0 n1 c1 0 0 w.heap.size old zs [] w5 (HO.out.below HB5.out) (HZ.out.below HB5.out) (Nums.nil _ _ _ _) HB5.out.size (by omega) (by unfold maxLen; omega) (Nat.le_refl _) (Nat.zero_le _)).mono ?_
          intro e w6 hg
          rw [cellsL_none] at hg
          obtain ⟨B7, d7, rfl, hm, hb⟩ := hg.nums HO.out.byte
          have H7 := Lib.hid hm
          have HB6 := Lib.hid (HB5.out.trans (hb.mono HB5.out.size))
          clear hg hm hb HB5
          go_wp2_with fail
          refine (apart_any A0 B7 n0 c0 n0 d7 w6.heap.size old _ w6 ((HO.out.below HB6.out).mono HB6.out.size) H7.out (Nat.le_refl _) (by omega) (by omega)).mono ?_
          intro e w7 hg
          rw [apartL_same] at hg
          obtain ⟨B8, d8, rfl, hm, hb⟩ := hg.nums (by simp)
          have HB7 := Lib.hid (HB6.out.trans (hb.mono HB6.out.size))
          clear hg hm hb HB6
          go_wp2_with fail
          go_ret
          exact ⟨rfl, HB7.out⟩
end Go.Proofs.Ytldnbjenklbepaa
