/-
  THE WALK OF CutBits.
-/
import Derived.Test.YtldnbjenklbepaaCOut
import Derived.Deep.QuietTactic
import Derived.BigRegion
namespace Go.Proofs.Ytldnbjenklbepaa
open Go.RowKit
set_option maxRecDepth 20000

theorem progL_twice (l : List Int) (z p : Int) (hl : ∀ v ∈ l, 0 ≤ v ∧ v ≤ 255) (hp : 0 ≤ p ∧ p ≤ 255) : progL (progL l z p) z p = progL l z p := by
  refine list_ext (by rw [progL_len]) fun j hj => ?_
  rw [progL_len] at hj
  have hj' : j < l.length := by rwa [progL_len] at hj
  rw [progL_get _ _ _ _ hj, progL_get _ _ _ _ hj']
  by_cases e : z = j
  · rw [if_pos e, if_pos e]
    exact band_right (getD_byte hl j) hp
  · rw [if_neg e, if_neg e]
theorem progL_all (l : List Int) (z : Int) (hl : ∀ v ∈ l, 0 ≤ v ∧ v ≤ 255) : progL l z 255 = l := by
  refine list_ext (by rw [progL_len]) fun j hj => ?_
  rw [progL_len] at hj
  rw [progL_get _ _ _ _ hj]
  by_cases e : z = j
  · rw [if_pos e]
    exact band_all (getD_byte hl j)
  · rw [if_neg e]

set_option maxRecDepth 100000 in
set_option maxHeartbeats 8000000 in
theorem cutBits_walk (w : World) (A0 : Option Addr) (n0 c0 : Nat) (z0 : List Int) (h0 : IsRow .u8 w A0 n0 c0 z0) (a1 : Int) (w1 : (Lit.int .u8 a1).wf = true) (a2 : Int) (w2 : (Lit.int .u8 a2).wf = true) :
    Calls Try.prog 6 #[.slice A0 n0 c0, .int .u8 a1, .int .u8 a2] w fun e w' => e = .returned (.bool true) ∧ Below w.heap.size w w' := by
  have HO := Lib.hid h0.nums
  generalize z0.take n0 = old at *
  have hb1 : 0 ≤ a1 ∧ a1 ≤ 255 := by simpa [Lit.wf, IntKind.min, IntKind.max, IntKind.signed, IntKind.bits] using w1
  have hb2 : 0 ≤ a2 ∧ a2 ≤ 255 := by simpa [Lit.wf, IntKind.min, IntKind.max, IntKind.signed, IntKind.bits] using w2
  clear h0 w1 w2
  have H2 := Lib.hid hb2
  obtain ⟨h10, h11⟩ := hb1
  obtain ⟨h20, h21⟩ := hb2
  have hw1 : IntKind.i64.wrap a1 = a1 := by rw [IntKind.wrap_i64]; omega
  have HL := Lib.hid HO.out.1
  have HX := Lib.hid (show ∀ v ∈ progL old a1 a2, 0 ≤ v ∧ v ≤ 255 from progL_in HO.out.byte H2.out)
  go_enter Try.func6, Try.ntmps6
  go_wp2_with fail
  refine (awake_any w).mono ?_
  rintro e w1 ⟨rfl, hb1⟩
  have HB1 := Lib.hid hb1
  clear hb1
  by_cases g0 : 200 < n0
  · have g0' : (200 : Int) < (n0 : Int) := by omega
    go_wp2_with fail
    go_ret
    exact ⟨rfl, HB1.out⟩
  have g0' : ¬ (200 : Int) < (n0 : Int) := by omega
  have g1' : ((n0 : Int) != (n0 : Int)) = false := by simp
  go_wp2_with fail
  refine (program_any A0 n0 c0 w.heap.size a1 a2 old w1 (HO.out.below HB1.out) HB1.out.size (by omega)).mono ?_
  intro e w2 hg
  obtain ⟨B3, d3, rfl, hm, hb⟩ := hg.nums HX.out
  have H3 := Lib.hid hm
  have HB2 := Lib.hid (HB1.out.trans (hb.mono HB1.out.size))
  clear hg hm hb HB1
  go_wp2_with fail
  go_loopw [9] (fun i wr => ∃ k : Nat, k ≤ n0 ∧ i = .int .i64 k ∧ Below w2.heap.size w2 wr) (fun i _ => n0 - (intOf i).toNat)
  case atStart => exact ⟨0, Nat.zero_le _, rfl, Below.refl _ _⟩
  case round =>
    obtain ⟨k, hk, rfl, hbel⟩ := hrel
    have HBE := Lib.hid hbel
    clear hbel
    by_cases hlt : k < n0
    · obtain ⟨b3, o3, rfl, hv3⟩ := H3.out.cell HBE.out k hlt
      obtain ⟨b0, o0, rfl, hv0⟩ := HO.out.cell (HB2.out.trans (HBE.out.mono HB2.out.size)) k hlt
      have hG := progL_get old a1 a2 k (by rw [HL.out]; exact hlt)
      have hxb := getD_byte HO.out.byte k
      have hk0 : (0 : Int) ≤ (k : Int) := by omega
      have hk1 : (k : Int) < (n0 : Int) := by omega
      by_cases hkz : a1 = (k : Int)
      · rw [if_pos hkz] at hG
        have e1 := band_left hxb H2.out
        have e2 := band_right hxb H2.out
        rw [← hG] at e1 e2
        generalize (progL old a1 a2).getD k 0 = y at *
        generalize old.getD k 0 = x at *
        have hn1 : ((k : Int) != a1) = false := by simp [hkz]
        have hn2 : ((k : Int) == a1) = true := by simp [hkz]
        have hyy : (y != y) = false := by simp
        have r1 := fun d os => cell_regrown hv3 d os
        have r2 := fun d os => cell_regrown hv0 d os
        have HKZ := Lib.hid hkz
        clear hv3 hv0 hG hkz
        go_wp2_with fail
        refine wp_region_quiet_below (by kernel_rfl) (by kernel_rfl) ?_
        repeat (go_big_quiet_step (fail))
        refine wpQuiet_nil ?_
        rintro w' ⟨q, rfl⟩
        have HBQ := Lib.hid (HBE.out.trans ((in_below wr q).mono HBE.out.size))
        go_wp2_with fail
        go_roundw
        case rel => exact ⟨k + 1, by omega, by go_num, HBQ.out⟩
        case measure => simp [intOf]; omega
      · rw [if_neg hkz] at hG
        rw [hG] at hv3
        have e1 := band_self hxb
        generalize old.getD k 0 = x at *
        have hn1 : ((k : Int) != a1) = true := by simp; exact fun e => hkz e.symm
        have hn2 : ((k : Int) == a1) = false := by simp; exact fun e => hkz e.symm
        have hyy : (x != x) = false := by simp
        have r1 := fun d os => cell_regrown hv3 d os
        have r2 := fun d os => cell_regrown hv0 d os
        have HKZ := Lib.hid hkz
        clear hv3 hv0 hG hkz
        go_wp2_with fail
        refine wp_region_quiet_below (by kernel_rfl) (by kernel_rfl) ?_
        repeat (go_big_quiet_step (fail))
        refine wpQuiet_nil ?_
        rintro w' ⟨q, rfl⟩
        have HBQ := Lib.hid (HBE.out.trans ((in_below wr q).mono HBE.out.size))
        go_wp2_with fail
        go_roundw
        case rel => exact ⟨k + 1, by omega, by go_num, HBQ.out⟩
        case measure => simp [intOf]; omega
    · obtain rfl : k = n0 := by omega
      have HBW := Lib.hid (HB2.out.trans (HBE.out.mono HB2.out.size))
      have H3' := Lib.hid ((H3.out.below HBE.out).mono HBE.out.size)
      clear HB2 HBE H3
      go_wp2_with fail
      refine (program_any B3 k d3 wr.heap.size a1 a2 _ wr H3'.out (Nat.le_refl _) (by omega)).mono ?_
      intro e w4 hg
      rw [progL_twice old a1 a2 HO.out.byte H2.out] at hg
      obtain ⟨B4, d4, rfl, hm, hb⟩ := hg.nums HX.out
      have H4 := Lib.hid hm
      have HB4 := Lib.hid (HBW.out.trans (hb.mono HBW.out.size))
      have H3 := Lib.hid ((H3'.out.below hb).mono hb.size)
      clear hg hm hb HBW H3'
      go_wp2_with fail
      refine (same_refl B4 B3 k d4 d3 w4.heap.size _ w4 (by unfold maxLen; omega) H4.out H3.out (Nat.le_refl _)).mono ?_
      rintro e w5 ⟨rfl, hb⟩
      have HB5 := Lib.hid (HB4.out.trans (hb.mono HB4.out.size))
      clear hb HB4 H4 H3
      go_wp2_with fail
      refine (program_any A0 k c0 w.heap.size a1 255 old w5 (HO.out.below HB5.out) HB5.out.size (by omega)).mono ?_
      intro e w6 hg
      rw [progL_all old a1 HO.out.byte] at hg
      obtain ⟨B5, d5, rfl, hm, hb⟩ := hg.nums HO.out.byte
      have H5 := Lib.hid hm
      have HB6 := Lib.hid (HB5.out.trans (hb.mono HB5.out.size))
      clear hg hm hb HB5
      go_wp2_with fail
      refine (same_refl B5 A0 k d5 c0 w6.heap.size _ w6 (by unfold maxLen; omega) H5.out ((HO.out.below HB6.out).mono HB6.out.size) (Nat.le_refl _)).mono ?_
      rintro e w7 ⟨rfl, hb⟩
      have HB7 := Lib.hid (HB6.out.trans (hb.mono HB6.out.size))
      clear hb HB6 H5
      go_wp2_with fail
      go_ret
      exact ⟨rfl, HB7.out⟩
end Go.Proofs.Ytldnbjenklbepaa
