/-
  THE WALKS OF THE FIVE LAWS OF LAYER 3.
-/
import Derived.Test.YtmmklbcefndebaaDoorRef
import Derived.Lib.MinMax
namespace Go.Proofs.YtmmklbcefndebaaDoor
open Go.RowKit

theorem geoTells_walk (k : Int) (_ : (Lit.int .i64 k).wf = true) (s : Int) (_ : (Lit.int .i64 s).wf = true) (u : Int) (_ : (Lit.int .i64 u).wf = true) (w : World) (hT : Tab w) :
    Calls Tryd.prog 3 #[.int .i64 k, .int .i64 s, .int .i64 u] w fun e w' => e = .returned (.bool true) ∧ Below w.heap.size w w' := by
  have H0 := Lib.hid (On.start hT)
  clear hT
  obtain ⟨x0, hx0⟩ : ∃ x, col k 0 = x := ⟨_, rfl⟩
  obtain ⟨x1, hx1⟩ : ∃ x, col k 1 = x := ⟨_, rfl⟩
  obtain ⟨x2, hx2⟩ : ∃ x, col k 2 = x := ⟨_, rfl⟩
  obtain ⟨x3, hx3⟩ : ∃ x, col k 3 = x := ⟨_, rfl⟩
  obtain ⟨x4, hx4⟩ : ∃ x, bytesOf s 64 256 = x := ⟨_, rfl⟩
  obtain ⟨x5, hx5⟩ : ∃ x, bytesOf u 128 64 = x := ⟨_, rfl⟩
  have X0 := Lib.hid hx0
  have X1 := Lib.hid hx1
  have X2 := Lib.hid hx2
  have X3 := Lib.hid hx3
  have X4 := Lib.hid hx4
  have X5 := Lib.hid hx5
  clear hx0 hx1 hx2 hx3 hx4 hx5
  go_enter Tryd.func3, Tryd.ntmps3
  go_wp2_with fail
  refine (awake_any _ _ H0.out).mono ?_
  rintro e w1 ⟨rfl, hw⟩
  have H1 := Lib.hid hw
  clear hw
  go_wp2_with fail
  refine (eeprom_any k x0 _ _ H1.out X0.out).mono ?_
  rintro e w2 ⟨rfl, hw⟩
  have H2 := Lib.hid hw
  clear hw
  go_wp2_with fail
  refine (refEeprom_any k x0 _ _ H2.out X0.out).mono ?_
  rintro e w3 ⟨rfl, hw⟩
  have H3 := Lib.hid hw
  clear hw
  go_wp2_with fail
  refine (page_any k x1 _ _ H3.out X1.out).mono ?_
  rintro e w4 ⟨rfl, hw⟩
  have H4 := Lib.hid hw
  clear hw
  go_wp2_with fail
  refine (refPage_any k x1 _ _ H4.out X1.out).mono ?_
  rintro e w5 ⟨rfl, hw⟩
  have H5 := Lib.hid hw
  clear hw
  go_wp2_with fail
  refine (wide_any k x2 _ _ H5.out X2.out).mono ?_
  rintro e w6 ⟨rfl, hw⟩
  have H6 := Lib.hid hw
  clear hw
  go_wp2_with fail
  refine (refWide_any k x2 _ _ H6.out X2.out).mono ?_
  rintro e w7 ⟨rfl, hw⟩
  have H7 := Lib.hid hw
  clear hw
  go_wp2_with fail
  refine (blocks_any k x3 _ _ H7.out X3.out).mono ?_
  rintro e w8 ⟨rfl, hw⟩
  have H8 := Lib.hid hw
  clear hw
  go_wp2_with fail
  refine (refBlocks_any k x3 _ _ H8.out X3.out).mono ?_
  rintro e w9 ⟨rfl, hw⟩
  have H9 := Lib.hid hw
  clear hw
  go_wp2_with fail
  refine (flash_any s x4 _ X4.out).mono ?_
  rintro e w10 ⟨rfl, rfl⟩
  go_wp2_with fail
  refine (refFlash_any s x4 _ X4.out).mono ?_
  rintro e w10 ⟨rfl, rfl⟩
  go_wp2_with fail
  refine (sram_any u x5 _ X5.out).mono ?_
  rintro e w10 ⟨rfl, rfl⟩
  go_wp2_with fail
  refine (refSram_any u x5 _ X5.out).mono ?_
  rintro e w10 ⟨rfl, rfl⟩
  go_wp2_with fail
  go_ret
  exact ⟨rfl, H9.out.bel⟩

theorem right_in (W : World) (p : Regrown) (a b c : Int) (r : Bool) (hT : Tab W) (hr : right a b c = r) : Calls Tryd.prog 21 #[geoV a b c] (In W p) fun e w'' => e = .returned (.bool r) ∧ ∃ q : Regrown, w'' = In W q := by
  apply Calls.regrown_of
  exact (right_any a b c r _ _ (on_in hT p) hr).mono fun _ _ h => ⟨h.1, h.2.bel⟩
theorem refRight_in (W : World) (p : Regrown) (a b c : Int) (r : Bool) (hT : Tab W) (hr : right a b c = r) : Calls Tryd.prog 22 #[geoV a b c] (In W p) fun e w'' => e = .returned (.bool r) ∧ ∃ q : Regrown, w'' = In W q := by
  apply Calls.regrown_of
  exact (refRight_any a b c r _ _ (on_in hT p) hr).mono fun _ _ h => ⟨h.1, h.2.bel⟩
theorem total_in (W : World) (p : Regrown) (a b c v : Int) (hT : Tab W) (hr : total a b c = v) : Calls Tryd.prog 23 #[geoV a b c] (In W p) fun e w'' => e = .returned (.int .i64 v) ∧ ∃ q : Regrown, w'' = In W q := by
  apply Calls.regrown_of
  exact (total_any a b c v _ _ (on_in hT p) hr).mono fun _ _ h => ⟨h.1, h.2.bel⟩
theorem refTotal_in (W : World) (p : Regrown) (a b c v : Int) (hT : Tab W) (hr : total a b c = v) : Calls Tryd.prog 24 #[geoV a b c] (In W p) fun e w'' => e = .returned (.int .i64 v) ∧ ∃ q : Regrown, w'' = In W q := by
  apply Calls.regrown_of
  exact (refTotal_any a b c v _ _ (on_in hT p) hr).mono fun _ _ h => ⟨h.1, h.2.bel⟩

theorem geoTotals_walk (a : Int) (_ : (Lit.int .i64 a).wf = true) (b : Int) (_ : (Lit.int .i64 b).wf = true) (c : Int) (_ : (Lit.int .i64 c).wf = true) (w : World) (hT : Tab w) :
    Calls Tryd.prog 4 #[geoV a b c] w fun e w' => e = .returned (.bool true) ∧ Below w.heap.size w w' := by
  have H0 := Lib.hid (fun o => (On.start hT).next (below_box w o))
  clear hT
  obtain ⟨r, hr⟩ : ∃ x, right a b c = x := ⟨_, rfl⟩
  obtain ⟨v, hv⟩ : ∃ x, total a b c = x := ⟨_, rfl⟩
  have HR := Lib.hid hr
  have HV := Lib.hid hv
  clear hr hv
  go_enter Tryd.func4, Tryd.ntmps4
  go_wp2_with fail
  refine (awake_any _ _ (On.start (H0.out _).tab)).mono ?_
  rintro e w1 ⟨rfl, hw1⟩
  have hc0 := fun d os => cell_regrown ((hw1.bel.cell (p := ⟨w.heap.size, 0, none⟩) (by simp)).trans (boxed w _ _ _ _).1) d os
  have hc1 := fun d os => cell_regrown ((hw1.bel.cell (p := ⟨w.heap.size, 1, none⟩) (by simp)).trans (boxed w _ _ _ _).2.1) d os
  have hc2 := fun d os => cell_regrown ((hw1.bel.cell (p := ⟨w.heap.size, 2, none⟩) (by simp)).trans (boxed w _ _ _ _).2.2) d os
  have HT1 := Lib.hid hw1.tab
  have HW1 := Lib.hid ((H0.out _).next hw1.bel)
  clear hw1
  go_wp2_with fail
  refine wp_region_quiet_below (by kernel_rfl) (by kernel_rfl) ?_
  iterate 3 go_big_quiet_step (fail)
  go_big_quiet_step ((refine right_in w1 _ a b c r HT1.out HR.out))
  go_big_quiet_step (fail)
  go_big_quiet_step ((refine refRight_in w1 _ a b c r HT1.out HR.out))
  iterate 4 go_big_quiet_step (fail)
  go_big_quiet_step ((refine total_in w1 _ a b c v HT1.out HV.out))
  go_big_quiet_step (fail)
  go_big_quiet_step ((refine refTotal_in w1 _ a b c v HT1.out HV.out))
  repeat (go_big_quiet_step (fail))
  refine wpQuiet_nil ?_
  rintro w' ⟨q, rfl⟩
  have HQ := Lib.hid (HW1.out.next (in_below w1 q))
  go_wp2_with fail
  go_ret
  exact ⟨by simp, HQ.out.bel⟩

theorem doubles (k : Int) (h0 : 1 ≤ k) (h1 : k ≤ 9) : col (k + 1) 0 = 2 * col k 0 ∧ col k 1 ≤ col (k + 1) 1 ∧ col k 2 ≤ col (k + 1) 2 := by
  obtain ⟨n, rfl⟩ := Int.eq_ofNat_of_zero_le (show 0 ≤ k by omega)
  have h : ∀ n : Nat, n < 9 → col ((n + 1 : Nat) + 1) 0 = 2 * col (n + 1 : Nat) 0 ∧ col (n + 1 : Nat) 1 ≤ col ((n + 1 : Nat) + 1) 1 ∧ col (n + 1 : Nat) 2 ≤ col ((n + 1 : Nat) + 1) 2 := by decide
  have := h (n - 1) (by omega)
  rwa [show n - 1 + 1 = n by omega] at this

theorem geoDoubles_walk (a : Int) (wa : (Lit.int .u8 a).wf = true) (w : World) (hT : Tab w) :
    Calls Tryd.prog 5 #[.int .u8 a] w fun e w' => e = .returned (.bool true) ∧ Below w.heap.size w w' := by
  have ha : 0 ≤ a ∧ a ≤ 255 := by simpa [Lit.wf, IntKind.min, IntKind.max, IntKind.signed, IntKind.bits] using wa
  obtain ⟨ha0, ha1⟩ := ha
  have H0 := Lib.hid (On.start hT)
  clear hT wa
  obtain ⟨k, hk, hk0, hk1⟩ : ∃ k, 2 + a % 9 = k + 1 ∧ 1 ≤ k ∧ k ≤ 9 := ⟨1 + a % 9, by omega, by omega, by omega⟩
  obtain ⟨x, hx⟩ : ∃ x, col k 0 = x := ⟨_, rfl⟩
  obtain ⟨p, hp⟩ : ∃ x, col k 1 = x := ⟨_, rfl⟩
  obtain ⟨q, hq⟩ : ∃ x, col k 2 = x := ⟨_, rfl⟩
  obtain ⟨p', hp'⟩ : ∃ x, col (k + 1) 1 = x := ⟨_, rfl⟩
  obtain ⟨q', hq'⟩ : ∃ x, col (k + 1) 2 = x := ⟨_, rfl⟩
  obtain ⟨hd0, hd1, hd2⟩ := doubles k hk0 hk1
  obtain ⟨hb0, hb1⟩ := col0_bounds k
  rw [hx] at hb0 hb1 hd0
  rw [hp, hp'] at hd1
  rw [hq, hq'] at hd2
  have X0 := Lib.hid hx
  have X1 := Lib.hid hp
  have X2 := Lib.hid hq
  have Y0 := Lib.hid hd0
  have Y1 := Lib.hid hp'
  have Y2 := Lib.hid hq'
  have HK := Lib.hid hk
  clear hx hp hq hd0 hp' hq' hk
  go_enter Tryd.func5, Tryd.ntmps5
  go_wp2_with fail
  refine (awake_any _ _ H0.out).mono ?_
  rintro e w1 ⟨rfl, hw⟩
  have H1 := Lib.hid hw
  clear hw
  go_wp2_with fail
  rw [HK.out]
  refine (eeprom_any (k + 1) (2 * x) _ _ H1.out Y0.out).mono ?_
  rintro e w2 ⟨rfl, hw⟩
  have H2 := Lib.hid hw
  clear hw
  go_wp2_with fail
  refine (eeprom_any k x _ _ H2.out X0.out).mono ?_
  rintro e w3 ⟨rfl, hw⟩
  have H3 := Lib.hid hw
  clear hw
  go_wp2_with fail
  refine (page_any (k + 1) p' _ _ H3.out Y1.out).mono ?_
  rintro e w4 ⟨rfl, hw⟩
  have H4 := Lib.hid hw
  clear hw
  go_wp2_with fail
  refine (page_any k p _ _ H4.out X1.out).mono ?_
  rintro e w5 ⟨rfl, hw⟩
  have H5 := Lib.hid hw
  clear hw
  go_wp2_with fail
  refine (wide_any (k + 1) q' _ _ H5.out Y2.out).mono ?_
  rintro e w6 ⟨rfl, hw⟩
  have H6 := Lib.hid hw
  clear hw
  go_wp2_with fail
  refine (wide_any k q _ _ H6.out X2.out).mono ?_
  rintro e w7 ⟨rfl, hw⟩
  have H7 := Lib.hid hw
  clear hw
  go_wp2_with fail
  go_ret
  exact ⟨rfl, H7.out.bel⟩

theorem ret_bool {b : Bool} (h : b = true) : Ending.returned (.bool b) = .returned (.bool true) := by rw [h]
theorem kinds (k : Int) (h0 : 1 ≤ k) (h1 : k ≤ 10) : k = 1 ∨ k = 2 ∨ k = 3 ∨ k = 4 ∨ k = 5 ∨ k = 6 ∨ k = 7 ∨ k = 8 ∨ k = 9 ∨ k = 10 := by omega
theorem geoAddress_walk (a : Int) (wa : (Lit.int .u8 a).wf = true) (w : World) (hT : Tab w) :
    Calls Tryd.prog 6 #[.int .u8 a] w fun e w' => e = .returned (.bool true) ∧ Below w.heap.size w w' := by
  have ha : 0 ≤ a ∧ a ≤ 255 := by simpa [Lit.wf, IntKind.min, IntKind.max, IntKind.signed, IntKind.bits] using wa
  obtain ⟨ha0, ha1⟩ := ha
  have H0 := Lib.hid (On.start hT)
  clear hT wa
  obtain ⟨k, hk, hk0, hk1⟩ : ∃ k, 1 + a % 10 = k ∧ 1 ≤ k ∧ k ≤ 10 := ⟨1 + a % 10, by omega, by omega, by omega⟩
  have HK := Lib.hid hk
  clear hk
  rcases kinds k hk0 hk1 with rfl | rfl | rfl | rfl | rfl | rfl | rfl | rfl | rfl | rfl
  · go_enter Tryd.func6, Tryd.ntmps6
    go_wp2_with fail
    refine (awake_any _ _ H0.out).mono ?_
    rintro e w1 ⟨rfl, hw⟩
    have H1 := Lib.hid hw
    clear hw
    go_wp2_with fail
    rw [HK.out]
    refine (eeprom_any 1 128 _ _ H1.out (by decide)).mono ?_
    rintro e w2 ⟨rfl, hw⟩
    have H2 := Lib.hid hw
    clear hw
    go_wp2_with fail
    refine (page_any 1 8 _ _ H2.out (by decide)).mono ?_
    rintro e w3 ⟨rfl, hw⟩
    have H3 := Lib.hid hw
    clear hw
    go_wp2_with fail
    refine (wide_any 1 1 _ _ H3.out (by decide)).mono ?_
    rintro e w4 ⟨rfl, hw⟩
    have H4 := Lib.hid hw
    clear hw
    go_wp2_with fail
    refine (blocks_any 1 0 _ _ H4.out (by decide)).mono ?_
    rintro e w5 ⟨rfl, hw⟩
    have H5 := Lib.hid hw
    clear hw
    go_wp2_with fail
    go_ret
    exact ⟨ret_bool (by decide +kernel), H5.out.bel⟩
  · go_enter Tryd.func6, Tryd.ntmps6
    go_wp2_with fail
    refine (awake_any _ _ H0.out).mono ?_
    rintro e w1 ⟨rfl, hw⟩
    have H1 := Lib.hid hw
    clear hw
    go_wp2_with fail
    rw [HK.out]
    refine (eeprom_any 2 256 _ _ H1.out (by decide)).mono ?_
    rintro e w2 ⟨rfl, hw⟩
    have H2 := Lib.hid hw
    clear hw
    go_wp2_with fail
    refine (page_any 2 8 _ _ H2.out (by decide)).mono ?_
    rintro e w3 ⟨rfl, hw⟩
    have H3 := Lib.hid hw
    clear hw
    go_wp2_with fail
    refine (wide_any 2 1 _ _ H3.out (by decide)).mono ?_
    rintro e w4 ⟨rfl, hw⟩
    have H4 := Lib.hid hw
    clear hw
    go_wp2_with fail
    refine (blocks_any 2 0 _ _ H4.out (by decide)).mono ?_
    rintro e w5 ⟨rfl, hw⟩
    have H5 := Lib.hid hw
    clear hw
    go_wp2_with fail
    go_ret
    exact ⟨ret_bool (by decide +kernel), H5.out.bel⟩
  · go_enter Tryd.func6, Tryd.ntmps6
    go_wp2_with fail
    refine (awake_any _ _ H0.out).mono ?_
    rintro e w1 ⟨rfl, hw⟩
    have H1 := Lib.hid hw
    clear hw
    go_wp2_with fail
    rw [HK.out]
    refine (eeprom_any 3 512 _ _ H1.out (by decide)).mono ?_
    rintro e w2 ⟨rfl, hw⟩
    have H2 := Lib.hid hw
    clear hw
    go_wp2_with fail
    refine (page_any 3 16 _ _ H2.out (by decide)).mono ?_
    rintro e w3 ⟨rfl, hw⟩
    have H3 := Lib.hid hw
    clear hw
    go_wp2_with fail
    refine (wide_any 3 1 _ _ H3.out (by decide)).mono ?_
    rintro e w4 ⟨rfl, hw⟩
    have H4 := Lib.hid hw
    clear hw
    go_wp2_with fail
    refine (blocks_any 3 1 _ _ H4.out (by decide)).mono ?_
    rintro e w5 ⟨rfl, hw⟩
    have H5 := Lib.hid hw
    clear hw
    go_wp2_with fail
    go_ret
    exact ⟨ret_bool (by decide +kernel), H5.out.bel⟩
  · go_enter Tryd.func6, Tryd.ntmps6
    go_wp2_with fail
    refine (awake_any _ _ H0.out).mono ?_
    rintro e w1 ⟨rfl, hw⟩
    have H1 := Lib.hid hw
    clear hw
    go_wp2_with fail
    rw [HK.out]
    refine (eeprom_any 4 1024 _ _ H1.out (by decide)).mono ?_
    rintro e w2 ⟨rfl, hw⟩
    have H2 := Lib.hid hw
    clear hw
    go_wp2_with fail
    refine (page_any 4 16 _ _ H2.out (by decide)).mono ?_
    rintro e w3 ⟨rfl, hw⟩
    have H3 := Lib.hid hw
    clear hw
    go_wp2_with fail
    refine (wide_any 4 1 _ _ H3.out (by decide)).mono ?_
    rintro e w4 ⟨rfl, hw⟩
    have H4 := Lib.hid hw
    clear hw
    go_wp2_with fail
    refine (blocks_any 4 2 _ _ H4.out (by decide)).mono ?_
    rintro e w5 ⟨rfl, hw⟩
    have H5 := Lib.hid hw
    clear hw
    go_wp2_with fail
    go_ret
    exact ⟨ret_bool (by decide +kernel), H5.out.bel⟩
  · go_enter Tryd.func6, Tryd.ntmps6
    go_wp2_with fail
    refine (awake_any _ _ H0.out).mono ?_
    rintro e w1 ⟨rfl, hw⟩
    have H1 := Lib.hid hw
    clear hw
    go_wp2_with fail
    rw [HK.out]
    refine (eeprom_any 5 2048 _ _ H1.out (by decide)).mono ?_
    rintro e w2 ⟨rfl, hw⟩
    have H2 := Lib.hid hw
    clear hw
    go_wp2_with fail
    refine (page_any 5 16 _ _ H2.out (by decide)).mono ?_
    rintro e w3 ⟨rfl, hw⟩
    have H3 := Lib.hid hw
    clear hw
    go_wp2_with fail
    refine (wide_any 5 1 _ _ H3.out (by decide)).mono ?_
    rintro e w4 ⟨rfl, hw⟩
    have H4 := Lib.hid hw
    clear hw
    go_wp2_with fail
    refine (blocks_any 5 3 _ _ H4.out (by decide)).mono ?_
    rintro e w5 ⟨rfl, hw⟩
    have H5 := Lib.hid hw
    clear hw
    go_wp2_with fail
    go_ret
    exact ⟨ret_bool (by decide +kernel), H5.out.bel⟩
  · go_enter Tryd.func6, Tryd.ntmps6
    go_wp2_with fail
    refine (awake_any _ _ H0.out).mono ?_
    rintro e w1 ⟨rfl, hw⟩
    have H1 := Lib.hid hw
    clear hw
    go_wp2_with fail
    rw [HK.out]
    refine (eeprom_any 6 4096 _ _ H1.out (by decide)).mono ?_
    rintro e w2 ⟨rfl, hw⟩
    have H2 := Lib.hid hw
    clear hw
    go_wp2_with fail
    refine (page_any 6 32 _ _ H2.out (by decide)).mono ?_
    rintro e w3 ⟨rfl, hw⟩
    have H3 := Lib.hid hw
    clear hw
    go_wp2_with fail
    refine (wide_any 6 2 _ _ H3.out (by decide)).mono ?_
    rintro e w4 ⟨rfl, hw⟩
    have H4 := Lib.hid hw
    clear hw
    go_wp2_with fail
    refine (blocks_any 6 0 _ _ H4.out (by decide)).mono ?_
    rintro e w5 ⟨rfl, hw⟩
    have H5 := Lib.hid hw
    clear hw
    go_wp2_with fail
    go_ret
    exact ⟨ret_bool (by decide +kernel), H5.out.bel⟩
  · go_enter Tryd.func6, Tryd.ntmps6
    go_wp2_with fail
    refine (awake_any _ _ H0.out).mono ?_
    rintro e w1 ⟨rfl, hw⟩
    have H1 := Lib.hid hw
    clear hw
    go_wp2_with fail
    rw [HK.out]
    refine (eeprom_any 7 8192 _ _ H1.out (by decide)).mono ?_
    rintro e w2 ⟨rfl, hw⟩
    have H2 := Lib.hid hw
    clear hw
    go_wp2_with fail
    refine (page_any 7 32 _ _ H2.out (by decide)).mono ?_
    rintro e w3 ⟨rfl, hw⟩
    have H3 := Lib.hid hw
    clear hw
    go_wp2_with fail
    refine (wide_any 7 2 _ _ H3.out (by decide)).mono ?_
    rintro e w4 ⟨rfl, hw⟩
    have H4 := Lib.hid hw
    clear hw
    go_wp2_with fail
    refine (blocks_any 7 0 _ _ H4.out (by decide)).mono ?_
    rintro e w5 ⟨rfl, hw⟩
    have H5 := Lib.hid hw
    clear hw
    go_wp2_with fail
    go_ret
    exact ⟨ret_bool (by decide +kernel), H5.out.bel⟩
  · go_enter Tryd.func6, Tryd.ntmps6
    go_wp2_with fail
    refine (awake_any _ _ H0.out).mono ?_
    rintro e w1 ⟨rfl, hw⟩
    have H1 := Lib.hid hw
    clear hw
    go_wp2_with fail
    rw [HK.out]
    refine (eeprom_any 8 16384 _ _ H1.out (by decide)).mono ?_
    rintro e w2 ⟨rfl, hw⟩
    have H2 := Lib.hid hw
    clear hw
    go_wp2_with fail
    refine (page_any 8 64 _ _ H2.out (by decide)).mono ?_
    rintro e w3 ⟨rfl, hw⟩
    have H3 := Lib.hid hw
    clear hw
    go_wp2_with fail
    refine (wide_any 8 2 _ _ H3.out (by decide)).mono ?_
    rintro e w4 ⟨rfl, hw⟩
    have H4 := Lib.hid hw
    clear hw
    go_wp2_with fail
    refine (blocks_any 8 0 _ _ H4.out (by decide)).mono ?_
    rintro e w5 ⟨rfl, hw⟩
    have H5 := Lib.hid hw
    clear hw
    go_wp2_with fail
    go_ret
    exact ⟨ret_bool (by decide +kernel), H5.out.bel⟩
  · go_enter Tryd.func6, Tryd.ntmps6
    go_wp2_with fail
    refine (awake_any _ _ H0.out).mono ?_
    rintro e w1 ⟨rfl, hw⟩
    have H1 := Lib.hid hw
    clear hw
    go_wp2_with fail
    rw [HK.out]
    refine (eeprom_any 9 32768 _ _ H1.out (by decide)).mono ?_
    rintro e w2 ⟨rfl, hw⟩
    have H2 := Lib.hid hw
    clear hw
    go_wp2_with fail
    refine (page_any 9 64 _ _ H2.out (by decide)).mono ?_
    rintro e w3 ⟨rfl, hw⟩
    have H3 := Lib.hid hw
    clear hw
    go_wp2_with fail
    refine (wide_any 9 2 _ _ H3.out (by decide)).mono ?_
    rintro e w4 ⟨rfl, hw⟩
    have H4 := Lib.hid hw
    clear hw
    go_wp2_with fail
    refine (blocks_any 9 0 _ _ H4.out (by decide)).mono ?_
    rintro e w5 ⟨rfl, hw⟩
    have H5 := Lib.hid hw
    clear hw
    go_wp2_with fail
    go_ret
    exact ⟨ret_bool (by decide +kernel), H5.out.bel⟩
  · go_enter Tryd.func6, Tryd.ntmps6
    go_wp2_with fail
    refine (awake_any _ _ H0.out).mono ?_
    rintro e w1 ⟨rfl, hw⟩
    have H1 := Lib.hid hw
    clear hw
    go_wp2_with fail
    rw [HK.out]
    refine (eeprom_any 10 65536 _ _ H1.out (by decide)).mono ?_
    rintro e w2 ⟨rfl, hw⟩
    have H2 := Lib.hid hw
    clear hw
    go_wp2_with fail
    refine (page_any 10 128 _ _ H2.out (by decide)).mono ?_
    rintro e w3 ⟨rfl, hw⟩
    have H3 := Lib.hid hw
    clear hw
    go_wp2_with fail
    refine (wide_any 10 2 _ _ H3.out (by decide)).mono ?_
    rintro e w4 ⟨rfl, hw⟩
    have H4 := Lib.hid hw
    clear hw
    go_wp2_with fail
    refine (blocks_any 10 0 _ _ H4.out (by decide)).mono ?_
    rintro e w5 ⟨rfl, hw⟩
    have H5 := Lib.hid hw
    clear hw
    go_wp2_with fail
    go_ret
    exact ⟨ret_bool (by decide +kernel), H5.out.bel⟩

end Go.Proofs.YtmmklbcefndebaaDoor
