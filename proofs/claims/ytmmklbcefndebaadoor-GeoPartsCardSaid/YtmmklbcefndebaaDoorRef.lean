/-
  THE WALKS OF THE DOCUMENT's ANSWERS, AND OF awake.
-/
import Derived.Test.YtmmklbcefndebaaDoorBase
namespace Go.Proofs.YtmmklbcefndebaaDoor
open Go.RowKit

def atOf (l : List Int) (k : Int) : Int := if 1 ≤ k ∧ k ≤ 10 then l.getD (k - 1).toNat 0 else 0
theorem at_any (b : Nat) (l : List Int) (k : Int) (w : World) (hl : ∀ i, i < 10 → w.cell? ⟨b, i, none⟩ = some (.int .i64 (l.getD i 0))) :
    Calls Tryd.prog 26 #[.slice (some ⟨b, 0, none⟩) 10 10, .int .i64 k] w fun e w' => e = .returned (.int .i64 (atOf l k)) ∧ w' = w := by
  by_cases h0 : k < 1
  · have hv : atOf l k = 0 := by unfold atOf; rw [if_neg (by omega)]
    rw [hv]
    clear hl hv
    go_enter Tryd.func26, Tryd.ntmps26
    go_wp2_with fail
    go_ret
    exact ⟨rfl, rfl⟩
  · by_cases h1 : 10 < k
    · have hv : atOf l k = 0 := by unfold atOf; rw [if_neg (by omega)]
      rw [hv]
      clear hl hv
      go_enter Tryd.func26, Tryd.ntmps26
      go_wp2_with fail
      go_ret
      exact ⟨rfl, rfl⟩
    · have hv : atOf l k = l.getD (k - 1).toNat 0 := by unfold atOf; rw [if_pos (by omega)]
      rw [hv]
      clear hv
      obtain ⟨n, hn⟩ : ∃ n : Int, k - 1 = n := ⟨_, rfl⟩
      obtain rfl : k = n + 1 := by omega
      have hn0 : 0 ≤ n := by omega
      have hn1 : n < 10 := by omega
      have hc := hl n.toNat (by omega)
      rw [hn]
      generalize l.getD n.toNat 0 = v at *
      clear hl hn h0 h1
      go_enter Tryd.func26, Tryd.ntmps26
      go_wp2_with fail
      go_ret
      exact ⟨rfl, rfl⟩

theorem atOf_col (l : List Int) (j : Nat) (h : ∀ n : Nat, n < 10 → l.getD n 0 = (tab.getD (n + 1) []).getD j 0) (h0 : (tab.getD 0 []).getD j 0 = 0) (k : Int) : atOf l k = col k j := by
  unfold atOf col
  by_cases hk : 1 ≤ k ∧ k ≤ 10
  · rw [if_pos hk, if_pos (by omega), h (k - 1).toNat (by omega), show (k - 1).toNat + 1 = k.toNat by omega]
  · rw [if_neg hk]
    by_cases hz : k = 0
    · subst hz; rw [if_pos (by omega)]; exact h0.symm
    · rw [if_neg (by omega)]
theorem ten (w : World) (t : TypeId) (a0 a1 a2 a3 a4 a5 a6 a7 a8 a9 : Int) (i : Nat) (hi : i < 10) :
    (w.alloc (.cells #[.int .i64 a0, .int .i64 a1, .int .i64 a2, .int .i64 a3, .int .i64 a4, .int .i64 a5, .int .i64 a6, .int .i64 a7, .int .i64 a8, .int .i64 a9] t)).cell? ⟨w.heap.size, i, none⟩ = some (.int .i64 ([a0, a1, a2, a3, a4, a5, a6, a7, a8, a9].getD i 0)) := by
  rw [cell_of_row _ _ _ _ _ _ (heap_alloc_new w _)]
  match i, hi with
  | 0, _ | 1, _ | 2, _ | 3, _ | 4, _ | 5, _ | 6, _ | 7, _ | 8, _ | 9, _ => rfl
theorem refEeprom_any (k v : Int) (w0 w : World) (H : On w0 w) (hv : col k 0 = v) : Calls Tryd.prog 10 #[.int .i64 k] w fun e w' => e = .returned (.int .i64 v) ∧ On w0 w' := by
  have HV := Lib.hid ((atOf_col [128, 256, 512, 1024, 2048, 4096, 8192, 16384, 32768, 65536] 0 (by decide) (by decide) k).trans hv)
  have HB := Lib.hid (fun o => H.next (below_box w o))
  clear hv H
  go_enter Tryd.func10, Tryd.ntmps10
  go_wp2_with fail
  refine (at_any _ [128, 256, 512, 1024, 2048, 4096, 8192, 16384, 32768, 65536] k _ (ten w _ _ _ _ _ _ _ _ _ _ _)).mono ?_
  rintro e w1 ⟨rfl, rfl⟩
  rw [HV.out]
  go_wp2_with fail
  go_ret
  exact ⟨rfl, HB.out _⟩
theorem refPage_any (k v : Int) (w0 w : World) (H : On w0 w) (hv : col k 1 = v) : Calls Tryd.prog 12 #[.int .i64 k] w fun e w' => e = .returned (.int .i64 v) ∧ On w0 w' := by
  have HV := Lib.hid ((atOf_col [8, 8, 16, 16, 16, 32, 32, 64, 64, 128] 1 (by decide) (by decide) k).trans hv)
  have HB := Lib.hid (fun o => H.next (below_box w o))
  clear hv H
  go_enter Tryd.func12, Tryd.ntmps12
  go_wp2_with fail
  refine (at_any _ [8, 8, 16, 16, 16, 32, 32, 64, 64, 128] k _ (ten w _ _ _ _ _ _ _ _ _ _ _)).mono ?_
  rintro e w1 ⟨rfl, rfl⟩
  rw [HV.out]
  go_wp2_with fail
  go_ret
  exact ⟨rfl, HB.out _⟩
theorem refWide_any (k v : Int) (w0 w : World) (H : On w0 w) (hv : col k 2 = v) : Calls Tryd.prog 14 #[.int .i64 k] w fun e w' => e = .returned (.int .i64 v) ∧ On w0 w' := by
  have HV := Lib.hid ((atOf_col [1, 1, 1, 1, 1, 2, 2, 2, 2, 2] 2 (by decide) (by decide) k).trans hv)
  have HB := Lib.hid (fun o => H.next (below_box w o))
  clear hv H
  go_enter Tryd.func14, Tryd.ntmps14
  go_wp2_with fail
  refine (at_any _ [1, 1, 1, 1, 1, 2, 2, 2, 2, 2] k _ (ten w _ _ _ _ _ _ _ _ _ _ _)).mono ?_
  rintro e w1 ⟨rfl, rfl⟩
  rw [HV.out]
  go_wp2_with fail
  go_ret
  exact ⟨rfl, HB.out _⟩
theorem refBlocks_any (k v : Int) (w0 w : World) (H : On w0 w) (hv : col k 3 = v) : Calls Tryd.prog 16 #[.int .i64 k] w fun e w' => e = .returned (.int .i64 v) ∧ On w0 w' := by
  have HV := Lib.hid ((atOf_col [0, 0, 1, 2, 3, 0, 0, 0, 0, 0] 3 (by decide) (by decide) k).trans hv)
  have HB := Lib.hid (fun o => H.next (below_box w o))
  clear hv H
  go_enter Tryd.func16, Tryd.ntmps16
  go_wp2_with fail
  refine (at_any _ [0, 0, 1, 2, 3, 0, 0, 0, 0, 0] k _ (ten w _ _ _ _ _ _ _ _ _ _ _)).mono ?_
  rintro e w1 ⟨rfl, rfl⟩
  rw [HV.out]
  go_wp2_with fail
  go_ret
  exact ⟨rfl, HB.out _⟩
theorem refFlash_any (n v : Int) (w : World) (hv : bytesOf n 64 256 = v) : Calls Tryd.prog 18 #[.int .i64 n] w fun e w' => e = .returned (.int .i64 v) ∧ w' = w := by
  subst hv
  by_cases h0 : n < 0
  · have hv : bytesOf n 64 256 = 0 := by unfold bytesOf; rw [if_neg (by omega)]
    rw [hv]
    clear hv
    go_enter Tryd.func18, Tryd.ntmps18
    go_wp2_with fail
    go_ret
    exact ⟨rfl, rfl⟩
  · by_cases h1 : 64 < n
    · have hv : bytesOf n 64 256 = 0 := by unfold bytesOf; rw [if_neg (by omega)]
      rw [hv]
      clear hv
      go_enter Tryd.func18, Tryd.ntmps18
      go_wp2_with fail
      go_ret
      exact ⟨rfl, rfl⟩
    · have hv : bytesOf n 64 256 = 256 * n := by unfold bytesOf; rw [if_pos (by omega)]
      rw [hv]
      clear hv
      go_enter Tryd.func18, Tryd.ntmps18
      go_wp2_with fail
      go_ret
      exact ⟨rfl, rfl⟩
theorem refSram_any (n v : Int) (w : World) (hv : bytesOf n 128 64 = v) : Calls Tryd.prog 20 #[.int .i64 n] w fun e w' => e = .returned (.int .i64 v) ∧ w' = w := by
  subst hv
  by_cases h0 : n < 0
  · have hv : bytesOf n 128 64 = 0 := by unfold bytesOf; rw [if_neg (by omega)]
    rw [hv]
    clear hv
    go_enter Tryd.func20, Tryd.ntmps20
    go_wp2_with fail
    go_ret
    exact ⟨rfl, rfl⟩
  · by_cases h1 : 128 < n
    · have hv : bytesOf n 128 64 = 0 := by unfold bytesOf; rw [if_neg (by omega)]
      rw [hv]
      clear hv
      go_enter Tryd.func20, Tryd.ntmps20
      go_wp2_with fail
      go_ret
      exact ⟨rfl, rfl⟩
    · have hv : bytesOf n 128 64 = 64 * n := by unfold bytesOf; rw [if_pos (by omega)]
      rw [hv]
      clear hv
      go_enter Tryd.func20, Tryd.ntmps20
      go_wp2_with fail
      go_ret
      exact ⟨rfl, rfl⟩

theorem refRight_any (a b c : Int) (r : Bool) (w0 w : World) (H : On w0 w) (hr : right a b c = r) : Calls Tryd.prog 22 #[geoV a b c] w fun e w' => e = .returned (.bool r) ∧ On w0 w' := by
  subst hr
  have HT := Lib.hid (fun o => H.next (below_box w o))
  clear H
  by_cases a0 : 0 ≤ a
  · by_cases a1 : a ≤ 10
    · by_cases b0 : 0 ≤ b
      · by_cases b1 : b ≤ 64
        · by_cases c0 : 0 ≤ c
          · by_cases c1 : c ≤ 128
            · have hv : right a b c = true := by simp [right, *]
              rw [hv]; clear hv
              go_enter Tryd.func22, Tryd.ntmps22
              go_wp2_with fail
              go_ret
              exact ⟨rfl, HT.out _⟩
            · have hv : right a b c = false := by simp [right]; omega
              rw [hv]; clear hv
              go_enter Tryd.func22, Tryd.ntmps22
              go_wp2_with fail
              go_ret
              exact ⟨rfl, HT.out _⟩
          · have hv : right a b c = false := by simp [right]; omega
            rw [hv]; clear hv
            go_enter Tryd.func22, Tryd.ntmps22
            go_wp2_with fail
            go_ret
            exact ⟨rfl, HT.out _⟩
        · have hv : right a b c = false := by simp [right]; omega
          rw [hv]; clear hv
          go_enter Tryd.func22, Tryd.ntmps22
          go_wp2_with fail
          go_ret
          exact ⟨rfl, HT.out _⟩
      · have hv : right a b c = false := by simp [right]; omega
        rw [hv]; clear hv
        go_enter Tryd.func22, Tryd.ntmps22
        go_wp2_with fail
        go_ret
        exact ⟨rfl, HT.out _⟩
    · have hv : right a b c = false := by simp [right]; omega
      rw [hv]; clear hv
      go_enter Tryd.func22, Tryd.ntmps22
      go_wp2_with fail
      go_ret
      exact ⟨rfl, HT.out _⟩
  · have hv : right a b c = false := by simp [right]; omega
    rw [hv]; clear hv
    go_enter Tryd.func22, Tryd.ntmps22
    go_wp2_with fail
    go_ret
    exact ⟨rfl, HT.out _⟩
theorem refEeprom_in (W : World) (p : Regrown) (k v : Int) (hT : Tab W) (hv : col k 0 = v) : Calls Tryd.prog 10 #[.int .i64 k] (In W p) fun e w'' => e = .returned (.int .i64 v) ∧ ∃ q : Regrown, w'' = In W q := by
  apply Calls.regrown_of
  exact (refEeprom_any k v _ _ (on_in hT p) hv).mono fun _ _ h => ⟨h.1, h.2.bel⟩
theorem refFlash_in (W : World) (p : Regrown) (n v : Int) (hv : bytesOf n 64 256 = v) : Calls Tryd.prog 18 #[.int .i64 n] (In W p) fun e w'' => e = .returned (.int .i64 v) ∧ ∃ q : Regrown, w'' = In W q :=
  (refFlash_any n v _ hv).mono fun _ _ h => ⟨h.1, p, h.2⟩
theorem refSram_in (W : World) (p : Regrown) (n v : Int) (hv : bytesOf n 128 64 = v) : Calls Tryd.prog 20 #[.int .i64 n] (In W p) fun e w'' => e = .returned (.int .i64 v) ∧ ∃ q : Regrown, w'' = In W q :=
  (refSram_any n v _ hv).mono fun _ _ h => ⟨h.1, p, h.2⟩
theorem refTotal_any (a b c v : Int) (w0 w : World) (H : On w0 w) (hv : total a b c = v) : Calls Tryd.prog 24 #[geoV a b c] w fun e w' => e = .returned (.int .i64 v) ∧ On w0 w' := by
  subst hv
  have HT := Lib.hid (fun o => H.next (below_box w o))
  clear H
  cases hr : right a b c
  · have HR := Lib.hid hr
    have HV := Lib.hid (show total a b c = 0 by simp [total, hr])
    rw [HV.out]
    clear hr
    go_enter Tryd.func24, Tryd.ntmps24
    go_wp2_with fail
    refine (refRight_any a b c false _ _ (HT.out _) HR.out).mono ?_
    rintro e w1 ⟨rfl, hw1⟩
    have HW1 := Lib.hid hw1
    clear hw1
    go_wp2_with fail
    go_ret
    exact ⟨rfl, HW1.out⟩
  · have HR := Lib.hid hr
    have HV := Lib.hid (show total a b c = col a 0 + bytesOf b 64 256 + bytesOf c 128 64 by simp [total, hr])
    rw [HV.out]
    clear hr
    obtain ⟨x, hx⟩ : ∃ x, col a 0 = x := ⟨_, rfl⟩
    obtain ⟨y, hy⟩ : ∃ x, bytesOf b 64 256 = x := ⟨_, rfl⟩
    obtain ⟨z, hz⟩ : ∃ x, bytesOf c 128 64 = x := ⟨_, rfl⟩
    obtain ⟨hx0, hx1⟩ := hx ▸ col0_bounds a
    obtain ⟨hy0, hy1⟩ := hy ▸ bytesOf_bounds b 64 256 (by omega) (by omega) (by omega)
    obtain ⟨hz0, hz1⟩ := hz ▸ bytesOf_bounds c 128 64 (by omega) (by omega) (by omega)
    rw [hx, hy, hz]
    have HX := Lib.hid hx
    have HY := Lib.hid hy
    have HZ := Lib.hid hz
    clear hx hy hz HV
    go_enter Tryd.func24, Tryd.ntmps24
    go_wp2_with fail
    refine (refRight_any a b c true _ _ (On.start (HT.out _).tab) HR.out).mono ?_
    rintro e w1 ⟨rfl, hw1⟩
    have hc0 := (hw1.bel.cell (p := ⟨w.heap.size, 0, none⟩) (by simp)).trans (boxed w _ _ _ _).1
    have hc1 := (hw1.bel.cell (p := ⟨w.heap.size, 1, none⟩) (by simp)).trans (boxed w _ _ _ _).2.1
    have hc2 := (hw1.bel.cell (p := ⟨w.heap.size, 2, none⟩) (by simp)).trans (boxed w _ _ _ _).2.2
    have HT1 := Lib.hid hw1.tab
    have HW1 := Lib.hid ((HT.out _).next hw1.bel)
    clear hw1
    go_wp2_with fail
    have hr0 := fun d os => cell_regrown hc0 d os
    have hr1 := fun d os => cell_regrown hc1 d os
    have hr2 := fun d os => cell_regrown hc2 d os
    clear hc0 hc1 hc2
    refine wp_region_quiet_below (by kernel_rfl) (by kernel_rfl) ?_
    iterate 2 go_big_quiet_step (fail)
    go_big_quiet_step ((refine refEeprom_in w1 _ a x HT1.out HX.out))
    iterate 2 go_big_quiet_step (fail)
    go_big_quiet_step ((refine refFlash_in w1 _ b y HY.out))
    iterate 3 go_big_quiet_step (fail)
    go_big_quiet_step ((refine refSram_in w1 _ c z HZ.out))
    repeat (go_big_quiet_step (fail))
    refine wpQuiet_nil ?_
    rintro w' ⟨q, rfl⟩
    have HQ := Lib.hid (HW1.out.next (in_below w1 q))
    go_wp2_with fail
    go_ret
    exact ⟨rfl, HQ.out⟩

theorem awake_any (w0 w : World) (H : On w0 w) : Calls Tryd.prog 8 #[] w fun e w' => e = .returned (.bool true) ∧ On w0 w' := by
  have H0 := Lib.hid H
  clear H
  go_enter Tryd.func8, Tryd.ntmps8
  go_wp2_with fail
  refine (eeprom_any 3 512 _ _ H0.out (by decide)).mono ?_
  rintro e w1 ⟨rfl, hw1⟩
  have H1 := Lib.hid hw1
  clear hw1
  go_wp2_with fail
  refine (page_any 3 16 _ _ H1.out (by decide)).mono ?_
  rintro e w2 ⟨rfl, hw1⟩
  have H2 := Lib.hid hw1
  clear hw1
  go_wp2_with fail
  refine (wide_any 3 1 _ _ H2.out (by decide)).mono ?_
  rintro e w3 ⟨rfl, hw1⟩
  have H3 := Lib.hid hw1
  clear hw1
  go_wp2_with fail
  refine (blocks_any 3 1 _ _ H3.out (by decide)).mono ?_
  rintro e w4 ⟨rfl, hw1⟩
  have H4 := Lib.hid hw1
  clear hw1
  go_wp2_with fail
  refine (right_any 0 0 0 true _ _ H4.out (by decide)).mono ?_
  rintro e w5 ⟨rfl, hw1⟩
  have H5 := Lib.hid hw1
  clear hw1
  go_wp2_with fail
  refine (flash_any 2 512 _ (by decide)).mono ?_
  rintro e w6 ⟨rfl, rfl⟩
  go_wp2_with fail
  refine (sram_any 2 128 _ (by decide)).mono ?_
  rintro e w6 ⟨rfl, rfl⟩
  go_wp2_with fail
  go_ret
  exact ⟨rfl, H5.out⟩
end Go.Proofs.YtmmklbcefndebaaDoor
