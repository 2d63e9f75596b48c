/-
  THE WALKS OF geo.Right, geo.Total AND OF THE DOCUMENT's, with what stands below them.
-/
import Derived.Test.YtpbhkkcboppdmaaDoorHBase
namespace Go.Proofs.YtpbhkkcboppdmaaDoor
open Ks Go.RowKit
set_option maxRecDepth 20000

theorem mayBe_any (n m : Int) (w : World) : Calls Tryd.prog 60 #[.int .i64 n, .int .i64 m] w fun e w' => e = .returned (.bool (decide (0 ≤ n ∧ n ≤ m))) ∧ w' = w := by
  by_cases h0 : (0 : Int) ≤ n
  · by_cases h1 : n ≤ m
    · go_enter Tryd.func60, Tryd.ntmps60
      go_wp2_with fail
      go_ret
      exact ⟨by simp [h0, h1], rfl⟩
    · go_enter Tryd.func60, Tryd.ntmps60
      go_wp2_with fail
      go_ret
      exact ⟨by simp [h1], rfl⟩
  · go_enter Tryd.func60, Tryd.ntmps60
    go_wp2_with fail
    go_ret
    exact ⟨by rw [decide_eq_false (by omega)]; rfl, rfl⟩

theorem tab_at {w : World} (hT : Tab w) (o : Obj) (k : Int) (j : Nat) (h0 : 0 ≤ k) (h1 : k ≤ 10) (hj : j < 4) : (w.alloc o).cell? ⟨0, k.toNat * 4 + j, none⟩ = some (.int .i64 (col k j)) := by
  have h := tab_below hT ((Below.refl w.heap.size w).alloc (Nat.le_refl _) o) (tab_pos hT)
  have h := h.2 k.toNat j (by omega) hj
  rw [Nat.mul_comm k.toNat 4, h]
  simp [col, h0, h1]
theorem tab_at0 {w : World} (hT : Tab w) (o : Obj) (k : Int) (h0 : 0 ≤ k) (h1 : k ≤ 10) : (w.alloc o).cell? ⟨0, k.toNat * 4, none⟩ = some (.int .i64 (col k 0)) := tab_at hT o k 0 h0 h1 (by omega)
theorem col_out (k : Int) (j : Nat) (h : ¬ (0 ≤ k ∧ k ≤ 10)) : col k j = 0 := by unfold col; rw [if_neg h]
theorem row_any (k : Int) (w : World) (hT : Tab w) : Calls Tryd.prog 90 #[.int .i64 k] w fun e w' => e = .returned (.agg #[.int .i64 (col k 0), .int .i64 (col k 1), .int .i64 (col k 2), .int .i64 (col k 3)]) ∧ Below w.heap.size w w' := by
  have HT := Lib.hid hT
  clear hT
  by_cases hk : 0 ≤ k ∧ k ≤ 10
  · have hd : decide (0 ≤ k ∧ k ≤ 10) = true := decide_eq_true hk
    obtain ⟨hk0, hk1⟩ := hk
    have c0 := fun o => tab_at0 HT.out o k hk0 hk1
    have c1 := fun o => tab_at HT.out o k 1 hk0 hk1 (by omega)
    have c2 := fun o => tab_at HT.out o k 2 hk0 hk1 (by omega)
    have c3 := fun o => tab_at HT.out o k 3 hk0 hk1 (by omega)
    generalize col k 0 = v0 at *
    generalize col k 1 = v1 at *
    generalize col k 2 = v2 at *
    generalize col k 3 = v3 at *
    go_enter Tryd.func90, Tryd.ntmps90
    go_wp2_with fail
    refine (mayBe_any k 10 _).mono ?_
    rintro e w1 ⟨rfl, rfl⟩
    rw [hd]
    go_wp2_with fail
    go_returns
    exact ⟨rfl, (Below.refl _ _).alloc (Nat.le_refl _) _⟩
  · rw [col_out k 0 hk, col_out k 1 hk, col_out k 2 hk, col_out k 3 hk]
    go_enter Tryd.func90, Tryd.ntmps90
    go_wp2_with fail
    refine (mayBe_any k 10 _).mono ?_
    rintro e w1 ⟨rfl, rfl⟩
    rw [decide_eq_false hk]
    go_wp2_with fail
    go_returns
    exact ⟨rfl, (Below.refl _ _).alloc (Nat.le_refl _) _⟩

theorem field0 (a b c d : Value) (w : World) : (Instr.field 124 (.agg #[a, b, c, d]) 0).run Tryd.prog w = .ok a w := by kernel_rfl
theorem eeprom_any (k v : Int) (w0 w : World) (H : On w0 w) (hv : col k 0 = v) : Calls Tryd.prog 62 #[.int .i64 k] w fun e w' => e = .returned (.int .i64 v) ∧ On w0 w' := by
  subst hv
  have HT := Lib.hid H
  clear H
  have hf := field0
  go_enter Tryd.func62, Tryd.ntmps62
  go_wp2_with fail
  refine (row_any k _ HT.out.tab).mono ?_
  rintro e w1 ⟨rfl, hw1⟩
  have HW := Lib.hid hw1
  clear hw1
  go_wp2_with fail
  go_ret
  exact ⟨rfl, HT.out.next HW.out⟩
/-- so many, of so many bytes each; none where there are more than there may be -/
def bytesOf (n most each : Int) : Int := if 0 ≤ n ∧ n ≤ most then each * n else 0
theorem bytesOf_any (n most each : Int) (hm : most ≤ 128) (he0 : 0 ≤ each) (he1 : each ≤ 256) (w : World) :
    Calls Tryd.prog 91 #[.int .i64 n, .int .i64 most, .int .i64 each] w fun e w' => e = .returned (.int .i64 (bytesOf n most each)) ∧ w' = w := by
  by_cases hk : 0 ≤ n ∧ n ≤ most
  · have hd : decide (0 ≤ n ∧ n ≤ most) = true := decide_eq_true hk
    have hv : wrap64 (n * each) = bytesOf n most each := by
      unfold bytesOf
      rw [if_pos hk, Int.mul_comm each n]
      have h1 : n * each ≤ 128 * 256 := Int.mul_le_mul (by omega) he1 he0 (by omega)
      have h2 : 0 ≤ n * each := Int.mul_nonneg hk.1 he0
      unfold wrap64; omega
    generalize bytesOf n most each = v at *
    have HV := Lib.hid hv
    clear hv
    go_enter Tryd.func91, Tryd.ntmps91
    go_wp2_with fail
    refine (mayBe_any n most _).mono ?_
    rintro e w1 ⟨rfl, rfl⟩
    rw [hd]
    go_wp2_with fail
    go_ret
    exact ⟨congrArg (fun x => Ending.returned (.int .i64 x)) HV.out, rfl⟩
  · have hv : bytesOf n most each = 0 := by unfold bytesOf; rw [if_neg hk]
    rw [hv]
    go_enter Tryd.func91, Tryd.ntmps91
    go_wp2_with fail
    refine (mayBe_any n most _).mono ?_
    rintro e w1 ⟨rfl, rfl⟩
    rw [decide_eq_false hk]
    go_wp2_with fail
    go_ret
    exact ⟨rfl, rfl⟩
theorem flash_any (n v : Int) (w : World) (hv : bytesOf n 64 256 = v) : Calls Tryd.prog 63 #[.int .i64 n] w fun e w' => e = .returned (.int .i64 v) ∧ w' = w := by
  subst hv
  go_enter Tryd.func63, Tryd.ntmps63
  go_wp2_with fail
  refine (bytesOf_any n 64 256 (by omega) (by omega) (by omega) _).mono ?_
  rintro e w1 ⟨rfl, rfl⟩
  go_wp2_with fail
  go_ret
  exact ⟨rfl, rfl⟩
theorem sram_any (n v : Int) (w : World) (hv : bytesOf n 128 64 = v) : Calls Tryd.prog 64 #[.int .i64 n] w fun e w' => e = .returned (.int .i64 v) ∧ w' = w := by
  subst hv
  go_enter Tryd.func64, Tryd.ntmps64
  go_wp2_with fail
  refine (bytesOf_any n 128 64 (by omega) (by omega) (by omega) _).mono ?_
  rintro e w1 ⟨rfl, rfl⟩
  go_wp2_with fail
  go_ret
  exact ⟨rfl, rfl⟩

/-- the three numbers of a geometry, as a value -/
abbrev geoV (a b c : Int) : Value := .agg #[.int .i64 a, .int .i64 b, .int .i64 c]
def right (a b c : Int) : Bool := decide (0 ≤ a ∧ a ≤ 10) && (decide (0 ≤ b ∧ b ≤ 64) && decide (0 ≤ c ∧ c ≤ 128))
def total (a b c : Int) : Int := if right a b c then col a 0 + bytesOf b 64 256 + bytesOf c 128 64 else 0
theorem mayBe_at (n m : Int) (r : Bool) (w : World) (hr : decide (0 ≤ n ∧ n ≤ m) = r) : Calls Tryd.prog 60 #[.int .i64 n, .int .i64 m] w fun e w' => e = .returned (.bool r) ∧ w' = w := hr ▸ mayBe_any n m w
theorem right_any (a b c : Int) (r : Bool) (w0 w : World) (H : On w0 w) (hr : right a b c = r) : Calls Tryd.prog 33 #[geoV a b c] w fun e w' => e = .returned (.bool r) ∧ On w0 w' := by
  subst hr
  unfold right
  have HT := Lib.hid (fun o => H.next (below_box w o))
  clear H
  obtain ⟨p, hp⟩ : ∃ p, decide (0 ≤ a ∧ a ≤ 10) = p := ⟨_, rfl⟩
  obtain ⟨q, hq⟩ : ∃ p, decide (0 ≤ b ∧ b ≤ 64) = p := ⟨_, rfl⟩
  obtain ⟨r, hr⟩ : ∃ p, decide (0 ≤ c ∧ c ≤ 128) = p := ⟨_, rfl⟩
  rw [hp, hq, hr]
  have HP := Lib.hid hp
  have HQ := Lib.hid hq
  have HR := Lib.hid hr
  clear hp hq hr
  cases p
  · go_enter Tryd.func33, Tryd.ntmps33
    go_wp2_with fail
    refine (mayBe_at a 10 false _ HP.out).mono ?_
    rintro e w1 ⟨rfl, rfl⟩
    go_wp2_with fail
    go_ret
    exact ⟨rfl, HT.out _⟩
  · cases q
    · go_enter Tryd.func33, Tryd.ntmps33
      go_wp2_with fail
      refine (mayBe_at a 10 true _ HP.out).mono ?_
      rintro e w1 ⟨rfl, rfl⟩
      go_wp2_with fail
      refine (mayBe_at b 64 false _ HQ.out).mono ?_
      rintro e w1 ⟨rfl, rfl⟩
      go_wp2_with fail
      go_ret
      exact ⟨rfl, HT.out _⟩
    · cases r <;>
      · go_enter Tryd.func33, Tryd.ntmps33
        go_wp2_with fail
        refine (mayBe_at a 10 true _ HP.out).mono ?_
        rintro e w1 ⟨rfl, rfl⟩
        go_wp2_with fail
        refine (mayBe_at b 64 true _ HQ.out).mono ?_
        rintro e w1 ⟨rfl, rfl⟩
        go_wp2_with fail
        refine (mayBe_at c 128 _ _ HR.out).mono ?_
        rintro e w1 ⟨rfl, rfl⟩
        go_wp2_with fail
        go_ret
        exact ⟨rfl, HT.out _⟩
theorem boxed (w : World) (a b c : Value) (t : TypeId) : (w.alloc (.cells #[a, b, c] t)).cell? ⟨w.heap.size, 0, none⟩ = some a ∧ (w.alloc (.cells #[a, b, c] t)).cell? ⟨w.heap.size, 1, none⟩ = some b ∧ (w.alloc (.cells #[a, b, c] t)).cell? ⟨w.heap.size, 2, none⟩ = some c := by
  refine ⟨?_, ?_, ?_⟩ <;> simp [go_sem]

theorem eeprom_in (W : World) (p : Regrown) (k v : Int) (hT : Tab W) (hv : col k 0 = v) : Calls Tryd.prog 62 #[.int .i64 k] (In W p) fun e w'' => e = .returned (.int .i64 v) ∧ ∃ q : Regrown, w'' = In W q := by
  apply Calls.regrown_of
  exact (eeprom_any k v _ _ (on_in hT p) hv).mono fun _ _ h => ⟨h.1, h.2.bel⟩
theorem flash_in (W : World) (p : Regrown) (n v : Int) (hv : bytesOf n 64 256 = v) : Calls Tryd.prog 63 #[.int .i64 n] (In W p) fun e w'' => e = .returned (.int .i64 v) ∧ ∃ q : Regrown, w'' = In W q :=
  (flash_any n v _ hv).mono fun _ _ h => ⟨h.1, p, h.2⟩
theorem sram_in (W : World) (p : Regrown) (n v : Int) (hv : bytesOf n 128 64 = v) : Calls Tryd.prog 64 #[.int .i64 n] (In W p) fun e w'' => e = .returned (.int .i64 v) ∧ ∃ q : Regrown, w'' = In W q :=
  (sram_any n v _ hv).mono fun _ _ h => ⟨h.1, p, h.2⟩
theorem col0_bounds (k : Int) : 0 ≤ col k 0 ∧ col k 0 ≤ 65536 := by
  unfold col
  split
  · rename_i h
    obtain ⟨n, rfl⟩ := Int.eq_ofNat_of_zero_le h.1
    have : ∀ n : Nat, n < 11 → 0 ≤ (tab.getD n []).getD 0 0 ∧ (tab.getD n []).getD 0 0 ≤ 65536 := by decide
    exact this n (by omega)
  · omega
theorem bytesOf_bounds (n most each : Int) (hm : most ≤ 128) (he0 : 0 ≤ each) (he1 : each ≤ 256) : 0 ≤ bytesOf n most each ∧ bytesOf n most each ≤ 32768 := by
  unfold bytesOf
  split
  · rename_i h
    have h1 : each * n ≤ 256 * 128 := Int.mul_le_mul he1 (by omega) h.1 (by omega)
    exact ⟨Int.mul_nonneg he0 h.1, by omega⟩
  · omega

theorem total_any (a b c v : Int) (w0 w : World) (H : On w0 w) (hv : total a b c = v) : Calls Tryd.prog 35 #[geoV a b c] w fun e w' => e = .returned (.int .i64 v) ∧ On w0 w' := by
  subst hv
  have HT := Lib.hid (fun o => H.next (below_box w o))
  clear H
  cases hr : right a b c
  · have HR := Lib.hid hr
    have HV := Lib.hid (show total a b c = 0 by simp [total, hr])
    rw [HV.out]
    clear hr
    go_enter Tryd.func35, Tryd.ntmps35
    go_wp2_with fail
    refine (right_any a b c false _ _ (HT.out _) HR.out).mono ?_
    rintro e w1 ⟨rfl, hw1⟩
    have HW1 := Lib.hid hw1
    clear hw1
    go_wp2_with fail
    go_ret
    exact ⟨rfl, HW1.out⟩
  · have HR := Lib.hid hr
    have HV := Lib.hid (show total a b c = col a 0 + bytesOf b 64 256 + bytesOf c 128 64 by simp [total, hr])
    rw [HV.out]
    clear hr
    obtain ⟨x, hx⟩ : ∃ x, col a 0 = x := ⟨_, rfl⟩
    obtain ⟨y, hy⟩ : ∃ x, bytesOf b 64 256 = x := ⟨_, rfl⟩
    obtain ⟨z, hz⟩ : ∃ x, bytesOf c 128 64 = x := ⟨_, rfl⟩
    obtain ⟨hx0, hx1⟩ := hx ▸ col0_bounds a
    obtain ⟨hy0, hy1⟩ := hy ▸ bytesOf_bounds b 64 256 (by omega) (by omega) (by omega)
    obtain ⟨hz0, hz1⟩ := hz ▸ bytesOf_bounds c 128 64 (by omega) (by omega) (by omega)
    rw [hx, hy, hz]
    have HX := Lib.hid hx
    have HY := Lib.hid hy
    have HZ := Lib.hid hz
    clear hx hy hz HV
    go_enter Tryd.func35, Tryd.ntmps35
    go_wp2_with fail
    refine (right_any a b c true _ _ (On.start (HT.out _).tab) HR.out).mono ?_
    rintro e w1 ⟨rfl, hw1⟩
    have hc0 := (hw1.bel.cell (p := ⟨w.heap.size, 0, none⟩) (by simp)).trans (boxed w _ _ _ _).1
    have hc1 := (hw1.bel.cell (p := ⟨w.heap.size, 1, none⟩) (by simp)).trans (boxed w _ _ _ _).2.1
    have hc2 := (hw1.bel.cell (p := ⟨w.heap.size, 2, none⟩) (by simp)).trans (boxed w _ _ _ _).2.2
    have HT1 := Lib.hid hw1.tab
    have HW1 := Lib.hid ((HT.out _).next hw1.bel)
    clear hw1
    go_wp2_with fail
    have hr0 := fun d os => cell_regrown hc0 d os
    have hr1 := fun d os => cell_regrown hc1 d os
    have hr2 := fun d os => cell_regrown hc2 d os
    clear hc0 hc1 hc2
    refine wp_region_quiet_below (by kernel_rfl) (by kernel_rfl) ?_
    iterate 2 go_big_quiet_step (fail)
    go_big_quiet_step ((refine eeprom_in w1 _ a x HT1.out HX.out))
    iterate 2 go_big_quiet_step (fail)
    go_big_quiet_step ((refine flash_in w1 _ b y HY.out))
    iterate 3 go_big_quiet_step (fail)
    go_big_quiet_step ((refine sram_in w1 _ c z HZ.out))
    repeat (go_big_quiet_step (fail))
    refine wpQuiet_nil ?_
    rintro w' ⟨q, rfl⟩
    have HQ := Lib.hid (HW1.out.next (in_below w1 q))
    go_wp2_with fail
    go_ret
    exact ⟨rfl, HQ.out⟩

def atOf (l : List Int) (k : Int) : Int := if 1 ≤ k ∧ k ≤ 10 then l.getD (k - 1).toNat 0 else 0
theorem at_any (b : Nat) (l : List Int) (k : Int) (w : World) (hl : ∀ i, i < 10 → w.cell? ⟨b, i, none⟩ = some (.int .i64 (l.getD i 0))) :
    Calls Tryd.prog 82 #[.slice (some ⟨b, 0, none⟩) 10 10, .int .i64 k] w fun e w' => e = .returned (.int .i64 (atOf l k)) ∧ w' = w := by
  by_cases h0 : k < 1
  · have hv : atOf l k = 0 := by unfold atOf; rw [if_neg (by omega)]
    rw [hv]
    clear hl hv
    go_enter Tryd.func82, Tryd.ntmps82
    go_wp2_with fail
    go_ret
    exact ⟨rfl, rfl⟩
  · by_cases h1 : 10 < k
    · have hv : atOf l k = 0 := by unfold atOf; rw [if_neg (by omega)]
      rw [hv]
      clear hl hv
      go_enter Tryd.func82, Tryd.ntmps82
      go_wp2_with fail
      go_ret
      exact ⟨rfl, rfl⟩
    · have hv : atOf l k = l.getD (k - 1).toNat 0 := by unfold atOf; rw [if_pos (by omega)]
      rw [hv]
      clear hv
      obtain ⟨n, hn⟩ : ∃ n : Int, k - 1 = n := ⟨_, rfl⟩
      obtain rfl : k = n + 1 := by omega
      have hn0 : 0 ≤ n := by omega
      have hn1 : n < 10 := by omega
      have hc := hl n.toNat (by omega)
      rw [hn]
      generalize l.getD n.toNat 0 = v at *
      clear hl hn h0 h1
      go_enter Tryd.func82, Tryd.ntmps82
      go_wp2_with fail
      go_ret
      exact ⟨rfl, rfl⟩

theorem atOf_col (l : List Int) (j : Nat) (h : ∀ n : Nat, n < 10 → l.getD n 0 = (tab.getD (n + 1) []).getD j 0) (h0 : (tab.getD 0 []).getD j 0 = 0) (k : Int) : atOf l k = col k j := by
  unfold atOf col
  by_cases hk : 1 ≤ k ∧ k ≤ 10
  · rw [if_pos hk, if_pos (by omega), h (k - 1).toNat (by omega), show (k - 1).toNat + 1 = k.toNat by omega]
  · rw [if_neg hk]
    by_cases hz : k = 0
    · subst hz; rw [if_pos (by omega)]; exact h0.symm
    · rw [if_neg (by omega)]
theorem ten (w : World) (t : TypeId) (a0 a1 a2 a3 a4 a5 a6 a7 a8 a9 : Int) (i : Nat) (hi : i < 10) :
    (w.alloc (.cells #[.int .i64 a0, .int .i64 a1, .int .i64 a2, .int .i64 a3, .int .i64 a4, .int .i64 a5, .int .i64 a6, .int .i64 a7, .int .i64 a8, .int .i64 a9] t)).cell? ⟨w.heap.size, i, none⟩ = some (.int .i64 ([a0, a1, a2, a3, a4, a5, a6, a7, a8, a9].getD i 0)) := by
  rw [cell_of_row _ _ _ _ _ _ (heap_alloc_new w _)]
  match i, hi with
  | 0, _ | 1, _ | 2, _ | 3, _ | 4, _ | 5, _ | 6, _ | 7, _ | 8, _ | 9, _ => rfl
theorem refEeprom_any (k v : Int) (w0 w : World) (H : On w0 w) (hv : col k 0 = v) : Calls Tryd.prog 48 #[.int .i64 k] w fun e w' => e = .returned (.int .i64 v) ∧ On w0 w' := by
  have HV := Lib.hid ((atOf_col [128, 256, 512, 1024, 2048, 4096, 8192, 16384, 32768, 65536] 0 (by decide) (by decide) k).trans hv)
  have HB := Lib.hid (fun o => H.next (below_box w o))
  clear hv H
  go_enter Tryd.func48, Tryd.ntmps48
  go_wp2_with fail
  refine (at_any _ [128, 256, 512, 1024, 2048, 4096, 8192, 16384, 32768, 65536] k _ (ten w _ _ _ _ _ _ _ _ _ _ _)).mono ?_
  rintro e w1 ⟨rfl, rfl⟩
  rw [HV.out]
  go_wp2_with fail
  go_ret
  exact ⟨rfl, HB.out _⟩
theorem refFlash_any (n v : Int) (w : World) (hv : bytesOf n 64 256 = v) : Calls Tryd.prog 49 #[.int .i64 n] w fun e w' => e = .returned (.int .i64 v) ∧ w' = w := by
  subst hv
  by_cases h0 : n < 0
  · have hv : bytesOf n 64 256 = 0 := by unfold bytesOf; rw [if_neg (by omega)]
    rw [hv]
    clear hv
    go_enter Tryd.func49, Tryd.ntmps49
    go_wp2_with fail
    go_ret
    exact ⟨rfl, rfl⟩
  · by_cases h1 : 64 < n
    · have hv : bytesOf n 64 256 = 0 := by unfold bytesOf; rw [if_neg (by omega)]
      rw [hv]
      clear hv
      go_enter Tryd.func49, Tryd.ntmps49
      go_wp2_with fail
      go_ret
      exact ⟨rfl, rfl⟩
    · have hv : bytesOf n 64 256 = 256 * n := by unfold bytesOf; rw [if_pos (by omega)]
      rw [hv]
      clear hv
      go_enter Tryd.func49, Tryd.ntmps49
      go_wp2_with fail
      go_ret
      exact ⟨rfl, rfl⟩
theorem refSram_any (n v : Int) (w : World) (hv : bytesOf n 128 64 = v) : Calls Tryd.prog 50 #[.int .i64 n] w fun e w' => e = .returned (.int .i64 v) ∧ w' = w := by
  subst hv
  by_cases h0 : n < 0
  · have hv : bytesOf n 128 64 = 0 := by unfold bytesOf; rw [if_neg (by omega)]
    rw [hv]
    clear hv
    go_enter Tryd.func50, Tryd.ntmps50
    go_wp2_with fail
    go_ret
    exact ⟨rfl, rfl⟩
  · by_cases h1 : 128 < n
    · have hv : bytesOf n 128 64 = 0 := by unfold bytesOf; rw [if_neg (by omega)]
      rw [hv]
      clear hv
      go_enter Tryd.func50, Tryd.ntmps50
      go_wp2_with fail
      go_ret
      exact ⟨rfl, rfl⟩
    · have hv : bytesOf n 128 64 = 64 * n := by unfold bytesOf; rw [if_pos (by omega)]
      rw [hv]
      clear hv
      go_enter Tryd.func50, Tryd.ntmps50
      go_wp2_with fail
      go_ret
      exact ⟨rfl, rfl⟩

theorem refRight_any (a b c : Int) (r : Bool) (w0 w : World) (H : On w0 w) (hr : right a b c = r) : Calls Tryd.prog 20 #[geoV a b c] w fun e w' => e = .returned (.bool r) ∧ On w0 w' := by
  subst hr
  have HT := Lib.hid (fun o => H.next (below_box w o))
  clear H
  by_cases a0 : 0 ≤ a
  · by_cases a1 : a ≤ 10
    · by_cases b0 : 0 ≤ b
      · by_cases b1 : b ≤ 64
        · by_cases c0 : 0 ≤ c
          · by_cases c1 : c ≤ 128
            · have hv : right a b c = true := by simp [right, *]
              rw [hv]; clear hv
              go_enter Tryd.func20, Tryd.ntmps20
              go_wp2_with fail
              go_ret
              exact ⟨rfl, HT.out _⟩
            · have hv : right a b c = false := by simp [right]; omega
              rw [hv]; clear hv
              go_enter Tryd.func20, Tryd.ntmps20
              go_wp2_with fail
              go_ret
              exact ⟨rfl, HT.out _⟩
          · have hv : right a b c = false := by simp [right]; omega
            rw [hv]; clear hv
            go_enter Tryd.func20, Tryd.ntmps20
            go_wp2_with fail
            go_ret
            exact ⟨rfl, HT.out _⟩
        · have hv : right a b c = false := by simp [right]; omega
          rw [hv]; clear hv
          go_enter Tryd.func20, Tryd.ntmps20
          go_wp2_with fail
          go_ret
          exact ⟨rfl, HT.out _⟩
      · have hv : right a b c = false := by simp [right]; omega
        rw [hv]; clear hv
        go_enter Tryd.func20, Tryd.ntmps20
        go_wp2_with fail
        go_ret
        exact ⟨rfl, HT.out _⟩
    · have hv : right a b c = false := by simp [right]; omega
      rw [hv]; clear hv
      go_enter Tryd.func20, Tryd.ntmps20
      go_wp2_with fail
      go_ret
      exact ⟨rfl, HT.out _⟩
  · have hv : right a b c = false := by simp [right]; omega
    rw [hv]; clear hv
    go_enter Tryd.func20, Tryd.ntmps20
    go_wp2_with fail
    go_ret
    exact ⟨rfl, HT.out _⟩
theorem refEeprom_in (W : World) (p : Regrown) (k v : Int) (hT : Tab W) (hv : col k 0 = v) : Calls Tryd.prog 48 #[.int .i64 k] (In W p) fun e w'' => e = .returned (.int .i64 v) ∧ ∃ q : Regrown, w'' = In W q := by
  apply Calls.regrown_of
  exact (refEeprom_any k v _ _ (on_in hT p) hv).mono fun _ _ h => ⟨h.1, h.2.bel⟩
theorem refFlash_in (W : World) (p : Regrown) (n v : Int) (hv : bytesOf n 64 256 = v) : Calls Tryd.prog 49 #[.int .i64 n] (In W p) fun e w'' => e = .returned (.int .i64 v) ∧ ∃ q : Regrown, w'' = In W q :=
  (refFlash_any n v _ hv).mono fun _ _ h => ⟨h.1, p, h.2⟩
theorem refSram_in (W : World) (p : Regrown) (n v : Int) (hv : bytesOf n 128 64 = v) : Calls Tryd.prog 50 #[.int .i64 n] (In W p) fun e w'' => e = .returned (.int .i64 v) ∧ ∃ q : Regrown, w'' = In W q :=
  (refSram_any n v _ hv).mono fun _ _ h => ⟨h.1, p, h.2⟩
theorem refTotal_any (a b c v : Int) (w0 w : World) (H : On w0 w) (hv : total a b c = v) : Calls Tryd.prog 21 #[geoV a b c] w fun e w' => e = .returned (.int .i64 v) ∧ On w0 w' := by
  subst hv
  have HT := Lib.hid (fun o => H.next (below_box w o))
  clear H
  cases hr : right a b c
  · have HR := Lib.hid hr
    have HV := Lib.hid (show total a b c = 0 by simp [total, hr])
    rw [HV.out]
    clear hr
    go_enter Tryd.func21, Tryd.ntmps21
    go_wp2_with fail
    refine (refRight_any a b c false _ _ (HT.out _) HR.out).mono ?_
    rintro e w1 ⟨rfl, hw1⟩
    have HW1 := Lib.hid hw1
    clear hw1
    go_wp2_with fail
    go_ret
    exact ⟨rfl, HW1.out⟩
  · have HR := Lib.hid hr
    have HV := Lib.hid (show total a b c = col a 0 + bytesOf b 64 256 + bytesOf c 128 64 by simp [total, hr])
    rw [HV.out]
    clear hr
    obtain ⟨x, hx⟩ : ∃ x, col a 0 = x := ⟨_, rfl⟩
    obtain ⟨y, hy⟩ : ∃ x, bytesOf b 64 256 = x := ⟨_, rfl⟩
    obtain ⟨z, hz⟩ : ∃ x, bytesOf c 128 64 = x := ⟨_, rfl⟩
    obtain ⟨hx0, hx1⟩ := hx ▸ col0_bounds a
    obtain ⟨hy0, hy1⟩ := hy ▸ bytesOf_bounds b 64 256 (by omega) (by omega) (by omega)
    obtain ⟨hz0, hz1⟩ := hz ▸ bytesOf_bounds c 128 64 (by omega) (by omega) (by omega)
    rw [hx, hy, hz]
    have HX := Lib.hid hx
    have HY := Lib.hid hy
    have HZ := Lib.hid hz
    clear hx hy hz HV
    go_enter Tryd.func21, Tryd.ntmps21
    go_wp2_with fail
    refine (refRight_any a b c true _ _ (On.start (HT.out _).tab) HR.out).mono ?_
    rintro e w1 ⟨rfl, hw1⟩
    have hc0 := (hw1.bel.cell (p := ⟨w.heap.size, 0, none⟩) (by simp)).trans (boxed w _ _ _ _).1
    have hc1 := (hw1.bel.cell (p := ⟨w.heap.size, 1, none⟩) (by simp)).trans (boxed w _ _ _ _).2.1
    have hc2 := (hw1.bel.cell (p := ⟨w.heap.size, 2, none⟩) (by simp)).trans (boxed w _ _ _ _).2.2
    have HT1 := Lib.hid hw1.tab
    have HW1 := Lib.hid ((HT.out _).next hw1.bel)
    clear hw1
    go_wp2_with fail
    have hr0 := fun d os => cell_regrown hc0 d os
    have hr1 := fun d os => cell_regrown hc1 d os
    have hr2 := fun d os => cell_regrown hc2 d os
    clear hc0 hc1 hc2
    refine wp_region_quiet_below (by kernel_rfl) (by kernel_rfl) ?_
    iterate 2 go_big_quiet_step (fail)
    go_big_quiet_step ((refine refEeprom_in w1 _ a x HT1.out HX.out))
    iterate 2 go_big_quiet_step (fail)
    go_big_quiet_step ((refine refFlash_in w1 _ b y HY.out))
    iterate 3 go_big_quiet_step (fail)
    go_big_quiet_step ((refine refSram_in w1 _ c z HZ.out))
    repeat (go_big_quiet_step (fail))
    refine wpQuiet_nil ?_
    rintro w' ⟨q, rfl⟩
    have HQ := Lib.hid (HW1.out.next (in_below w1 q))
    go_wp2_with fail
    go_ret
    exact ⟨rfl, HQ.out⟩


end Go.Proofs.YtpbhkkcboppdmaaDoor
