/-
  THE TABLE OF KINDS; THE WALKS OF mayBe, row, bytesOf AND WHAT STANDS ON THEM.
-/
import Derived.Test.YtmmklbcefndebaaDoorChecked
import Derived.WalkKit
import Derived.ProofKit
import Derived.Below
import Derived.Lib.Hide
import Derived.Lib.QuietBelow
import Derived.BigQuiet
import Derived.Handy
import Derived.Laws.BitsLemmas
namespace Go.Proofs.YtmmklbcefndebaaDoor
open Go.RowKit

/-- the table, row by row -/
def tab : List (List Int) := [[0, 0, 0, 0], [128, 8, 1, 0], [256, 8, 1, 0], [512, 16, 1, 1], [1024, 16, 1, 2], [2048, 16, 1, 3], [4096, 32, 2, 0], [8192, 32, 2, 0], [16384, 64, 2, 0], [32768, 64, 2, 0], [65536, 128, 2, 0]]
/-- what stands in column j of kind k -/
def col (k : Int) (j : Nat) : Int := if 0 ≤ k ∧ k ≤ 10 then (tab.getD k.toNat []).getD j 0 else 0
def Tab (w : World) : Prop := ∀ k j, k < 11 → j < 4 → w.cell? ⟨0, 4 * k + j, none⟩ = some (.int .i64 ((tab.getD k []).getD j 0))
theorem tab_below {w w' : World} {B : Nat} (h : Tab w) (hb : Below B w w') (h0 : 0 < B) : Tab w' := fun k j hk hj => (hb.cell (p := ⟨0, 4 * k + j, none⟩) h0).trans (h k j hk hj)
theorem tab_pos {w : World} (h : Tab w) : 0 < w.heap.size := block_lt_of_cell (h 0 0 (by omega) (by omega))

theorem mayBe_any (n m : Int) (w : World) : Calls Tryd.prog 28 #[.int .i64 n, .int .i64 m] w fun e w' => e = .returned (.bool (decide (0 ≤ n ∧ n ≤ m))) ∧ w' = w := by
  by_cases h0 : (0 : Int) ≤ n
  · by_cases h1 : n ≤ m
    · go_enter Tryd.func28, Tryd.ntmps28
      go_wp2_with fail
      go_ret
      exact ⟨by simp [h0, h1], rfl⟩
    · go_enter Tryd.func28, Tryd.ntmps28
      go_wp2_with fail
      go_ret
      exact ⟨by simp [h1], rfl⟩
  · go_enter Tryd.func28, Tryd.ntmps28
    go_wp2_with fail
    go_ret
    exact ⟨by rw [decide_eq_false (by omega)]; rfl, rfl⟩

theorem tab_at {w : World} (hT : Tab w) (o : Obj) (k : Int) (j : Nat) (h0 : 0 ≤ k) (h1 : k ≤ 10) (hj : j < 4) : (w.alloc o).cell? ⟨0, k.toNat * 4 + j, none⟩ = some (.int .i64 (col k j)) := by
  have h := tab_below hT ((Below.refl w.heap.size w).alloc (Nat.le_refl _) o) (tab_pos hT) k.toNat j (by omega) hj
  rw [Nat.mul_comm k.toNat 4, h]
  simp [col, h0, h1]
theorem tab_at0 {w : World} (hT : Tab w) (o : Obj) (k : Int) (h0 : 0 ≤ k) (h1 : k ≤ 10) : (w.alloc o).cell? ⟨0, k.toNat * 4, none⟩ = some (.int .i64 (col k 0)) := tab_at hT o k 0 h0 h1 (by omega)
theorem col_out (k : Int) (j : Nat) (h : ¬ (0 ≤ k ∧ k ≤ 10)) : col k j = 0 := by unfold col; rw [if_neg h]
theorem row_any (k : Int) (w : World) (hT : Tab w) : Calls Tryd.prog 25 #[.int .i64 k] w fun e w' => e = .returned (.agg #[.int .i64 (col k 0), .int .i64 (col k 1), .int .i64 (col k 2), .int .i64 (col k 3)]) ∧ Below w.heap.size w w' := by
  have HT := Lib.hid hT
  clear hT
  by_cases hk : 0 ≤ k ∧ k ≤ 10
  · have hd : decide (0 ≤ k ∧ k ≤ 10) = true := decide_eq_true hk
    obtain ⟨hk0, hk1⟩ := hk
    have c0 := fun o => tab_at0 HT.out o k hk0 hk1
    have c1 := fun o => tab_at HT.out o k 1 hk0 hk1 (by omega)
    have c2 := fun o => tab_at HT.out o k 2 hk0 hk1 (by omega)
    have c3 := fun o => tab_at HT.out o k 3 hk0 hk1 (by omega)
    generalize col k 0 = v0 at *
    generalize col k 1 = v1 at *
    generalize col k 2 = v2 at *
    generalize col k 3 = v3 at *
    go_enter Tryd.func25, Tryd.ntmps25
    go_wp2_with fail
    refine (mayBe_any k 10 _).mono ?_
    rintro e w1 ⟨rfl, rfl⟩
    rw [hd]
    go_wp2_with fail
    go_returns
    exact ⟨rfl, (Below.refl _ _).alloc (Nat.le_refl _) _⟩
  · rw [col_out k 0 hk, col_out k 1 hk, col_out k 2 hk, col_out k 3 hk]
    go_enter Tryd.func25, Tryd.ntmps25
    go_wp2_with fail
    refine (mayBe_any k 10 _).mono ?_
    rintro e w1 ⟨rfl, rfl⟩
    rw [decide_eq_false hk]
    go_wp2_with fail
    go_returns
    exact ⟨rfl, (Below.refl _ _).alloc (Nat.le_refl _) _⟩

/-- a world that came of w0, the table as it was -/
structure On (w0 w : World) : Prop where
  tab : Tab w
  bel : Below w0.heap.size w0 w
theorem On.start {w : World} (h : Tab w) : On w w := ⟨h, Below.refl _ _⟩
theorem On.next {w0 w w' : World} (h : On w0 w) (hb : Below w.heap.size w w') : On w0 w' := ⟨tab_below h.tab hb (tab_pos h.tab), h.bel.trans (hb.mono h.bel.size)⟩

theorem field0 (a b c d : Value) (w : World) : (Instr.field 32 (.agg #[a, b, c, d]) 0).run Tryd.prog w = .ok a w := by kernel_rfl
theorem field1 (a b c d : Value) (w : World) : (Instr.field 32 (.agg #[a, b, c, d]) 1).run Tryd.prog w = .ok b w := by kernel_rfl
theorem field2 (a b c d : Value) (w : World) : (Instr.field 32 (.agg #[a, b, c, d]) 2).run Tryd.prog w = .ok c w := by kernel_rfl
theorem field3 (a b c d : Value) (w : World) : (Instr.field 32 (.agg #[a, b, c, d]) 3).run Tryd.prog w = .ok d w := by kernel_rfl

theorem eeprom_any (k v : Int) (w0 w : World) (H : On w0 w) (hv : col k 0 = v) : Calls Tryd.prog 9 #[.int .i64 k] w fun e w' => e = .returned (.int .i64 v) ∧ On w0 w' := by
  subst hv
  have HT := Lib.hid H
  clear H
  have hf := field0
  go_enter Tryd.func9, Tryd.ntmps9
  go_wp2_with fail
  refine (row_any k _ HT.out.tab).mono ?_
  rintro e w1 ⟨rfl, hw1⟩
  have HW := Lib.hid hw1
  clear hw1
  go_wp2_with fail
  go_ret
  exact ⟨rfl, HT.out.next HW.out⟩
theorem page_any (k v : Int) (w0 w : World) (H : On w0 w) (hv : col k 1 = v) : Calls Tryd.prog 11 #[.int .i64 k] w fun e w' => e = .returned (.int .i64 v) ∧ On w0 w' := by
  subst hv
  have HT := Lib.hid H
  clear H
  have hf := field1
  go_enter Tryd.func11, Tryd.ntmps11
  go_wp2_with fail
  refine (row_any k _ HT.out.tab).mono ?_
  rintro e w1 ⟨rfl, hw1⟩
  have HW := Lib.hid hw1
  clear hw1
  go_wp2_with fail
  go_ret
  exact ⟨rfl, HT.out.next HW.out⟩
theorem wide_any (k v : Int) (w0 w : World) (H : On w0 w) (hv : col k 2 = v) : Calls Tryd.prog 13 #[.int .i64 k] w fun e w' => e = .returned (.int .i64 v) ∧ On w0 w' := by
  subst hv
  have HT := Lib.hid H
  clear H
  have hf := field2
  go_enter Tryd.func13, Tryd.ntmps13
  go_wp2_with fail
  refine (row_any k _ HT.out.tab).mono ?_
  rintro e w1 ⟨rfl, hw1⟩
  have HW := Lib.hid hw1
  clear hw1
  go_wp2_with fail
  go_ret
  exact ⟨rfl, HT.out.next HW.out⟩
theorem blocks_any (k v : Int) (w0 w : World) (H : On w0 w) (hv : col k 3 = v) : Calls Tryd.prog 15 #[.int .i64 k] w fun e w' => e = .returned (.int .i64 v) ∧ On w0 w' := by
  subst hv
  have HT := Lib.hid H
  clear H
  have hf := field3
  go_enter Tryd.func15, Tryd.ntmps15
  go_wp2_with fail
  refine (row_any k _ HT.out.tab).mono ?_
  rintro e w1 ⟨rfl, hw1⟩
  have HW := Lib.hid hw1
  clear hw1
  go_wp2_with fail
  go_ret
  exact ⟨rfl, HT.out.next HW.out⟩

/-- so many, of so many bytes each; none where there are more than there may be -/
def bytesOf (n most each : Int) : Int := if 0 ≤ n ∧ n ≤ most then each * n else 0
theorem bytesOf_any (n most each : Int) (hm : most ≤ 128) (he0 : 0 ≤ each) (he1 : each ≤ 256) (w : World) :
    Calls Tryd.prog 27 #[.int .i64 n, .int .i64 most, .int .i64 each] w fun e w' => e = .returned (.int .i64 (bytesOf n most each)) ∧ w' = w := by
  by_cases hk : 0 ≤ n ∧ n ≤ most
  · have hd : decide (0 ≤ n ∧ n ≤ most) = true := decide_eq_true hk
    have hv : wrap64 (n * each) = bytesOf n most each := by
      unfold bytesOf
      rw [if_pos hk, Int.mul_comm each n]
      have h1 : n * each ≤ 128 * 256 := Int.mul_le_mul (by omega) he1 he0 (by omega)
      have h2 : 0 ≤ n * each := Int.mul_nonneg hk.1 he0
      unfold wrap64; omega
    generalize bytesOf n most each = v at *
    have HV := Lib.hid hv
    clear hv
    go_enter Tryd.func27, Tryd.ntmps27
    go_wp2_with fail
    refine (mayBe_any n most _).mono ?_
    rintro e w1 ⟨rfl, rfl⟩
    rw [hd]
    go_wp2_with fail
    go_ret
    exact ⟨congrArg (fun x => Ending.returned (.int .i64 x)) HV.out, rfl⟩
  · have hv : bytesOf n most each = 0 := by unfold bytesOf; rw [if_neg hk]
    rw [hv]
    go_enter Tryd.func27, Tryd.ntmps27
    go_wp2_with fail
    refine (mayBe_any n most _).mono ?_
    rintro e w1 ⟨rfl, rfl⟩
    rw [decide_eq_false hk]
    go_wp2_with fail
    go_ret
    exact ⟨rfl, rfl⟩
theorem flash_any (n v : Int) (w : World) (hv : bytesOf n 64 256 = v) : Calls Tryd.prog 17 #[.int .i64 n] w fun e w' => e = .returned (.int .i64 v) ∧ w' = w := by
  subst hv
  go_enter Tryd.func17, Tryd.ntmps17
  go_wp2_with fail
  refine (bytesOf_any n 64 256 (by omega) (by omega) (by omega) _).mono ?_
  rintro e w1 ⟨rfl, rfl⟩
  go_wp2_with fail
  go_ret
  exact ⟨rfl, rfl⟩
theorem sram_any (n v : Int) (w : World) (hv : bytesOf n 128 64 = v) : Calls Tryd.prog 19 #[.int .i64 n] w fun e w' => e = .returned (.int .i64 v) ∧ w' = w := by
  subst hv
  go_enter Tryd.func19, Tryd.ntmps19
  go_wp2_with fail
  refine (bytesOf_any n 128 64 (by omega) (by omega) (by omega) _).mono ?_
  rintro e w1 ⟨rfl, rfl⟩
  go_wp2_with fail
  go_ret
  exact ⟨rfl, rfl⟩

/-- the three numbers of a geometry, as a value -/
abbrev geoV (a b c : Int) : Value := .agg #[.int .i64 a, .int .i64 b, .int .i64 c]
def right (a b c : Int) : Bool := decide (0 ≤ a ∧ a ≤ 10) && (decide (0 ≤ b ∧ b ≤ 64) && decide (0 ≤ c ∧ c ≤ 128))
def total (a b c : Int) : Int := if right a b c then col a 0 + bytesOf b 64 256 + bytesOf c 128 64 else 0
theorem below_box (w : World) (o : Obj) : Below w.heap.size w (w.alloc o) := (Below.refl _ _).alloc (Nat.le_refl _) _

theorem mayBe_at (n m : Int) (r : Bool) (w : World) (hr : decide (0 ≤ n ∧ n ≤ m) = r) : Calls Tryd.prog 28 #[.int .i64 n, .int .i64 m] w fun e w' => e = .returned (.bool r) ∧ w' = w := hr ▸ mayBe_any n m w
theorem right_any (a b c : Int) (r : Bool) (w0 w : World) (H : On w0 w) (hr : right a b c = r) : Calls Tryd.prog 21 #[geoV a b c] w fun e w' => e = .returned (.bool r) ∧ On w0 w' := by
  subst hr
  unfold right
  have HT := Lib.hid (fun o => H.next (below_box w o))
  clear H
  obtain ⟨p, hp⟩ : ∃ p, decide (0 ≤ a ∧ a ≤ 10) = p := ⟨_, rfl⟩
  obtain ⟨q, hq⟩ : ∃ p, decide (0 ≤ b ∧ b ≤ 64) = p := ⟨_, rfl⟩
  obtain ⟨r, hr⟩ : ∃ p, decide (0 ≤ c ∧ c ≤ 128) = p := ⟨_, rfl⟩
  rw [hp, hq, hr]
  have HP := Lib.hid hp
  have HQ := Lib.hid hq
  have HR := Lib.hid hr
  clear hp hq hr
  cases p
  · go_enter Tryd.func21, Tryd.ntmps21
    go_wp2_with fail
    refine (mayBe_at a 10 false _ HP.out).mono ?_
    rintro e w1 ⟨rfl, rfl⟩
    go_wp2_with fail
    go_ret
    exact ⟨rfl, HT.out _⟩
  · cases q
    · go_enter Tryd.func21, Tryd.ntmps21
      go_wp2_with fail
      refine (mayBe_at a 10 true _ HP.out).mono ?_
      rintro e w1 ⟨rfl, rfl⟩
      go_wp2_with fail
      refine (mayBe_at b 64 false _ HQ.out).mono ?_
      rintro e w1 ⟨rfl, rfl⟩
      go_wp2_with fail
      go_ret
      exact ⟨rfl, HT.out _⟩
    · cases r <;>
      · go_enter Tryd.func21, Tryd.ntmps21
        go_wp2_with fail
        refine (mayBe_at a 10 true _ HP.out).mono ?_
        rintro e w1 ⟨rfl, rfl⟩
        go_wp2_with fail
        refine (mayBe_at b 64 true _ HQ.out).mono ?_
        rintro e w1 ⟨rfl, rfl⟩
        go_wp2_with fail
        refine (mayBe_at c 128 _ _ HR.out).mono ?_
        rintro e w1 ⟨rfl, rfl⟩
        go_wp2_with fail
        go_ret
        exact ⟨rfl, HT.out _⟩
theorem boxed (w : World) (a b c : Value) (t : TypeId) : (w.alloc (.cells #[a, b, c] t)).cell? ⟨w.heap.size, 0, none⟩ = some a ∧ (w.alloc (.cells #[a, b, c] t)).cell? ⟨w.heap.size, 1, none⟩ = some b ∧ (w.alloc (.cells #[a, b, c] t)).cell? ⟨w.heap.size, 2, none⟩ = some c := by
  refine ⟨?_, ?_, ?_⟩ <;> simp [go_sem]

/-- a world of the class that a region's walk goes through -/
abbrev In (W : World) (p : Regrown) : World := Go.Sort.grow (redrawn W p.d) p.os
theorem in_below (W : World) (p : Regrown) : Below W.heap.size W (In W p) := below_regrown W p.d p.os
theorem on_in {W : World} (h : Tab W) (p : Regrown) : On (In W p) (In W p) := On.start (tab_below h (in_below W p) (tab_pos h))
theorem eeprom_in (W : World) (p : Regrown) (k v : Int) (hT : Tab W) (hv : col k 0 = v) : Calls Tryd.prog 9 #[.int .i64 k] (In W p) fun e w'' => e = .returned (.int .i64 v) ∧ ∃ q : Regrown, w'' = In W q := by
  apply Calls.regrown_of
  exact (eeprom_any k v _ _ (on_in hT p) hv).mono fun _ _ h => ⟨h.1, h.2.bel⟩
theorem flash_in (W : World) (p : Regrown) (n v : Int) (hv : bytesOf n 64 256 = v) : Calls Tryd.prog 17 #[.int .i64 n] (In W p) fun e w'' => e = .returned (.int .i64 v) ∧ ∃ q : Regrown, w'' = In W q :=
  (flash_any n v _ hv).mono fun _ _ h => ⟨h.1, p, h.2⟩
theorem sram_in (W : World) (p : Regrown) (n v : Int) (hv : bytesOf n 128 64 = v) : Calls Tryd.prog 19 #[.int .i64 n] (In W p) fun e w'' => e = .returned (.int .i64 v) ∧ ∃ q : Regrown, w'' = In W q :=
  (sram_any n v _ hv).mono fun _ _ h => ⟨h.1, p, h.2⟩
theorem col0_bounds (k : Int) : 0 ≤ col k 0 ∧ col k 0 ≤ 65536 := by
  unfold col
  split
  · rename_i h
    obtain ⟨n, rfl⟩ := Int.eq_ofNat_of_zero_le h.1
    have : ∀ n : Nat, n < 11 → 0 ≤ (tab.getD n []).getD 0 0 ∧ (tab.getD n []).getD 0 0 ≤ 65536 := by decide
    exact this n (by omega)
  · omega
theorem bytesOf_bounds (n most each : Int) (hm : most ≤ 128) (he0 : 0 ≤ each) (he1 : each ≤ 256) : 0 ≤ bytesOf n most each ∧ bytesOf n most each ≤ 32768 := by
  unfold bytesOf
  split
  · rename_i h
    have h1 : each * n ≤ 256 * 128 := Int.mul_le_mul he1 (by omega) h.1 (by omega)
    exact ⟨Int.mul_nonneg he0 h.1, by omega⟩
  · omega

theorem total_any (a b c v : Int) (w0 w : World) (H : On w0 w) (hv : total a b c = v) : Calls Tryd.prog 23 #[geoV a b c] w fun e w' => e = .returned (.int .i64 v) ∧ On w0 w' := by
  subst hv
  have HT := Lib.hid (fun o => H.next (below_box w o))
  clear H
  cases hr : right a b c
  · have HR := Lib.hid hr
    have HV := Lib.hid (show total a b c = 0 by simp [total, hr])
    rw [HV.out]
    clear hr
    go_enter Tryd.func23, Tryd.ntmps23
    go_wp2_with fail
    refine (right_any a b c false _ _ (HT.out _) HR.out).mono ?_
    rintro e w1 ⟨rfl, hw1⟩
    have HW1 := Lib.hid hw1
    clear hw1
    go_wp2_with fail
    go_ret
    exact ⟨rfl, HW1.out⟩
  · have HR := Lib.hid hr
    have HV := Lib.hid (show total a b c = col a 0 + bytesOf b 64 256 + bytesOf c 128 64 by simp [total, hr])
    rw [HV.out]
    clear hr
    obtain ⟨x, hx⟩ : ∃ x, col a 0 = x := ⟨_, rfl⟩
    obtain ⟨y, hy⟩ : ∃ x, bytesOf b 64 256 = x := ⟨_, rfl⟩
    obtain ⟨z, hz⟩ : ∃ x, bytesOf c 128 64 = x := ⟨_, rfl⟩
    obtain ⟨hx0, hx1⟩ := hx ▸ col0_bounds a
    obtain ⟨hy0, hy1⟩ := hy ▸ bytesOf_bounds b 64 256 (by omega) (by omega) (by omega)
    obtain ⟨hz0, hz1⟩ := hz ▸ bytesOf_bounds c 128 64 (by omega) (by omega) (by omega)
    rw [hx, hy, hz]
    have HX := Lib.hid hx
    have HY := Lib.hid hy
    have HZ := Lib.hid hz
    clear hx hy hz HV
    go_enter Tryd.func23, Tryd.ntmps23
    go_wp2_with fail
    refine (right_any a b c true _ _ (On.start (HT.out _).tab) HR.out).mono ?_
    rintro e w1 ⟨rfl, hw1⟩
    have hc0 := (hw1.bel.cell (p := ⟨w.heap.size, 0, none⟩) (by simp)).trans (boxed w _ _ _ _).1
    have hc1 := (hw1.bel.cell (p := ⟨w.heap.size, 1, none⟩) (by simp)).trans (boxed w _ _ _ _).2.1
    have hc2 := (hw1.bel.cell (p := ⟨w.heap.size, 2, none⟩) (by simp)).trans (boxed w _ _ _ _).2.2
    have HT1 := Lib.hid hw1.tab
    have HW1 := Lib.hid ((HT.out _).next hw1.bel)
    clear hw1
    go_wp2_with fail
    have hr0 := fun d os => cell_regrown hc0 d os
    have hr1 := fun d os => cell_regrown hc1 d os
    have hr2 := fun d os => cell_regrown hc2 d os
    clear hc0 hc1 hc2
    refine wp_region_quiet_below (by kernel_rfl) (by kernel_rfl) ?_
    iterate 2 go_big_quiet_step (fail)
    go_big_quiet_step ((refine eeprom_in w1 _ a x HT1.out HX.out))
    iterate 2 go_big_quiet_step (fail)
    go_big_quiet_step ((refine flash_in w1 _ b y HY.out))
    iterate 3 go_big_quiet_step (fail)
    go_big_quiet_step ((refine sram_in w1 _ c z HZ.out))
    repeat (go_big_quiet_step (fail))
    refine wpQuiet_nil ?_
    rintro w' ⟨q, rfl⟩
    have HQ := Lib.hid (HW1.out.next (in_below w1 q))
    go_wp2_with fail
    go_ret
    exact ⟨rfl, HQ.out⟩
end Go.Proofs.YtmmklbcefndebaaDoor
