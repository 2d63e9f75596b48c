/-
  A SEAT WITH THE TABLE OF KINDS ALONE: geo.Eeprom, Page, Wide, Blocks, AND THE DOCUMENT's.
-/
import Derived.Test.YtfcdlnpfneinlaaDoorBKeep
namespace Go.Proofs.YtfcdlnpfneinlaaDoor
open Go.RowKit
set_option maxRecDepth 20000

/-- the table, row by row -/
def tab : List (List Int) := [[0, 0, 0, 0], [128, 8, 1, 0], [256, 8, 1, 0], [512, 16, 1, 1], [1024, 16, 1, 2], [2048, 16, 1, 3], [4096, 32, 2, 0], [8192, 32, 2, 0], [16384, 64, 2, 0], [32768, 64, 2, 0], [65536, 128, 2, 0]]
/-- what stands in column j of kind k -/
def gcol (k : Int) (j : Nat) : Int := if 0 ≤ k ∧ k ≤ 10 then (tab.getD k.toNat []).getD j 0 else 0
def Tab (w : World) : Prop := ∀ k j, k < 11 → j < 4 → w.cell? ⟨0, 4 * k + j, none⟩ = some (.int .i64 ((tab.getD k []).getD j 0))
theorem tab_below {w w' : World} {B : Nat} (h : Tab w) (hb : Below B w w') (h0 : 0 < B) : Tab w' := fun k j hk hj => (hb.cell (p := ⟨0, 4 * k + j, none⟩) h0).trans (h k j hk hj)
theorem tab_pos {w : World} (h : Tab w) : 0 < w.heap.size := block_lt_of_cell (h 0 0 (by omega) (by omega))

theorem mayBe_any (n m : Int) (w : World) : Calls Tryd.prog 78 #[.int .i64 n, .int .i64 m] w fun e w' => e = .returned (.bool (decide (0 ≤ n ∧ n ≤ m))) ∧ w' = w := by
  by_cases h0 : (0 : Int) ≤ n
  · by_cases h1 : n ≤ m
    · go_enter Tryd.func78, Tryd.ntmps78
      go_wp2_with fail
      go_ret
      exact ⟨by simp [h0, h1], rfl⟩
    · go_enter Tryd.func78, Tryd.ntmps78
      go_wp2_with fail
      go_ret
      exact ⟨by simp [h1], rfl⟩
  · go_enter Tryd.func78, Tryd.ntmps78
    go_wp2_with fail
    go_ret
    exact ⟨by rw [decide_eq_false (by omega)]; rfl, rfl⟩

theorem tab_at {w : World} (hT : Tab w) (o : Obj) (k : Int) (j : Nat) (h0 : 0 ≤ k) (h1 : k ≤ 10) (hj : j < 4) : (w.alloc o).cell? ⟨0, k.toNat * 4 + j, none⟩ = some (.int .i64 (gcol k j)) := by
  have h := tab_below hT ((Below.refl w.heap.size w).alloc (Nat.le_refl _) o) (tab_pos hT) k.toNat j (by omega) hj
  rw [Nat.mul_comm k.toNat 4, h]
  simp [gcol, h0, h1]
theorem tab_at0 {w : World} (hT : Tab w) (o : Obj) (k : Int) (h0 : 0 ≤ k) (h1 : k ≤ 10) : (w.alloc o).cell? ⟨0, k.toNat * 4, none⟩ = some (.int .i64 (gcol k 0)) := tab_at hT o k 0 h0 h1 (by omega)
theorem col_out (k : Int) (j : Nat) (h : ¬ (0 ≤ k ∧ k ≤ 10)) : gcol k j = 0 := by unfold gcol; rw [if_neg h]
theorem row_any (k : Int) (w : World) (hT : Tab w) : Calls Tryd.prog 56 #[.int .i64 k] w fun e w' => e = .returned (.agg #[.int .i64 (gcol k 0), .int .i64 (gcol k 1), .int .i64 (gcol k 2), .int .i64 (gcol k 3)]) ∧ Below w.heap.size w w' := by
  have HT := Lib.hid hT
  clear hT
  by_cases hk : 0 ≤ k ∧ k ≤ 10
  · have hd : decide (0 ≤ k ∧ k ≤ 10) = true := decide_eq_true hk
    obtain ⟨hk0, hk1⟩ := hk
    have c0 := fun o => tab_at0 HT.out o k hk0 hk1
    have c1 := fun o => tab_at HT.out o k 1 hk0 hk1 (by omega)
    have c2 := fun o => tab_at HT.out o k 2 hk0 hk1 (by omega)
    have c3 := fun o => tab_at HT.out o k 3 hk0 hk1 (by omega)
    generalize gcol k 0 = v0 at *
    generalize gcol k 1 = v1 at *
    generalize gcol k 2 = v2 at *
    generalize gcol k 3 = v3 at *
    go_enter Tryd.func56, Tryd.ntmps56
    go_wp2_with fail
    refine (mayBe_any k 10 _).mono ?_
    rintro e w1 ⟨rfl, rfl⟩
    rw [hd]
    go_wp2_with fail
    go_returns
    exact ⟨rfl, (Below.refl _ _).alloc (Nat.le_refl _) _⟩
  · rw [col_out k 0 hk, col_out k 1 hk, col_out k 2 hk, col_out k 3 hk]
    go_enter Tryd.func56, Tryd.ntmps56
    go_wp2_with fail
    refine (mayBe_any k 10 _).mono ?_
    rintro e w1 ⟨rfl, rfl⟩
    rw [decide_eq_false hk]
    go_wp2_with fail
    go_returns
    exact ⟨rfl, (Below.refl _ _).alloc (Nat.le_refl _) _⟩

/-- a world that came of w0, the table as it was -/
structure On (w0 w : World) : Prop where
  tab : Tab w
  bel : Below w0.heap.size w0 w
theorem On.start {w : World} (h : Tab w) : On w w := ⟨h, Below.refl _ _⟩
theorem On.next {w0 w w' : World} (h : On w0 w) (hb : Below w.heap.size w w') : On w0 w' := ⟨tab_below h.tab hb (tab_pos h.tab), h.bel.trans (hb.mono h.bel.size)⟩

theorem field0 (a b c d : Value) (w : World) : (Instr.field 87 (.agg #[a, b, c, d]) 0).run Tryd.prog w = .ok a w := by kernel_rfl
theorem field1 (a b c d : Value) (w : World) : (Instr.field 87 (.agg #[a, b, c, d]) 1).run Tryd.prog w = .ok b w := by kernel_rfl
theorem field2 (a b c d : Value) (w : World) : (Instr.field 87 (.agg #[a, b, c, d]) 2).run Tryd.prog w = .ok c w := by kernel_rfl
theorem field3 (a b c d : Value) (w : World) : (Instr.field 87 (.agg #[a, b, c, d]) 3).run Tryd.prog w = .ok d w := by kernel_rfl

theorem eeprom_any (k v : Int) (w0 w : World) (H : On w0 w) (hv : gcol k 0 = v) : Calls Tryd.prog 38 #[.int .i64 k] w fun e w' => e = .returned (.int .i64 v) ∧ On w0 w' := by
  subst hv
  have HT := Lib.hid H
  clear H
  have hf := field0
  go_enter Tryd.func38, Tryd.ntmps38
  go_wp2_with fail
  refine (row_any k _ HT.out.tab).mono ?_
  rintro e w1 ⟨rfl, hw1⟩
  have HW := Lib.hid hw1
  clear hw1
  go_wp2_with fail
  go_ret
  exact ⟨rfl, HT.out.next HW.out⟩
theorem page_any (k v : Int) (w0 w : World) (H : On w0 w) (hv : gcol k 1 = v) : Calls Tryd.prog 99 #[.int .i64 k] w fun e w' => e = .returned (.int .i64 v) ∧ On w0 w' := by
  subst hv
  have HT := Lib.hid H
  clear H
  have hf := field1
  go_enter Tryd.func99, Tryd.ntmps99
  go_wp2_with fail
  refine (row_any k _ HT.out.tab).mono ?_
  rintro e w1 ⟨rfl, hw1⟩
  have HW := Lib.hid hw1
  clear hw1
  go_wp2_with fail
  go_ret
  exact ⟨rfl, HT.out.next HW.out⟩
theorem wide_any (k v : Int) (w0 w : World) (H : On w0 w) (hv : gcol k 2 = v) : Calls Tryd.prog 61 #[.int .i64 k] w fun e w' => e = .returned (.int .i64 v) ∧ On w0 w' := by
  subst hv
  have HT := Lib.hid H
  clear H
  have hf := field2
  go_enter Tryd.func61, Tryd.ntmps61
  go_wp2_with fail
  refine (row_any k _ HT.out.tab).mono ?_
  rintro e w1 ⟨rfl, hw1⟩
  have HW := Lib.hid hw1
  clear hw1
  go_wp2_with fail
  go_ret
  exact ⟨rfl, HT.out.next HW.out⟩
theorem blocks_any (k v : Int) (w0 w : World) (H : On w0 w) (hv : gcol k 3 = v) : Calls Tryd.prog 64 #[.int .i64 k] w fun e w' => e = .returned (.int .i64 v) ∧ On w0 w' := by
  subst hv
  have HT := Lib.hid H
  clear H
  have hf := field3
  go_enter Tryd.func64, Tryd.ntmps64
  go_wp2_with fail
  refine (row_any k _ HT.out.tab).mono ?_
  rintro e w1 ⟨rfl, hw1⟩
  have HW := Lib.hid hw1
  clear hw1
  go_wp2_with fail
  go_ret
  exact ⟨rfl, HT.out.next HW.out⟩

def atOf (l : List Int) (k : Int) : Int := if 1 ≤ k ∧ k ≤ 10 then l.getD (k - 1).toNat 0 else 0
theorem at_any (b : Nat) (l : List Int) (k : Int) (w : World) (hl : ∀ i, i < 10 → w.cell? ⟨b, i, none⟩ = some (.int .i64 (l.getD i 0))) :
    Calls Tryd.prog 37 #[.slice (some ⟨b, 0, none⟩) 10 10, .int .i64 k] w fun e w' => e = .returned (.int .i64 (atOf l k)) ∧ w' = w := by
  by_cases h0 : k < 1
  · have hv : atOf l k = 0 := by unfold atOf; rw [if_neg (by omega)]
    rw [hv]
    clear hl hv
    go_enter Tryd.func37, Tryd.ntmps37
    go_wp2_with fail
    go_ret
    exact ⟨rfl, rfl⟩
  · by_cases h1 : 10 < k
    · have hv : atOf l k = 0 := by unfold atOf; rw [if_neg (by omega)]
      rw [hv]
      clear hl hv
      go_enter Tryd.func37, Tryd.ntmps37
      go_wp2_with fail
      go_ret
      exact ⟨rfl, rfl⟩
    · have hv : atOf l k = l.getD (k - 1).toNat 0 := by unfold atOf; rw [if_pos (by omega)]
      rw [hv]
      clear hv
      obtain ⟨n, hn⟩ : ∃ n : Int, k - 1 = n := ⟨_, rfl⟩
      obtain rfl : k = n + 1 := by omega
      have hn0 : 0 ≤ n := by omega
      have hn1 : n < 10 := by omega
      have hc := hl n.toNat (by omega)
      rw [hn]
      generalize l.getD n.toNat 0 = v at *
      clear hl hn h0 h1
      go_enter Tryd.func37, Tryd.ntmps37
      go_wp2_with fail
      go_ret
      exact ⟨rfl, rfl⟩

theorem atOf_col (l : List Int) (j : Nat) (h : ∀ n : Nat, n < 10 → l.getD n 0 = (tab.getD (n + 1) []).getD j 0) (h0 : (tab.getD 0 []).getD j 0 = 0) (k : Int) : atOf l k = gcol k j := by
  unfold atOf gcol
  by_cases hk : 1 ≤ k ∧ k ≤ 10
  · rw [if_pos hk, if_pos (by omega), h (k - 1).toNat (by omega), show (k - 1).toNat + 1 = k.toNat by omega]
  · rw [if_neg hk]
    by_cases hz : k = 0
    · subst hz; rw [if_pos (by omega)]; exact h0.symm
    · rw [if_neg (by omega)]
theorem ten (w : World) (t : TypeId) (a0 a1 a2 a3 a4 a5 a6 a7 a8 a9 : Int) (i : Nat) (hi : i < 10) :
    (w.alloc (.cells #[.int .i64 a0, .int .i64 a1, .int .i64 a2, .int .i64 a3, .int .i64 a4, .int .i64 a5, .int .i64 a6, .int .i64 a7, .int .i64 a8, .int .i64 a9] t)).cell? ⟨w.heap.size, i, none⟩ = some (.int .i64 ([a0, a1, a2, a3, a4, a5, a6, a7, a8, a9].getD i 0)) := by
  rw [cell_of_row _ _ _ _ _ _ (heap_alloc_new w _)]
  match i, hi with
  | 0, _ | 1, _ | 2, _ | 3, _ | 4, _ | 5, _ | 6, _ | 7, _ | 8, _ | 9, _ => rfl
theorem refEeprom_any (k v : Int) (w0 w : World) (H : On w0 w) (hv : gcol k 0 = v) : Calls Tryd.prog 12 #[.int .i64 k] w fun e w' => e = .returned (.int .i64 v) ∧ On w0 w' := by
  have HV := Lib.hid ((atOf_col [128, 256, 512, 1024, 2048, 4096, 8192, 16384, 32768, 65536] 0 (by decide) (by decide) k).trans hv)
  have HB := Lib.hid (fun o => H.next (below_box w o))
  clear hv H
  go_enter Tryd.func12, Tryd.ntmps12
  go_wp2_with fail
  refine (at_any _ [128, 256, 512, 1024, 2048, 4096, 8192, 16384, 32768, 65536] k _ (ten w _ _ _ _ _ _ _ _ _ _ _)).mono ?_
  rintro e w1 ⟨rfl, rfl⟩
  rw [HV.out]
  go_wp2_with fail
  go_ret
  exact ⟨rfl, HB.out _⟩
theorem refPage_any (k v : Int) (w0 w : World) (H : On w0 w) (hv : gcol k 1 = v) : Calls Tryd.prog 25 #[.int .i64 k] w fun e w' => e = .returned (.int .i64 v) ∧ On w0 w' := by
  have HV := Lib.hid ((atOf_col [8, 8, 16, 16, 16, 32, 32, 64, 64, 128] 1 (by decide) (by decide) k).trans hv)
  have HB := Lib.hid (fun o => H.next (below_box w o))
  clear hv H
  go_enter Tryd.func25, Tryd.ntmps25
  go_wp2_with fail
  refine (at_any _ [8, 8, 16, 16, 16, 32, 32, 64, 64, 128] k _ (ten w _ _ _ _ _ _ _ _ _ _ _)).mono ?_
  rintro e w1 ⟨rfl, rfl⟩
  rw [HV.out]
  go_wp2_with fail
  go_ret
  exact ⟨rfl, HB.out _⟩
theorem refWide_any (k v : Int) (w0 w : World) (H : On w0 w) (hv : gcol k 2 = v) : Calls Tryd.prog 30 #[.int .i64 k] w fun e w' => e = .returned (.int .i64 v) ∧ On w0 w' := by
  have HV := Lib.hid ((atOf_col [1, 1, 1, 1, 1, 2, 2, 2, 2, 2] 2 (by decide) (by decide) k).trans hv)
  have HB := Lib.hid (fun o => H.next (below_box w o))
  clear hv H
  go_enter Tryd.func30, Tryd.ntmps30
  go_wp2_with fail
  refine (at_any _ [1, 1, 1, 1, 1, 2, 2, 2, 2, 2] k _ (ten w _ _ _ _ _ _ _ _ _ _ _)).mono ?_
  rintro e w1 ⟨rfl, rfl⟩
  rw [HV.out]
  go_wp2_with fail
  go_ret
  exact ⟨rfl, HB.out _⟩
theorem refBlocks_any (k v : Int) (w0 w : World) (H : On w0 w) (hv : gcol k 3 = v) : Calls Tryd.prog 32 #[.int .i64 k] w fun e w' => e = .returned (.int .i64 v) ∧ On w0 w' := by
  have HV := Lib.hid ((atOf_col [0, 0, 1, 2, 3, 0, 0, 0, 0, 0] 3 (by decide) (by decide) k).trans hv)
  have HB := Lib.hid (fun o => H.next (below_box w o))
  clear hv H
  go_enter Tryd.func32, Tryd.ntmps32
  go_wp2_with fail
  refine (at_any _ [0, 0, 1, 2, 3, 0, 0, 0, 0, 0] k _ (ten w _ _ _ _ _ _ _ _ _ _ _)).mono ?_
  rintro e w1 ⟨rfl, rfl⟩
  rw [HV.out]
  go_wp2_with fail
  go_ret
  exact ⟨rfl, HB.out _⟩
end Go.Proofs.YtfcdlnpfneinlaaDoor
