/-
  THE WALK OF (*Chip).meant.
-/
import Derived.Test.YtfcdlnpfneinlaaDoorEHear
namespace Go.Proofs.YtfcdlnpfneinlaaDoor
open Go.RowKit
set_option maxRecDepth 20000

theorem blocks_in (W : World) (p : Regrown) (k v : Int) (hT : Tab W) (hv : gcol k 3 = v) : Calls Tryd.prog 64 #[.int .i64 k] (In W p) fun e w'' => e = .returned (.int .i64 v) ∧ ∃ q : Regrown, w'' = In W q := by
  apply Calls.regrown_of
  exact (blocks_any k v _ _ (On.start (tab_below hT (in_below W p) (tab_pos hT))) hv).mono fun _ _ h => ⟨h.1, h.2.bel⟩
theorem block_in (W : World) (p : Regrown) (b : Int) (h0 : 0 ≤ b) (h1 : b ≤ 255) : Calls Tryd.prog 60 #[.int .u8 b] (In W p) fun e w'' => e = .returned (.int .i64 (b / 2 % 8)) ∧ ∃ q : Regrown, w'' = In W q :=
  (block_any b _ h0 h1).mono fun _ _ h => ⟨h.1, p, h.2.symm⟩
set_option maxHeartbeats 4000000 in
theorem meant_any (w : World) (p : Nat) (F : Nat → Prop) (s : Chip) (b : Int) (h : ChipAt w p F s) (hk : 1 ≤ s.kind ∧ s.kind ≤ 10) (h0 : 0 ≤ b) (h1 : b ≤ 255) :
    Calls Tryd.prog 59 #[.pointer (some ⟨p, 0, none⟩), .int .u8 b] w fun e w' => e = .returned (.bool (s.meant b)) ∧ Below w.heap.size w w' := by
  obtain ⟨d, cap, l, cm, wm, hin⟩ := h
  have HT := Lib.hid hin.tab
  have c0 := (hin.blk.cell 0)
  have c14 := (hin.blk.cell 14)
  simp only [cellsOf, List.getElem?_toArray, List.getElem?_cons_zero, List.getElem?_cons_succ] at c0 c14
  clear hin
  have hv := kind_size hk
  obtain ⟨v, hve⟩ : ∃ v, gcol s.kind 3 = v := ⟨_, rfl⟩
  unfold Chip.meant
  rw [hve] at hv ⊢
  have HV := Lib.hid hve
  have hv : v = 0 ∨ v = 1 ∨ v = 2 ∨ v = 3 := by omega
  obtain ⟨x, hx⟩ : ∃ x, decide (b / 16 = 10) = x := ⟨_, rfl⟩
  obtain ⟨z, hz⟩ : ∃ z, decide (s.left = 0) = z := ⟨_, rfl⟩
  have hx' : (b / 16 == 10) = x := hx
  have hz' : (s.left == 0) = z := hz
  rw [hx, hz]
  have r0 := fun d os => cell_regrown c0 d os
  have r14 := fun d os => cell_regrown c14 d os
  clear hve c0 c14 hk hx hz
  rcases hv with rfl | rfl | rfl | rfl
  · obtain ⟨y, hy⟩ : ∃ y, decide (b / 2 % 8 < 1) = y := ⟨_, rfl⟩
    rw [show (2 : Int) ^ (Int.toNat 0) = 1 from rfl, hy]
    cases x <;> cases y <;> cases z
    all_goals
      go_enter Tryd.func59, Tryd.ntmps59
      go_wp2_with fail
      refine wp_region_quiet_below (by kernel_rfl) (by kernel_rfl) ?_
      repeat (go_big_quiet_step ((first | refine blocks_in w _ s.kind 0 HT.out HV.out | refine block_in w _ b h0 h1)))
      refine wpQuiet_nil ?_
      rintro w' ⟨q, rfl⟩
      go_wp2_with fail
      go_ret
      exact ⟨rfl, in_below w q⟩
  · obtain ⟨y, hy⟩ : ∃ y, decide (b / 2 % 8 < 2) = y := ⟨_, rfl⟩
    rw [show (2 : Int) ^ (Int.toNat 1) = 2 from rfl, hy]
    cases x <;> cases y <;> cases z
    all_goals
      go_enter Tryd.func59, Tryd.ntmps59
      go_wp2_with fail
      refine wp_region_quiet_below (by kernel_rfl) (by kernel_rfl) ?_
      repeat (go_big_quiet_step ((first | refine blocks_in w _ s.kind 1 HT.out HV.out | refine block_in w _ b h0 h1)))
      refine wpQuiet_nil ?_
      rintro w' ⟨q, rfl⟩
      go_wp2_with fail
      go_ret
      exact ⟨rfl, in_below w q⟩
  · obtain ⟨y, hy⟩ : ∃ y, decide (b / 2 % 8 < 4) = y := ⟨_, rfl⟩
    rw [show (2 : Int) ^ (Int.toNat 2) = 4 from rfl, hy]
    cases x <;> cases y <;> cases z
    all_goals
      go_enter Tryd.func59, Tryd.ntmps59
      go_wp2_with fail
      refine wp_region_quiet_below (by kernel_rfl) (by kernel_rfl) ?_
      repeat (go_big_quiet_step ((first | refine blocks_in w _ s.kind 2 HT.out HV.out | refine block_in w _ b h0 h1)))
      refine wpQuiet_nil ?_
      rintro w' ⟨q, rfl⟩
      go_wp2_with fail
      go_ret
      exact ⟨rfl, in_below w q⟩
  · obtain ⟨y, hy⟩ : ∃ y, decide (b / 2 % 8 < 8) = y := ⟨_, rfl⟩
    rw [show (2 : Int) ^ (Int.toNat 3) = 8 from rfl, hy]
    cases x <;> cases y <;> cases z
    all_goals
      go_enter Tryd.func59, Tryd.ntmps59
      go_wp2_with fail
      refine wp_region_quiet_below (by kernel_rfl) (by kernel_rfl) ?_
      repeat (go_big_quiet_step ((first | refine blocks_in w _ s.kind 3 HT.out HV.out | refine block_in w _ b h0 h1)))
      refine wpQuiet_nil ?_
      rintro w' ⟨q, rfl⟩
      go_wp2_with fail
      go_ret
      exact ⟨rfl, in_below w q⟩
end Go.Proofs.YtfcdlnpfneinlaaDoor
