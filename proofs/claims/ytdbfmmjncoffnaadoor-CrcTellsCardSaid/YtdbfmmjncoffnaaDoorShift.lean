/-
  THE WALK OF keepsakeref01.Shift.
-/
import Derived.Test.YtdbfmmjncoffnaaDoorLeft
import Derived.Test.YtdbfmmjncoffnaaDoorZeros
namespace Go.Proofs.YtdbfmmjncoffnaaDoor
open Ks Go.RowKit

theorem info4 : (Tryd.prog.info? 4).map (fun i => (i.zero, i.size, i.bytes)) = some (some (.bool false), 1, 1) := by kernel_rfl
theorem mod2 (x : BitVec 32) : (U x % 2 == 1) = x.getLsbD 0 := by
  have h : x.getLsbD 0 = decide (x.toNat % 2 = 1) := by rw [BitVec.getLsbD, Nat.testBit_zero]
  rw [h, Bool.eq_iff_iff]
  unfold U
  simp only [beq_iff_eq, decide_eq_true_eq]
  omega
/-- the first k bits -/
def bitsN (x : BitVec 32) (k : Nat) : List Bool := (List.range k).map fun t => x.getLsbD t
theorem bitsN_succ (x : BitVec 32) (k : Nat) : bitsN x (k + 1) = bitsN x k ++ [x.getLsbD k] := by
  unfold bitsN; rw [List.range_succ, List.map_append]; rfl
/-- where the loop of Shift stands -/
def ShiftAt (w : World) (x : BitVec 32) (k : Nat) (v : Value) (wr : World) : Prop :=
  wr.ownsRow w.heap.size 4 1 v k ((bitsN x k).map Value.bool) ∧ Below w.heap.size w wr
theorem shiftAt_succ {w wr w2 : World} {x : BitVec 32} {k g cap : Nat} {v : Value} {o : Obj} (h : ShiftAt w x k v wr)
    (hown : w2.ownsRow w.heap.size 4 1 (.slice (some ⟨g, 0, none⟩) (k + 1) cap) (k + 1) ((bitsN x k).map Value.bool ++ [.bool (x.getLsbD k)]))
    (hgrow : (wr.alloc o).grownBy w2 v.ownBlock) : ShiftAt w x (k + 1) (.slice (some ⟨g, 0, none⟩) (k + 1) cap) w2 := by
  obtain ⟨h1, h2⟩ := h
  refine ⟨?_, ?_⟩
  · rw [bitsN_succ, List.map_append]; exact hown
  · refine (h2.alloc h2.size o).grown hgrow (by have := h2.size; simp; omega) ?_
    intro j hj
    exact (h1.lt j hj).1
theorem shift_end (x : BitVec 32) (m : Nat) (c : List Bool) (h : DivAt (bitsN x 32 ++ List.replicate m false) m c) : win (bl c) m = Xn m x := by
  have hb : ∀ j, bl (bitsN x 32 ++ List.replicate m false) j = if j < 32 then x.getLsbD j else false := by
    intro j
    unfold bl
    rw [List.getD, List.getElem?_append]
    by_cases hj : j < 32
    · simp [bitsN, hj]
    · simp only [bitsN, List.length_map, List.length_range, hj, if_false, List.getElem?_replicate]
      split <;> rfl
  rw [h.2.1, Sf_zeros _ (fun j hj => by rw [hb, if_neg (by omega)]), win_num x _ (fun t ht => by rw [hb, if_pos ht])]

theorem shift_any (x : BitVec 32) (n : Nat) (w : World) (hn : n ≤ 1000) :
    Calls Tryd.prog 15 #[.int .u32 (U x), .int .i64 n] w fun e w' => e = .returned (.int .u32 (U (Xn (8 * n) x))) ∧ Below w.heap.size w w' := by
  obtain ⟨i0, hi, hz0, hz1, hz2⟩ := info_parts info4
  go_enter Tryd.func15, Tryd.ntmps15
  go_wp2_with fail
  go_loopw [0, 5, 6] (fun a v i wr => ∃ k : Nat, k ≤ 32 ∧ i = .int .i64 k ∧ a = .int .u32 (U (x >>> k)) ∧ ShiftAt w x k v wr) (fun _ _ i _ => 32 - (intOf i).toNat)
  case atStart => exact ⟨0, by omega, rfl, by simp, World.ownsRow_nil _ _ _ _, Below.refl _ _⟩
  case round =>
    obtain ⟨k, hk, rfl, rfl, hat⟩ := hrel
    have HAT := Lib.hid hat
    clear hat
    by_cases hlt : k < 32
    · have hm2 := mod2 (x >>> k)
      have hbk : (x >>> k).getLsbD 0 = x.getLsbD k := by simp
      rw [hbk] at hm2
      have hd2 := shr1 (x >>> k)
      rw [← BitVec.shiftRight_add] at hd2
      have HD2 := Lib.hid hd2
      have hu0 := U_ge (x >>> k)
      have hu1 := U_lt (x >>> k)
      clear hbk hd2
      generalize U (x >>> k) = y at *
      generalize hbb : x.getLsbD k = bb at *
      have HBB := Lib.hid hbb
      clear hbb
      have HNW := Lib.hid (World.news_of_block (cs := #[.bool bb]) (t := 4) (fr := (0, 0)) (heap_alloc_new wr _))
      go_wp2_with (at_builtin; refine wpList_append_lies _ rfl _ _ _ rfl w.heap.size 4 i0 _ 1 1 Tryd.underlying40 hi hz0 hz1 hz2 rfl (by omega) _ k ((bitsN x k).map Value.bool) rfl (HAT.out.1.alloc _) ⟨wr.heap.size, 0, none⟩ 1 1 [.bool bb] rfl rfl HNW.out (by simp [Value.oneCell']) (by omega) (by unfold maxLen; omega) (by omega) (by have := HAT.out.2.size; simp; omega) (wr.heap.size + 1) (by simp) ?_; intro g cap w2 hown2 hgrow hat2 hlt2)
      have R := Lib.hid (shiftAt_succ HAT.out (by rw [HBB.out]; exact hown2) hgrow)
      clear hown2 hgrow hat2 hlt2 HAT
      go_roundw
      case rel => exact ⟨k + 1, by omega, by go_num, by rw [HD2.out], R.out⟩
      case measure => simp [intOf]; omega
    · obtain rfl : k = 32 := by omega
      obtain ⟨g, cap, rfl, _, _⟩ := HAT.out.1.form (by omega)
      obtain ⟨v', w2, hr, hown2, hgrow⟩ := zeros_own (P := Tryd.prog) wr w.heap.size 40 3 40 4 i0 (.bool false) .i64 .i64 Tryd.underlying40 Tryd.underlying3 hi hz0 hz1 hz2 rfl rfl _ _ _ HAT.out.1 (8 * n) (by unfold maxLen; omega) (by omega) HAT.out.2.size
      obtain ⟨g2, cap2, rfl, _, hg2⟩ := hown2.form (by omega)
      have HB2 := Lib.hid (HAT.out.2.grown hgrow HAT.out.2.size (fun j hj => (HAT.out.1.lt j hj).1))
      have HO2 := Lib.hid hown2
      have hr8 : ((8 * n : Nat) : Int) = 8 * (n : Int) := by omega
      rw [hr8] at hr
      have HR := Lib.hid hr
      clear hr hown2 hgrow hr8 HAT
      go_wp2_with (at_builtin; refine Lib.wpList_append_run _ rfl _ _ _ _ rfl _ _ rfl rfl _ _ HR.out ?_)
      have ho : w2.ownsRow w.heap.size 4 1 (.slice (some ⟨g2, 0, none⟩) (32 + 8 * n) cap2) (32 + 8 * n) ((bitsN x 32 ++ List.replicate (8 * n) false).map Value.bool) := by
        rw [List.map_append, List.map_replicate]; exact HO2.out
      refine (left_any w2 w.heap.size g2 (32 + 8 * n) cap2 _ ho (by omega) (by omega)).mono ?_
      rintro e w3 ⟨c, rfl, hl3, hd3⟩
      rw [show 32 + 8 * n - 32 = 8 * n by omega] at hd3
      have HL3 := Lib.hid hl3
      have HE := Lib.hid (shift_end x (8 * n) c hd3)
      clear hl3 hd3 ho
      rw [show 32 + 8 * n - 32 = 8 * n by omega]
      go_wp2_with fail
      refine (word_any g2 (8 * n) _ (bl c) w3 (fun k hk => (own_bool HL3.out.1 (8 * n + k) (by omega)).1)).mono ?_
      rintro e w' ⟨rfl, rfl⟩
      go_wp2_with fail
      go_ret
      refine ⟨ret_int (by rw [HE.out]), ?_⟩
      exact HB2.out.grown HL3.out.2.1 HB2.out.size (fun j hj => by cases hj; exact (HO2.out.lt g2 rfl).1)
end Go.Proofs.YtdbfmmjncoffnaaDoor
