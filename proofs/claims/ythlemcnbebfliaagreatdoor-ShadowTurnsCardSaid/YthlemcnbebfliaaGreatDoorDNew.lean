/-
  THE WALKS OF New, and of an Open that can't be.
-/
import Derived.Test.YthlemcnbebfliaaGreatDoorDOpen
namespace Go.Proofs.YthlemcnbebfliaaGreatDoor.Dsk
open Ks Go.RowKit
set_option maxRecDepth 20000

/-- no disk -/
def OpensNot (w : World) (e : Ending) (w' : World) : Prop := e = .returned (.tuple #[.pointer none, .int .i64 1]) ∧ Keeps No w w'

theorem chunks_zero (n m : Nat) : chunks n m (List.replicate (m * n) 0) = List.replicate m (List.replicate n 0) := by
  apply List.ext_getElem
  · simp [chunks]
  · intro i h1 h2
    have hi : i < m := by simpa [chunks] using h1
    simp only [chunks, List.getElem_map, List.getElem_range, List.getElem_replicate]
    unfold chunk
    rw [List.drop_replicate, List.take_replicate]
    congr 1
    have : (i + 1) * n ≤ m * n := Nat.mul_le_mul_right _ hi
    rw [Nat.add_mul] at this
    omega

theorem bys_zeros (w : World) (k : Nat) : Bys (w.alloc (.cells (madeCells #[Value.int .u8 0] k) 5)) (From w.heap.size) (.slice (some ⟨w.heap.size, 0, none⟩) k k) (List.replicate k 0) := by
  refine ⟨some ⟨w.heap.size, 0, none⟩, k, by simp, by simp, fun h0 => ⟨w.heap.size, 0, rfl, Nat.le_refl _, fun i hi => ?_⟩⟩
  rw [Nat.zero_add, cell_of_row _ _ _ _ _ _ (heap_alloc_new w _)]
  simp only [List.length_replicate] at hi
  rw [← Array.getElem?_toList, made_cells]
  simp [List.getD, hi]

theorem opens_before {w w1 : World} {s : St} {e : Ending} {w' : World} (h : Opens w1 s e w') (hk : Keeps No w w1) : Opens w s e w' := by
  obtain ⟨p, h1, h2, h3⟩ := h
  refine ⟨p, h1, h2.mono (fun b hb => ?_) (fun b hb => ?_), hk.trans h3⟩
  · rcases hb with hb | hb
    · exact .inl hb
    · exact .inr ⟨Nat.le_trans hk.size hb.1, hb.2⟩
  · rcases hb with hb | hb
    · exact hb.elim
    · exact hb.2

set_option maxRecDepth 100000 in
set_option maxHeartbeats 1000000 in
theorem new_ok (w : World) (m n : Nat) (hn0 : 1 ≤ n) (hn : n ≤ 4096) (hm : m ≤ 4096) :
    Calls Tryz.prog 26 #[.int .i64 m, .int .i64 n] w (Opens w (fresh n (List.replicate m (List.replicate n 0)))) := by
  have hle : m * n ≤ 16777216 := Nat.mul_le_mul hm hn
  have hmk := run_make_row' (P := Tryz.prog) 33 5 (.int .u8 0) 1 Tryz.underlying33 info5 rfl .i64 .i64 (m * n) (by omega) (by omega)
  have hok : (decide (1 ≤ (n : Int)) && decide ((n : Int) ≤ 4096)) = true := by simp; omega
  have HOK := Lib.hid hok
  have HZ := Lib.hid (open_ok (w.alloc (.cells (madeCells #[Value.int .u8 0] (m * n)) 5)) (From w.heap.size) n m _ _ (bys_zeros w (m * n)) hn0 hn (by simp) hm)
  rw [chunks_zero] at HZ
  have hm0 : (0 : Int) ≤ (m : Int) := by omega
  have hm1 : (m : Int) ≤ 4096 := by omega
  have hmul : ((m : Int) * (n : Int)) = ((m * n : Nat) : Int) := by rw [Int.natCast_mul]
  obtain ⟨k, hk⟩ : ∃ k, m * n = k := ⟨_, rfl⟩
  rw [hk] at hle hmk HZ hmul
  have hle2 : (k : Int) ≤ 16777216 := by omega
  clear hok hk
  go_enter Tryz.func26, Tryz.ntmps26
  go_wp2_with fail
  refine (mayBe_any w n).mono ?_
  rintro e w' ⟨rfl, rfl⟩
  rw [HOK.out]
  go_wp2_with fail
  refine HZ.out.mono ?_
  rintro e w1 ⟨p, rfl, h1, h2⟩
  have HR := Lib.hid (opens_before ⟨p, rfl, h1, h2⟩ ((Keeps.refl No w).alloc _))
  clear h1 h2
  go_wp2_with fail
  go_ret2
  exact HR.out

set_option maxRecDepth 100000 in
set_option maxHeartbeats 1000000 in
theorem new_no (w : World) (m n : Int) (h : m < 0 ∨ 4096 < m ∨ n < 1 ∨ 4096 < n) : Calls Tryz.prog 26 #[.int .i64 m, .int .i64 n] w (OpensNot w) := by
  have H := Lib.hid h
  clear h
  by_cases h1 : m < 0
  · go_enter Tryz.func26, Tryz.ntmps26
    go_wp2_with fail
    go_ret2
    exact ⟨rfl, Keeps.refl _ _⟩
  by_cases h2 : 4096 < m
  · have g1 : decide (m < 0) = false := by simp; omega
    clear h1
    go_enter Tryz.func26, Tryz.ntmps26
    go_wp2_with fail
    go_ret2
    exact ⟨rfl, Keeps.refl _ _⟩
  have hno : (decide (1 ≤ n) && decide (n ≤ 4096)) = false := by
    rcases H.out with h | h | h | h
    · omega
    · omega
    · simp; omega
    · simp; omega
  have HNO := Lib.hid hno
  have g1 : decide (m < 0) = false := by simp; omega
  have g2 : decide (4096 < m) = false := by simp; omega
  clear h1 h2 hno
  go_enter Tryz.func26, Tryz.ntmps26
  go_wp2_with fail
  refine (mayBe_any w n).mono ?_
  rintro e w' ⟨rfl, rfl⟩
  rw [HNO.out]
  go_wp2_with fail
  go_ret2
  exact ⟨rfl, Keeps.refl _ _⟩

set_option maxRecDepth 100000 in
set_option maxHeartbeats 1000000 in
theorem open_no (w : World) (n : Int) (A : Option Addr) (k c : Nat) (hk : k ≤ 1000000) (h : n < 1 ∨ 4096 < n ∨ (k : Int) % n ≠ 0) : Calls Tryz.prog 41 #[.int .i64 n, .slice A k c] w (OpensNot w) := by
  have H := Lib.hid h
  clear h
  by_cases hmay : (decide (1 ≤ n) && decide (n ≤ 4096)) = true
  · have HM := Lib.hid hmay
    simp only [Bool.and_eq_true, decide_eq_true_eq] at hmay
    obtain ⟨hm1, hm2⟩ := hmay
    have hne : ((k : Int) % n != 0) = true := by
      rcases H.out with h | h | h
      · omega
      · omega
      · simpa using h
    go_enter Tryz.func41, Tryz.ntmps41
    go_wp2_with fail
    refine (mayBe_any w n).mono ?_
    rintro e w' ⟨rfl, rfl⟩
    rw [HM.out]
    go_wp2_with fail
    go_ret2
    exact ⟨rfl, Keeps.refl _ _⟩
  · have HM := Lib.hid (show (decide (1 ≤ n) && decide (n ≤ 4096)) = false by simpa using hmay)
    clear hmay
    go_enter Tryz.func41, Tryz.ntmps41
    go_wp2_with fail
    refine (mayBe_any w n).mono ?_
    rintro e w' ⟨rfl, rfl⟩
    rw [HM.out]
    go_wp2_with fail
    go_ret2
    exact ⟨rfl, Keeps.refl _ _⟩
end Go.Proofs.YthlemcnbebfliaaGreatDoor.Dsk
