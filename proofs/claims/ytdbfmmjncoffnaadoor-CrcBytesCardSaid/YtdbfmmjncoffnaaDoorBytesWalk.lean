/-
  THE WALK OF CrcBytes.
-/
import Derived.Test.YtdbfmmjncoffnaaDoorRowsAt
import Derived.Test.YtdbfmmjncoffnaaDoorBits
namespace Go.Proofs.YtdbfmmjncoffnaaDoor
open Ks Go.RowKit

/-- a block of four bytes -/
theorem bytes4 {w : World} {g B : Nat} {a0 a1 a2 a3 : Int} (hg : w.heap[g]? = some (.cells #[.int .u8 a0, .int .u8 a1, .int .u8 a2, .int .u8 a3] 5)) (hB : g < B) (h : ∀ v ∈ [a0, a1, a2, a3], 0 ≤ v ∧ v ≤ 255) :
    Bytes w B (some ⟨g, 0, none⟩) 4 [a0, a1, a2, a3] := by
  refine ⟨rfl, h, fun _ => ⟨g, 0, rfl, hB, fun k hk => ?_⟩⟩
  rw [Nat.zero_add, cell_of_row _ _ _ _ _ _ hg]
  match k, hk with
  | 0, _ | 1, _ | 2, _ | 3, _ => rfl
theorem four_in (a : Int) (ha : 0 ≤ a ∧ a ≤ 4294967295) : ∀ v ∈ [a % 256, a / 256 % 256, a / 65536 % 256, a / 16777216], 0 ≤ v ∧ v ≤ 255 := by
  intro v hv
  simp only [List.mem_cons, List.not_mem_nil, or_false] at hv
  rcases hv with rfl | rfl | rfl | rfl <;> omega

theorem crcBytes_walk (s : Int) (ws : (Lit.int .u32 s).wf = true) (a : Int) (wa : (Lit.int .u32 a).wf = true) (b : Int) (wb : (Lit.int .u32 b).wf = true) (w : World) (hT : Tab w) :
    Calls Tryd.prog 9 #[.int .u32 s, .int .u32 a, .int .u32 b] w fun e w' => e = .returned (.bool true) ∧ Below w.heap.size w w' := by
  have hs : 0 ≤ s ∧ s ≤ 4294967295 := by simpa [Lit.wf, IntKind.min, IntKind.max, IntKind.signed, IntKind.bits] using ws
  have ha : 0 ≤ a ∧ a ≤ 4294967295 := by simpa [Lit.wf, IntKind.min, IntKind.max, IntKind.signed, IntKind.bits] using wa
  have hb : 0 ≤ b ∧ b ≤ 4294967295 := by simpa [Lit.wf, IntKind.min, IntKind.max, IntKind.signed, IntKind.bits] using wb
  have HF := Lib.hid (more4 s a b ha hb)
  have HA := Lib.hid (four_in a ha)
  have HB := Lib.hid (four_in b hb)
  have HS := Lib.hid (U_Bv s hs.1 (by omega))
  obtain ⟨hs0, hs1⟩ := hs
  obtain ⟨ha0, ha1⟩ := ha
  obtain ⟨hb0, hb1⟩ := hb
  have HT := Lib.hid hT
  clear hT ws wa wb
  go_enter Tryd.func9, Tryd.ntmps9
  go_wp2_with fail
  refine (awake_any _ HT.out).mono ?_
  rintro e w1 ⟨rfl, hw1⟩
  have HW1 := Lib.hid hw1
  clear hw1
  go_wp2_with fail
  generalize hW : ((w1.alloc (Obj.cells #[Value.int IntKind.u8 (a % 256), Value.int IntKind.u8 (a / 256 % 256), Value.int IntKind.u8 (a / 65536 % 256), Value.int IntKind.u8 (a / 16777216)] 5)).alloc
      (Obj.cells #[Value.int IntKind.u8 (b % 256), Value.int IntKind.u8 (b / 256 % 256), Value.int IntKind.u8 (b / 65536 % 256), Value.int IntKind.u8 (b / 16777216)] 5)) = W
  have hBW : Below w1.heap.size w1 W := by rw [← hW]; exact ((Below.refl _ _).alloc (Nat.le_refl _) _).alloc (by simp) _
  have hg1 : W.heap[w1.heap.size]? = some (.cells #[.int .u8 (a % 256), .int .u8 (a / 256 % 256), .int .u8 (a / 65536 % 256), .int .u8 (a / 16777216)] 5) := by
    rw [← hW, Below.heap_alloc _ _ _ (by simp)]; exact heap_alloc_new w1 _
  have hg2 : W.heap[w1.heap.size + 1]? = some (.cells #[.int .u8 (b % 256), .int .u8 (b / 256 % 256), .int .u8 (b / 65536 % 256), .int .u8 (b / 16777216)] 5) := by
    rw [← hW]
    have := heap_alloc_new (w1.alloc (Obj.cells #[Value.int IntKind.u8 (a % 256), Value.int IntKind.u8 (a / 256 % 256), Value.int IntKind.u8 (a / 65536 % 256), Value.int IntKind.u8 (a / 16777216)] 5)) (Obj.cells #[Value.int IntKind.u8 (b % 256), Value.int IntKind.u8 (b / 256 % 256), Value.int IntKind.u8 (b / 65536 % 256), Value.int IntKind.u8 (b / 16777216)] 5)
    simpa using this
  have HBW := Lib.hid (HW1.out.trans (hBW.mono HW1.out.size))
  have HT2 := Lib.hid (tab_below HT.out HBW.out (tab_pos HT.out))
  have HY1 := Lib.hid (bytes4 hg1 (Nat.lt_succ_self _) HA.out)
  have HY2 := Lib.hid (bytes4 hg2 (Nat.lt_succ_self _) HB.out)
  clear hW hBW hg1 hg2
  rw [← HS.out]
  refine (more_any (Bv s) _ 4 4 _ _ W HT2.out (by unfold maxLen; omega) HY1.out).mono ?_
  rintro e w' ⟨rfl, rfl⟩
  generalize more (Bv s) ([a % 256, a / 256 % 256, a / 65536 % 256, a / 16777216].map Bv) = m1 at *
  go_wp2_with fail
  refine (more_any (Bv s) _ 4 4 _ _ W HT2.out (by unfold maxLen; omega) HY2.out).mono ?_
  rintro e w' ⟨rfl, rfl⟩
  generalize more (Bv s) ([b % 256, b / 256 % 256, b / 65536 % 256, b / 16777216].map Bv) = m2 at *
  have HE := Lib.hid (show ((U m1 == U m2) == (a == b)) = true by
    rw [U_beq]
    have := HF.out
    by_cases h : a = b
    · simp [h, this.2 h]
    · have h2 : ¬ m1 = m2 := fun e => h (this.1 e)
      rw [beq_eq_false_iff_ne.2 h2, beq_eq_false_iff_ne.2 h]; rfl)
  go_wp2_with fail
  go_ret
  exact ⟨ret_bool HE.out, HBW.out⟩
end Go.Proofs.YtdbfmmjncoffnaaDoor
