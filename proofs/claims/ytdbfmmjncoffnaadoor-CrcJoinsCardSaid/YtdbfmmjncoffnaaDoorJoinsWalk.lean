/-
  THE WALK OF CrcJoins.
-/
import Derived.Test.YtdbfmmjncoffnaaDoorShift
import Derived.Test.YtdbfmmjncoffnaaDoorFarWalk
namespace Go.Proofs.YtdbfmmjncoffnaaDoor
open Ks Go.RowKit

theorem crcJoins_walk (a : Int) (wa : (Lit.int .u32 a).wf = true) (b : Int) (wb : (Lit.int .u32 b).wf = true) (n : Int) (wn : (Lit.int .u8 n).wf = true) (w : World) (hT : Tab w) :
    Calls Tryd.prog 5 #[.int .u32 a, .int .u32 b, .int .u8 n] w fun e w' => e = .returned (.bool true) ∧ Below w.heap.size w w' := by
  have ha : 0 ≤ a ∧ a ≤ 4294967295 := by simpa [Lit.wf, IntKind.min, IntKind.max, IntKind.signed, IntKind.bits] using wa
  have hb : 0 ≤ b ∧ b ≤ 4294967295 := by simpa [Lit.wf, IntKind.min, IntKind.max, IntKind.signed, IntKind.bits] using wb
  have hn : 0 ≤ n ∧ n ≤ 255 := by simpa [Lit.wf, IntKind.min, IntKind.max, IntKind.signed, IntKind.bits] using wn
  obtain ⟨A, rfl⟩ : ∃ A, a = U A := ⟨Bv a, (U_Bv a ha.1 (by omega)).symm⟩
  obtain ⟨B, rfl⟩ : ∃ B, b = U B := ⟨Bv b, (U_Bv b hb.1 (by omega)).symm⟩
  obtain ⟨hn0, hn1⟩ := hn
  obtain ⟨m, hm, hm1⟩ : ∃ m : Nat, n % 101 = (m : Int) ∧ m ≤ 100 := ⟨(n % 101).toNat, by omega, by omega⟩
  have HM := Lib.hid hm
  have HT := Lib.hid hT
  obtain ⟨J, hJ⟩ : ∃ J, join A B m = J := ⟨_, rfl⟩
  have H1 := Lib.hid (show join A B ((m : Int)).toNat = J by rw [Int.toNat_natCast, hJ])
  have H2 := Lib.hid (show bits .xor .u32 (U (Xn (8 * m) A)) (U B) = U J by rw [xor_U, ← hJ]; rfl)
  have H3 := Lib.hid (show join A B ((0 : Int)).toNat = A ^^^ B by rfl)
  have H4 := Lib.hid (xor_U A B)
  clear hT wa wb wn ha hb hm hJ
  go_enter Tryd.func5, Tryd.ntmps5
  go_wp2_with fail
  refine (awake_any _ HT.out).mono ?_
  rintro e w1 ⟨rfl, hw1⟩
  have HW1 := Lib.hid hw1
  clear hw1
  go_wp2_with fail
  rw [HM.out]
  refine (join_at A B m _ J (by omega) (by omega) H1.out).mono ?_
  rintro e w2 ⟨rfl, hw2⟩
  have HW2 := Lib.hid (below_on HW1.out hw2)
  clear hw2 HW1
  go_wp2_with fail
  refine (shift_any A m _ (by omega)).mono ?_
  rintro e w3 ⟨rfl, hw3⟩
  have HW3 := Lib.hid (below_on HW2.out hw3)
  clear hw3 HW2
  have hg1 := H2.out
  generalize U (Xn (8 * m) A) = s at *
  go_wp2_with fail
  refine (join_at A B 0 _ (A ^^^ B) (by omega) (by omega) H3.out).mono ?_
  rintro e w4 ⟨rfl, hw4⟩
  have HW4 := Lib.hid (below_on HW3.out hw4)
  clear hw4 HW3
  go_wp2_with fail
  go_ret
  exact ⟨ret_bool (by rw [H4.out]; exact beq_self_eq_true _), HW4.out⟩
end Go.Proofs.YtdbfmmjncoffnaaDoor
