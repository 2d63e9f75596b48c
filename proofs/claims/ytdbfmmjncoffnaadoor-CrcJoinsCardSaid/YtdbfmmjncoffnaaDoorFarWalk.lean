/-
  THE WALK OF CrcFar.
-/
import Derived.Test.YtdbfmmjncoffnaaDoorRowsAt
namespace Go.Proofs.YtdbfmmjncoffnaaDoor
open Ks Go.RowKit

theorem far1 (a b : BitVec 32) (x y : Nat) : join (join a 0#32 x) b y = join a b (x + y) := by
  unfold join; rw [BitVec.xor_zero, ← Xn_add]; congr 2; omega
theorem far2 (a b : BitVec 32) (x y : Nat) : join (join a 0#32 y) b x = join a b (x + y) := by
  rw [far1, Nat.add_comm]
theorem far3 (a b : BitVec 32) (x : Nat) : join a 0#32 x ^^^ b = join a b x := by
  unfold join; rw [BitVec.xor_zero]

/-- Join's contract, its answer under a name -/
theorem join_at (a b : BitVec 32) (n : Int) (w : World) (v : BitVec 32) (h0 : 0 ≤ n) (h1 : n ≤ 1099511627776) (hv : join a b n.toNat = v) :
    Calls Tryd.prog 14 #[.int .u32 (U a), .int .u32 (U b), .int .i64 n] w fun e w' => e = .returned (.int .u32 (U v)) ∧ Below w.heap.size w w' := by
  subst hv; exact join_any a b n w h0 h1
theorem join0_at (a : BitVec 32) (n : Int) (w : World) (v : BitVec 32) (h0 : 0 ≤ n) (h1 : n ≤ 1099511627776) (hv : join a 0#32 n.toNat = v) :
    Calls Tryd.prog 14 #[.int .u32 (U a), .int .u32 0, .int .i64 n] w fun e w' => e = .returned (.int .u32 (U v)) ∧ Below w.heap.size w w' :=
  join_at a 0#32 n w v h0 h1 hv
theorem below_on {w w1 w2 : World} (h : Below w.heap.size w w1) (h2 : Below w1.heap.size w1 w2) : Below w.heap.size w w2 := h.trans (h2.mono h.size)

theorem crcFar_walk (a : Int) (wa : (Lit.int .u32 a).wf = true) (b : Int) (wb : (Lit.int .u32 b).wf = true) (n : Int) (wn : (Lit.int .u64 n).wf = true) (m : Int) (wm : (Lit.int .u64 m).wf = true) (w : World) (hT : Tab w) :
    Calls Tryd.prog 6 #[.int .u32 a, .int .u32 b, .int .u64 n, .int .u64 m] w fun e w' => e = .returned (.bool true) ∧ Below w.heap.size w w' := by
  have ha : 0 ≤ a ∧ a ≤ 4294967295 := by simpa [Lit.wf, IntKind.min, IntKind.max, IntKind.signed, IntKind.bits] using wa
  have hb : 0 ≤ b ∧ b ≤ 4294967295 := by simpa [Lit.wf, IntKind.min, IntKind.max, IntKind.signed, IntKind.bits] using wb
  have hn : 0 ≤ n := by have : 0 ≤ n ∧ n ≤ 18446744073709551615 := by simpa [Lit.wf, IntKind.min, IntKind.max, IntKind.signed, IntKind.bits] using wn
                        omega
  have hm : 0 ≤ m := by have : 0 ≤ m ∧ m ≤ 18446744073709551615 := by simpa [Lit.wf, IntKind.min, IntKind.max, IntKind.signed, IntKind.bits] using wm
                        omega
  obtain ⟨A, rfl⟩ : ∃ A, a = U A := ⟨Bv a, (U_Bv a ha.1 (by omega)).symm⟩
  obtain ⟨B, rfl⟩ : ∃ B, b = U B := ⟨Bv b, (U_Bv b hb.1 (by omega)).symm⟩
  have HT := Lib.hid hT
  clear hT wa wb wn wm ha hb
  go_enter Tryd.func6, Tryd.ntmps6
  go_wp2_with fail
  refine (awake_any _ HT.out).mono ?_
  rintro e w1 ⟨rfl, hw1⟩
  have HW1 := Lib.hid hw1
  clear hw1
  go_wp2_with fail
  obtain ⟨x, hx, hx0, hx1⟩ : ∃ x, n % 549755813889 = x ∧ 0 ≤ x ∧ x ≤ 549755813888 := ⟨_, rfl, by omega, by omega⟩
  obtain ⟨y, hy, hy0, hy1⟩ : ∃ y, m % 549755813889 = y ∧ 0 ≤ y ∧ y ≤ 549755813888 := ⟨_, rfl, by omega, by omega⟩
  rw [hx, hy]
  have Hx := Lib.hid hx
  have Hy := Lib.hid hy
  clear hx hy
  obtain ⟨O, hO⟩ : ∃ O, join A B (x + y).toNat = O := ⟨_, rfl⟩
  obtain ⟨J1, hJ1⟩ : ∃ O, join A 0#32 x.toNat = O := ⟨_, rfl⟩
  obtain ⟨J2, hJ2⟩ : ∃ O, join A 0#32 y.toNat = O := ⟨_, rfl⟩
  obtain ⟨J3, hJ3⟩ : ∃ O, join A B x.toNat = O := ⟨_, rfl⟩
  have H1 := Lib.hid (show join J1 B y.toNat = O by rw [← hJ1, far1, ← hO]; congr 1; omega)
  have H2 := Lib.hid (show join J2 B x.toNat = O by rw [← hJ2, far2, ← hO]; congr 1; omega)
  have H3 := Lib.hid (show bits .xor .u32 (U J1) (U B) = U J3 by rw [xor_U, ← hJ1, ← hJ3, far3])
  have HO := Lib.hid hO
  have HJ1 := Lib.hid hJ1
  have HJ2 := Lib.hid hJ2
  have HJ3 := Lib.hid hJ3
  clear hO hJ1 hJ2 hJ3
  refine (join_at A B (x + y) _ O (by omega) (by omega) HO.out).mono ?_
  rintro e w2 ⟨rfl, hw2⟩
  have HW2 := Lib.hid (below_on HW1.out hw2)
  clear hw2 HW1
  go_wp2_with fail
  refine (join0_at A x _ J1 (by omega) (by omega) HJ1.out).mono ?_
  rintro e w3 ⟨rfl, hw3⟩
  have HW3 := Lib.hid (below_on HW2.out hw3)
  clear hw3 HW2
  go_wp2_with fail
  refine (join_at J1 B y _ O (by omega) (by omega) H1.out).mono ?_
  rintro e w4 ⟨rfl, hw4⟩
  have HW4 := Lib.hid (below_on HW3.out hw4)
  clear hw4 HW3
  go_wp2_with fail
  refine (join0_at A y _ J2 (by omega) (by omega) HJ2.out).mono ?_
  rintro e w5 ⟨rfl, hw5⟩
  have HW5 := Lib.hid (below_on HW4.out hw5)
  clear hw5 HW4
  go_wp2_with fail
  refine (join_at J2 B x _ O (by omega) (by omega) H2.out).mono ?_
  rintro e w6 ⟨rfl, hw6⟩
  have HW6 := Lib.hid (below_on HW5.out hw6)
  clear hw6 HW5
  go_wp2_with fail
  refine (join_at A B x _ J3 (by omega) (by omega) HJ3.out).mono ?_
  rintro e w7 ⟨rfl, hw7⟩
  have HW7 := Lib.hid (below_on HW6.out hw7)
  clear hw7 HW6
  go_wp2_with fail
  refine (join0_at A x _ J1 (by omega) (by omega) HJ1.out).mono ?_
  rintro e w8 ⟨rfl, hw8⟩
  have HW8 := Lib.hid (below_on HW7.out hw8)
  clear hw8 HW7
  go_wp2_with fail
  go_ret
  exact ⟨ret_bool (by rw [H3.out]; exact beq_self_eq_true _), HW8.out⟩
end Go.Proofs.YtdbfmmjncoffnaaDoor
