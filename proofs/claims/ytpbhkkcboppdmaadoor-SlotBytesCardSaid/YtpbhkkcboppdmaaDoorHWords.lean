/-
  HOW THE WALK SPELLS 32-BIT NUMBERS: a value of kind u32 as 'U x', x of 32 bits.
-/
import Derived.Test.YtpbhkkcboppdmaaDoorHMath
import Derived.Laws.BitsAllLaws
import GoSem.Claim
namespace Ks
open Go
/-- the integer of 32 bits -/
def U (x : BitVec 32) : Int := (x.toNat : Int)
theorem U_ge (x : BitVec 32) : 0 ≤ U x := by unfold U; omega
theorem U_lt (x : BitVec 32) : U x < 4294967296 := by unfold U; have := x.isLt; omega
theorem U_wf (x : BitVec 32) : (Lit.int .u32 (U x)).wf = true := by
  have h1 := U_ge x
  have h2 := U_lt x
  simp [Lit.wf, IntKind.min, IntKind.max, IntKind.signed, IntKind.bits]; omega
/-- the 32 bits of an integer -/
def Bv (n : Int) : BitVec 32 := BitVec.ofInt 32 n
theorem Bv_U (x : BitVec 32) : Bv (U x) = x := by
  unfold Bv U; rw [BitVec.ofInt_natCast, BitVec.ofNat_toNat]; simp
theorem U_Bv (n : Int) (h0 : 0 ≤ n) (h1 : n < 4294967296) : U (Bv n) = n := by
  obtain ⟨k, rfl⟩ := Int.eq_ofNat_of_zero_le h0
  unfold U Bv
  rw [ofInt_u32 k (by omega)]
theorem U_inj {x y : BitVec 32} (h : U x = U y) : x = y := by rw [← Bv_U x, h, Bv_U]
theorem U_beq (x y : BitVec 32) : (U x == U y) = (x == y) := by
  rw [Bool.eq_iff_iff]; simp only [beq_iff_eq]; exact ⟨U_inj, fun h => by rw [h]⟩
theorem xor_any (x : BitVec 32) (n : Int) : bits .xor .u32 (U x) n = U (x ^^^ Bv n) := by
  show IntKind.u32.wrap ((BitVec.ofInt 32 (U x) ^^^ BitVec.ofInt 32 n).toNat : Int) = _
  have e : BitVec.ofInt 32 (U x) = x := Bv_U x
  rw [e, IntKind.wrap_u32']
  unfold U Bv
  have := (x ^^^ BitVec.ofInt 32 n).isLt
  omega
theorem xor_U (x y : BitVec 32) : bits .xor .u32 (U x) (U y) = U (x ^^^ y) := by rw [xor_any, Bv_U]
theorem xor_D (x : BitVec 32) : bits .xor .u32 (U x) 3988292384 = U (x ^^^ D) := by rw [xor_any]; rfl
theorem not_U (x : BitVec 32) : bits .xor .u32 IntKind.u32.max (U x) = U (~~~ x) := by
  show IntKind.u32.wrap ((BitVec.ofInt 32 IntKind.u32.max ^^^ BitVec.ofInt 32 (U x)).toNat : Int) = _
  have e : BitVec.ofInt 32 (U x) = x := Bv_U x
  have e2 : BitVec.ofInt 32 IntKind.u32.max = ~~~ 0#32 := by decide
  rw [e, e2, BitVec.xor_comm, ← not_eq, IntKind.wrap_u32']
  unfold U
  have := (~~~ x).isLt
  omega
theorem and_15 (x : BitVec 32) : bits .and .u32 (U x) 15 = ((x.toNat % 16 : Nat) : Int) := by
  unfold U; rw [show (15 : Int) = ((15 : Nat) : Int) from rfl, u32_and_nat _ _ x.isLt (by decide), nat_mask4]
theorem and_1 (x : BitVec 32) : bits .and .u32 (U x) 1 = ((x.toNat % 2 : Nat) : Int) := by
  unfold U; rw [show (1 : Int) = ((1 : Nat) : Int) from rfl, u32_and_nat _ _ x.isLt (by decide), nat_mask1]
theorem bit0 (x : BitVec 32) : (bits .and .u32 (U x) 1 == 1) = x.getLsbD 0 := by
  rw [and_1]
  have h : x.getLsbD 0 = decide (x.toNat % 2 = 1) := by
    rw [BitVec.getLsbD, Nat.testBit_zero]
  rw [h, Bool.eq_iff_iff]; simp only [beq_iff_eq, decide_eq_true_eq]; omega
theorem shr_U (x : BitVec 32) (n : Nat) : U x / 2 ^ n = U (x >>> n) := by
  unfold U
  rw [BitVec.toNat_ushiftRight, Nat.shiftRight_eq_div_pow]
  simp
theorem shr1 (x : BitVec 32) : U x / (2 : Int) = U (x >>> 1) := by rw [← shr_U]; rfl
theorem shr4 (x : BitVec 32) : U x / (16 : Int) = U (x >>> 4) := by rw [← shr_U]; rfl
end Ks
