/-
  WHAT THE LAWS SAY OF THE VALUES; THE WALK OF awake.
-/
import Derived.Test.YtpcfakdddfgkgaaATurn
namespace Go.Proofs.Ytpcfakdddfgkgaa
open Go.RowKit
set_option maxRecDepth 20000

theorem byteN {a : Int} (h : (Lit.int .u8 a).wf = true) : ∃ n : Nat, a = n ∧ n < 256 := by
  have h2 : 0 ≤ a ∧ a ≤ 255 := by simpa [Lit.wf, IntKind.min, IntKind.max, IntKind.signed, IntKind.bits] using h
  exact ⟨a.toNat, by omega, by omega⟩
theorem awake_any (w : World) : Calls Try.prog 11 #[] w fun e w' => e = .returned (.bool true) ∧ Below w.heap.size w w' := by
  have HA := Lib.hid (adc_any w 88 70 8 4 201 (by decide) (by decide) (by decide) (by decide))
  have e1 : bits .and .u8 201 1 = 1 := by decide
  have e2 : bits .and .u8 ((201 : Nat) : Int) 1 = 1 := by decide
  go_enter Try.func11, Try.ntmps11
  go_wp2_with fail
  refine (HA.out).mono ?_
  rintro e w' ⟨rfl, hw⟩
  go_wp2_with fail
  go_ret
  exact ⟨rfl, hw⟩
end Go.Proofs.Ytpcfakdddfgkgaa
