/-
  THE WALK OF AluCarries.
-/
import Derived.Test.YtpcfakdddfgkgaaALets
namespace Go.Proofs.Ytpcfakdddfgkgaa
open Go.RowKit
set_option maxRecDepth 20000

set_option maxHeartbeats 4000000 in
theorem aluCarries_walk (a0 : Int) (wa : (Lit.int .u8 a0).wf = true) (m0 : Int) (wm : (Lit.int .u8 m0).wf = true) (p0 : Int) (wp : (Lit.int .u8 p0).wf = true) (w : World) :
    Calls Try.prog 6 #[.int .u8 a0, .int .u8 m0, .int .u8 p0] w fun e w' => e = .returned (.bool true) ∧ Below w.heap.size w w' := by
  obtain ⟨a, rfl, ha⟩ := byteN wa
  obtain ⟨m, rfl, hm⟩ := byteN wm
  obtain ⟨p, rfl, hp⟩ := byteN wp
  obtain ⟨q, c, x, f, y, g, k, S, K, F6, fc, gc, B, B6, D, E, C1, hq, hx, hy, e1, e2, e3, e4, w1', w2, w3, w4, n1, n2, n3, n4, n5, n6, k1, k2, k3, b1, b2, b3, b4, b5⟩ := carries_lets a m p ha hm hp
  have HX := Lib.hid hx
  have HY := Lib.hid hy
  clear hx hy
  have HA := Lib.hid (awake_any w)
  go_enter Try.func6, Try.ntmps6
  go_wp2_with fail
  refine (HA.out).mono ?_
  rintro e w1 ⟨rfl, hw⟩
  have HW := Lib.hid hw
  clear hw
  go_wp2_with fail
  refine (adc_any _ a m q x f ha hm hq HX.out).mono ?_
  rintro e w2 ⟨rfl, hw⟩
  replace HW := Lib.hid (HW.out.trans (hw.mono HW.out.size))
  clear hw
  go_wp2_with fail
  refine (sbc_any _ a m q y g ha hm hq HY.out).mono ?_
  rintro e w3 ⟨rfl, hw⟩
  replace HW := Lib.hid (HW.out.trans (hw.mono HW.out.size))
  clear hw
  go_wp2_with fail
  go_ret
  exact ⟨rfl, HW.out⟩
end Go.Proofs.Ytpcfakdddfgkgaa
