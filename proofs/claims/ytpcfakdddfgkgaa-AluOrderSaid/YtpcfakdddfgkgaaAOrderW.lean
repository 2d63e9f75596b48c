/-
  THE WALK OF AluOrder.
-/
import Derived.Test.YtpcfakdddfgkgaaALets
namespace Go.Proofs.Ytpcfakdddfgkgaa
open Go.RowKit
set_option maxRecDepth 20000

set_option maxHeartbeats 4000000 in
theorem aluOrder_walk (a0 : Int) (wa : (Lit.int .u8 a0).wf = true) (m0 : Int) (wm : (Lit.int .u8 m0).wf = true) (p0 : Int) (wp : (Lit.int .u8 p0).wf = true) (w : World) :
    Calls Try.prog 9 #[.int .u8 a0, .int .u8 m0, .int .u8 p0] w fun e w' => e = .returned (.bool true) ∧ Below w.heap.size w w' := by
  obtain ⟨a, rfl, ha⟩ := byteN wa
  obtain ⟨m, rfl, hm⟩ := byteN wm
  obtain ⟨p, rfl, hp⟩ := byteN wp
  obtain ⟨f, fc, fz, q0, q, u, g, k, k2, xx, C, Z, hf, hq, hc, hs, hx, e1, e2, e3, e4, e5, e6, e7, e8, e9, m1, m2, m3, m4, m5, b1, b2, b3, b4⟩ := order_lets a m p ha hm hp
  have HC := Lib.hid hc
  have HS := Lib.hid hs
  have HX := Lib.hid hx
  clear hc hs hx
  have HA := Lib.hid (awake_any w)
  go_enter Try.func9, Try.ntmps9
  go_wp2_with fail
  refine (HA.out).mono ?_
  rintro e w1 ⟨rfl, hw⟩
  have HW := Lib.hid hw
  clear hw
  go_wp2_with fail
  refine (cmp_let _ a m p f ha hm hp HC.out).mono ?_
  rintro e w' ⟨rfl, rfl⟩
  go_wp2_with fail
  refine (sbc_any _ a m q u g ha hm hq HS.out).mono ?_
  rintro e w2 ⟨rfl, hw⟩
  replace HW := Lib.hid (HW.out.trans (hw.mono HW.out.size))
  clear hw
  go_wp2_with fail
  refine (sbx_let _ a m p xx f ha hm hp HX.out HC.out).mono ?_
  rintro e w' ⟨rfl, rfl⟩
  go_wp2_with fail
  go_ret
  exact ⟨rfl, HW.out⟩
end Go.Proofs.Ytpcfakdddfgkgaa
