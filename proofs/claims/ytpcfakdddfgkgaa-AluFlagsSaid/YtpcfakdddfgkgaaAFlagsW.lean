/-
  THE WALK OF AluFlags.
-/
import Derived.Test.YtpcfakdddfgkgaaALets
namespace Go.Proofs.Ytpcfakdddfgkgaa
open Go.RowKit
set_option maxRecDepth 20000

set_option maxHeartbeats 4000000 in
theorem aluFlags_walk (a0 : Int) (wa : (Lit.int .u8 a0).wf = true) (m0 : Int) (wm : (Lit.int .u8 m0).wf = true) (p0 : Int) (wp : (Lit.int .u8 p0).wf = true) (w : World) :
    Calls Try.prog 10 #[.int .u8 a0, .int .u8 m0, .int .u8 p0] w fun e w' => e = .returned (.bool true) ∧ Below w.heap.size w w' := by
  obtain ⟨a, rfl, ha⟩ := byteN wa
  obtain ⟨m, rfl, hm⟩ := byteN wm
  obtain ⟨p, rfl, hp⟩ := byteN wp
  obtain ⟨x1, b, x2, c, x3, d, v4, e, v5, f, g, h, bx, cx, dx, ex, fx, gx, hx, o1, o2, o3, o4, o5, o6, h1, h2, h3, h4, h5, h6, h7, h8, h9, e1, e2, e3, e4, e5, e6, e7, r1, r2, r3, r4, r5, r6, z1, z2, z3, z4⟩ := flags_lets a m p ha hm hp
  have H1 := Lib.hid h1
  have H2 := Lib.hid h2
  have H3 := Lib.hid h3
  have H4 := Lib.hid h4
  have H5 := Lib.hid h5
  have H6 := Lib.hid h6
  have H7 := Lib.hid h7
  have H8 := Lib.hid h8
  have H9 := Lib.hid h9
  clear h1 h2 h3 h4 h5 h6 h7 h8 h9
  have HA := Lib.hid (awake_any w)
  go_enter Try.func10, Try.ntmps10
  go_wp2_with fail
  refine (HA.out).mono ?_
  rintro e w1 ⟨rfl, hw⟩
  have HW := Lib.hid hw
  clear hw
  go_wp2_with fail
  refine (adc_any _ a m p x1 b ha hm hp H1.out).mono ?_
  rintro e w2 ⟨rfl, hw⟩
  replace HW := Lib.hid (HW.out.trans (hw.mono HW.out.size))
  clear hw
  go_wp2_with fail
  refine (sbc_any _ a m p x2 c ha hm hp H2.out).mono ?_
  rintro e w3 ⟨rfl, hw⟩
  replace HW := Lib.hid (HW.out.trans (hw.mono HW.out.size))
  clear hw
  go_wp2_with fail
  refine (arr_any _ a m p x3 d ha hm hp H3.out).mono ?_
  rintro e w4 ⟨rfl, hw⟩
  replace HW := Lib.hid (HW.out.trans (hw.mono HW.out.size))
  clear hw
  go_wp2_with fail
  refine (sbx_let _ a m p v4 e ha hm hp H4.out H5.out).mono ?_
  rintro e w' ⟨rfl, rfl⟩
  go_wp2_with fail
  refine (ror_let _ m p v5 f hm hp H6.out H7.out).mono ?_
  rintro e w' ⟨rfl, rfl⟩
  go_wp2_with fail
  refine (bit_let _ a m p g ha hm hp H8.out).mono ?_
  rintro e w' ⟨rfl, rfl⟩
  go_wp2_with fail
  refine (nz_let _ p a h hp ha H9.out).mono ?_
  rintro e w' ⟨rfl, rfl⟩
  go_wp2_with fail
  go_ret
  exact ⟨rfl, HW.out⟩
end Go.Proofs.Ytpcfakdddfgkgaa
