/-
  THE WALK OF AluAdds.
-/
import Derived.Test.YtpcfakdddfgkgaaALaw
import Derived.Test.YtpcfakdddfgkgaaARefSub
namespace Go.Proofs.Ytpcfakdddfgkgaa
open Go.RowKit
set_option maxRecDepth 20000

set_option maxHeartbeats 4000000 in
theorem aluAdds_walk (a0 : Int) (wa : (Lit.int .u8 a0).wf = true) (m0 : Int) (wm : (Lit.int .u8 m0).wf = true) (p0 : Int) (wp : (Lit.int .u8 p0).wf = true) (w : World) :
    Calls Try.prog 3 #[.int .u8 a0, .int .u8 m0, .int .u8 p0] w fun e w' => e = .returned (.bool true) ∧ Below w.heap.size w w' := by
  obtain ⟨a, rfl, ha⟩ := byteN wa
  obtain ⟨m, rfl, hm⟩ := byteN wm
  obtain ⟨p, rfl, hp⟩ := byteN wp
  obtain ⟨⟨x, f⟩, hx⟩ : ∃ r, adc a m p = r := ⟨_, rfl⟩
  have HX := Lib.hid hx
  obtain ⟨⟨u, h⟩, hu⟩ : ∃ r, sbc a m p = r := ⟨_, rfl⟩
  have HU := Lib.hid hu
  clear hx hu
  have HA := Lib.hid (awake_any w)
  go_enter Try.func3, Try.ntmps3
  go_wp2_with fail
  refine (HA.out).mono ?_
  rintro e w1 ⟨rfl, hw⟩
  have HW := Lib.hid hw
  clear hw
  go_wp2_with fail
  refine (adc_any _ a m p x f ha hm hp HX.out).mono ?_
  rintro e w2 ⟨rfl, hw⟩
  replace HW := Lib.hid (HW.out.trans (hw.mono HW.out.size))
  clear hw
  go_wp2_with fail
  refine (refAdc_any _ a m p x f ha hm hp HX.out).mono ?_
  rintro e w' ⟨rfl, rfl⟩
  go_wp2_with fail
  refine (sbc_any _ a m p u h ha hm hp HU.out).mono ?_
  rintro e w3 ⟨rfl, hw⟩
  replace HW := Lib.hid (HW.out.trans (hw.mono HW.out.size))
  clear hw
  go_wp2_with fail
  refine (refSbc_any _ a m p u h ha hm hp HU.out).mono ?_
  rintro e w' ⟨rfl, rfl⟩
  go_wp2_with fail
  go_ret
  exact ⟨rfl, HW.out⟩
end Go.Proofs.Ytpcfakdddfgkgaa
