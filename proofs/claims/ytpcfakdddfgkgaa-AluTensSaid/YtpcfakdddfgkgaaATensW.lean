/-
  THE WALK OF AluTens.
-/
import Derived.Test.YtpcfakdddfgkgaaALets2
namespace Go.Proofs.Ytpcfakdddfgkgaa
open Go.RowKit
set_option maxRecDepth 20000

set_option maxHeartbeats 4000000 in
theorem aluTens_walk (a0 : Int) (wa : (Lit.int .u8 a0).wf = true) (m0 : Int) (wm : (Lit.int .u8 m0).wf = true) (p0 : Int) (wp : (Lit.int .u8 p0).wf = true) (w : World) :
    Calls Try.prog 7 #[.int .u8 a0, .int .u8 m0, .int .u8 p0] w fun e w' => e = .returned (.bool true) ∧ Below w.heap.size w w' := by
  obtain ⟨a, rfl, ha⟩ := byteN wa
  obtain ⟨m, rfl, hm⟩ := byteN wm
  obtain ⟨p, rfl, hp⟩ := byteN wp
  obtain ⟨x, x1, x2, x3, u, y, y1, y2, y3, v, q, c, s, f, d, g, K, sm, t1, t2, t3, t4, fc, M, d1, d2, d3, E, E1, L, hu, hv, hq, hA, hS, f1, f2, f3, f4, f5, f6, f7, f8, f9, f10, f11, f12, f13, f14, f15, f16, f17, f18, f19, f20, f21, f22, f23, f24, f25, f26, hneg, hpos, f27, f28, f29, f30, f31, f32, l1, l2, l3, l4, l5, l6, l7, l8, l9, l10, l11, l12, l13, l14, l15, l16, l17⟩ := tens_lets a m p ha hm hp
  have HA1 := Lib.hid hA
  have HS1 := Lib.hid hS
  have HN := Lib.hid (And.intro hneg hpos)
  clear hA hS hneg hpos
  have f1' : ((a : Nat) : Int).tmod 100 = (x : Int) := by rw [Int.tmod_eq_emod_of_nonneg (by omega)]; exact f1
  have f2' : ((m : Nat) : Int).tmod 100 = (y : Int) := by rw [Int.tmod_eq_emod_of_nonneg (by omega)]; exact f2
  have P1 := Lib.hid (And.intro f20 (And.intro f21 (And.intro f22 (And.intro f23 (And.intro f24 (And.intro f25 (And.intro f26 (And.intro f27 (And.intro f28 (And.intro f29 (And.intro f30 (And.intro f31 f32))))))))))))
  have P2 := Lib.hid (And.intro l8 (And.intro l9 (And.intro l10 (And.intro l11 (And.intro l12 (And.intro l13 (And.intro l14 (And.intro l15 (And.intro l16 l17)))))))))
  clear f20 f21 f22 f23 f24 f25 f26 f27 f28 f29 f30 f31 f32 l8 l9 l10 l11 l12 l13 l14 l15 l16 l17
  have HA := Lib.hid (awake_any w)
  go_enter Try.func7, Try.ntmps7
  go_wp2_with fail
  refine (HA.out).mono ?_
  rintro e w1 ⟨rfl, hw⟩
  have HW := Lib.hid hw
  clear hw
  go_wp2_with fail
  refine (adc_any _ u v q s f hu hv hq HA1.out).mono ?_
  rintro e w4 ⟨rfl, hw⟩
  replace HW := Lib.hid (HW.out.trans (hw.mono HW.out.size))
  clear hw
  go_wp2_with fail
  refine (sbc_any _ u v q d g hu hv hq HS1.out).mono ?_
  rintro e w5 ⟨rfl, hw⟩
  replace HW := Lib.hid (HW.out.trans (hw.mono HW.out.size))
  clear hw
  clear f1 f2 f1' f2' f3 f4 f5 f6 f7 f8 f9 f10 f11 f12 f13 l3 l4 l5 l6
  obtain ⟨f20, f21, f22, f23, f24, f25, f26, f27, f28, f29, f30, f31, f32⟩ := P1.out
  obtain ⟨l8, l9, l10, l11, l12, l13, l14, l15, l16, l17⟩ := P2.out
  by_cases hL : L < 0
  · obtain ⟨n1, n2⟩ := HN.out.1 (by omega)
    have g1 : decide (L < 0) = true := by rw [decide_eq_true_eq]; exact hL
    go_wp2_with fail
    go_ret
    exact ⟨rfl, HW.out⟩
  · obtain ⟨hLM, n2⟩ := HN.out.2 (by omega)
    clear HN
    subst hLM
    have g1 : decide ((M : Int) < 0) = false := by rw [decide_eq_false_iff_not]; omega
    go_wp2_with fail
    go_ret
    exact ⟨rfl, HW.out⟩
end Go.Proofs.Ytpcfakdddfgkgaa
