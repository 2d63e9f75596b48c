/-
  THE WALK OF AluBack.
-/
import Derived.Test.YtpcfakdddfgkgaaALets2
namespace Go.Proofs.Ytpcfakdddfgkgaa
open Go.RowKit
set_option maxRecDepth 20000

set_option maxRecDepth 100000 in
set_option maxHeartbeats 4000000 in
theorem aluBack_walk (m0 : Int) (wm : (Lit.int .u8 m0).wf = true) (p0 : Int) (wp : (Lit.int .u8 p0).wf = true) (w : World) :
    Calls Try.prog 8 #[.int .u8 m0, .int .u8 p0] w fun e w' => e = .returned (.bool true) ∧ Below w.heap.size w w' := by
  obtain ⟨m, rfl, hm⟩ := byteN wm
  obtain ⟨p, rfl, hp⟩ := byteN wp
  obtain ⟨a1, f, g, c1, h, d, d2, gc, k, f1, p1, h1, h2, h3, h4, h5, h6, h7, h8, e1, e2, e3, e4, e5, e6, e7, l1, l2, l3, l4, l5, hgc⟩ := back_lets m p hm hp
  have H1 := Lib.hid h1
  have H2 := Lib.hid h2
  have H3 := Lib.hid h3
  have H4 := Lib.hid h4
  have H5 := Lib.hid h5
  have H6 := Lib.hid h6
  have H7 := Lib.hid h7
  have H8 := Lib.hid h8
  have HE := Lib.hid (And.intro e1 (And.intro e2 (And.intro e3 (And.intro e4 (And.intro e5 (And.intro e6 e7))))))
  have HG := Lib.hid hgc
  clear h1 h2 h3 h4 h5 h6 h7 h8 e1 e2 e3 e4 e5 e6 e7 hgc
  have HA := Lib.hid (awake_any w)
  go_enter Try.func8, Try.ntmps8
  go_wp2_with fail
  refine (HA.out).mono ?_
  rintro e w1 ⟨rfl, hw⟩
  have HW := Lib.hid hw
  clear hw
  go_wp2_with fail
  refine (rol_let _ m p a1 f hm hp H1.out H2.out).mono ?_
  rintro e w' ⟨rfl, rfl⟩
  go_wp2_with fail
  refine (ror_let _ a1 f m g l1 l2 H3.out H4.out).mono ?_
  rintro e w' ⟨rfl, rfl⟩
  go_wp2_with fail
  refine (asl_let _ m p c1 h hm hp H5.out H6.out).mono ?_
  rintro e w' ⟨rfl, rfl⟩
  go_wp2_with fail
  refine (lsr_let _ c1 h d d2 l3 l4 H7.out H8.out).mono ?_
  rintro e w' ⟨rfl, rfl⟩
  go_wp2_with fail
  go_loop [14, 15, 16] (fun x q i => ∃ (j X Q : Nat), j ≤ 9 ∧ i = .int .i64 j ∧ x = .int .u8 X ∧ q = .int .u8 Q ∧ X < 256 ∧ Q < 256 ∧ X + 256 * (Q % 2) = r9n j (m + 256 * (p % 2))) (fun _ _ i => 9 - (intOf i).toNat)
  case atStart => exact ⟨0, m, p, Nat.zero_le _, rfl, rfl, rfl, hm, hp, rfl⟩
  case round =>
    obtain ⟨j, X, Q, hj, rfl, rfl, rfl, hX, hQ, hI⟩ := hrel
    have HI := Lib.hid hI
    clear hI
    by_cases hlt : j < 9
    · obtain ⟨X2, hX2⟩ : ∃ v, upV X (Q % 2) = v := ⟨_, rfl⟩
      obtain ⟨Q2, hQ2⟩ : ∃ v, upP X (Q % 2) Q = v := ⟨_, rfl⟩
      have HI2 := Lib.hid (show X2 + 256 * (Q2 % 2) = r9n (j + 1) (m + 256 * (p % 2)) by
        rw [r9n, ← HI.out, ← r9_rol X Q hX hQ, hX2, hQ2])
      have lX2 : X2 < 256 := hX2 ▸ upV_lt (by omega)
      have lQ2 : Q2 < 256 := hQ2 ▸ upP_lt hQ _ _
      have HX2 := Lib.hid hX2
      have HQ2 := Lib.hid hQ2
      clear hX2 hQ2
      go_wp2_with fail
      refine (rol_let _ X Q X2 Q2 hX hQ HX2.out HQ2.out).mono ?_
      rintro e w' ⟨rfl, rfl⟩
      go_wp2_with fail
      go_round
      case rel => exact ⟨j + 1, X2, Q2, by omega, by go_num, rfl, rfl, lX2, lQ2, HI2.out⟩
      case measure => simp [intOf]; omega
    · obtain rfl : j = 9 := by omega
      have hn := HI.out
      rw [r9n_nine _ (by omega)] at hn
      obtain rfl : X = m := by omega
      have e8 := mask1 Q hQ
      rw [show Q % 2 = p % 2 by omega, HG.out] at e8
      obtain ⟨e1, e2, e3, e4, e5, e6, e7⟩ := HE.out
      clear hn
      go_wp2_with fail
      go_ret
      exact ⟨rfl, HW.out⟩
end Go.Proofs.Ytpcfakdddfgkgaa
