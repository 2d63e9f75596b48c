/-
  THE WALKS OF keepsakeref13's Adc, Sbc.
-/
import Derived.Test.YtpcfakdddfgkgaaARef
namespace Go.Proofs.Ytpcfakdddfgkgaa
open Go.RowKit
set_option maxRecDepth 20000

theorem fin_lt {mid : Nat} (h : mid < 600) : fin mid < 1000 := by unfold fin; split <;> omega
theorem midA_lt {a m c : Nat} (ha : a < 256) (hm : m < 256) (hc : c < 2) : midA a m c < 600 := by unfold midA lowA; split <;> omega
theorem refdec (a m c mid : Nat) (ha : a < 256) (hm : m < 256) (hc : c < 2) (hmid : midA a m c = mid) : ∃ x0 y0 K0 L l x1 u1 u2 : Nat,
    ((a : Nat) : Int).tmod 16 = (x0 : Int) ∧ ((m : Nat) : Int).tmod 16 = (y0 : Int) ∧ IntKind.i64.wrap ((x0 : Int) + (y0 : Int)) = (K0 : Int) ∧ IntKind.i64.wrap ((K0 : Int) + (c : Int)) = (L : Int)
    ∧ IntKind.i64.wrap ((a : Int) - (x0 : Int)) = (x1 : Int) ∧ IntKind.i64.wrap ((x1 : Int) + (m : Int)) = (u1 : Int) ∧ IntKind.i64.wrap ((u1 : Int) - (y0 : Int)) = (u2 : Int) ∧ IntKind.i64.wrap ((u2 : Int) + (l : Int)) = (mid : Int)
    ∧ (l = if 10 ≤ L then (L + 6) % 16 + 16 else L) ∧ x0 < 16 ∧ y0 < 16 ∧ L < 64 ∧ l < 64 := by
  have hl : lowA a m c < 64 := by unfold lowA; split <;> omega
  have hm1 := midA_lt ha hm hc
  rw [hmid] at hm1
  refine ⟨a % 16, m % 16, a % 16 + m % 16, a % 16 + m % 16 + c, lowA a m c, a - a % 16, a - a % 16 + m, a - a % 16 + m - m % 16, rfl, rfl, sums' _ _ _ (by omega) rfl, sums' _ _ _ (by omega) rfl, ?_, sums' _ _ _ (by omega) rfl, ?_, sums' _ _ _ (by omega) ?_, ?_, by omega, by omega, by omega, hl⟩
  · rw [IntWalk.i64_in _ (by omega)]; omega
  · rw [IntWalk.i64_in _ (by omega)]; omega
  · rw [← hmid, midA]; omega
  · rfl
set_option maxHeartbeats 4000000 in
theorem refAdc_any (w : World) (a m p x y : Nat) (ha : a < 256) (hm : m < 256) (hp : p < 256) (hR : adc a m p = (x, y)) :
    Calls Try.prog 13 #[.int .u8 a, .int .u8 m, .int .u8 p] w fun e w' => e = .returned (.tuple #[.int .u8 x, .int .u8 y]) ∧ w = w' := by
  obtain ⟨c, hc⟩ : ∃ c, p % 2 = c := ⟨_, rfl⟩
  have hc2 : c < 2 := by omega
  have HO := Lib.hid (refOne_any w p 1 hp (by omega) (by omega))
  rw [Nat.div_one, hc] at HO
  obtain ⟨d, hd⟩ : ∃ d, dec p = d := ⟨_, rfl⟩
  have HD := Lib.hid (refHas_any w p 8 d hp (by omega) (by omega) (by rw [← hd]; rfl))
  obtain ⟨K, hK⟩ : ∃ t, a + m = t := ⟨_, rfl⟩
  obtain ⟨s, hs⟩ : ∃ t, K + c = t := ⟨_, rfl⟩
  obtain ⟨z, hz⟩ : ∃ t, s % 256 = t := ⟨_, rfl⟩
  obtain ⟨Z, hZ⟩ : ∃ t, ((z : Int) == 0) = t := ⟨_, rfl⟩
  have hZ2 : decide (z = 0) = Z := by rw [← hZ, Bool.eq_iff_iff]; simp
  obtain ⟨xh, hxh⟩ : ∃ t, a / 128 = t := ⟨_, rfl⟩
  obtain ⟨yh, hyh⟩ : ∃ t, m / 128 = t := ⟨_, rfl⟩
  obtain ⟨A, hA⟩ : ∃ t, ((xh : Int) == (yh : Int)) = t := ⟨_, rfl⟩
  have hA2 : decide (xh = yh) = A := by rw [← hA, Bool.eq_iff_iff]; simp; omega
  have hxh1 : xh < 2 := by omega
  have hyh1 : yh < 2 := by omega
  have E1 := sums' a m K (by omega) hK
  have E2 := sums' K c s (by omega) hs
  have hs1 : s < 600 := by omega
  have hz1 : z < 256 := by omega
  have R_z : ((s : Nat) : Int).tmod 256 = (z : Int) := by rw [Int.tmod_eq_emod_of_nonneg (by omega)]; omega
  have Q_xh : ((a : Nat) : Int).tdiv 128 = (xh : Int) := by rw [Int.tdiv_eq_ediv_of_nonneg (by omega)]; omega
  have Q_yh : ((m : Nat) : Int).tdiv 128 = (yh : Int) := by rw [Int.tdiv_eq_ediv_of_nonneg (by omega)]; omega
  rw [adc, hd] at hR
  have hsum : a + m + p % 2 = s := by omega
  cases d
  · obtain ⟨mid, hmid⟩ : ∃ t, s = t := ⟨_, rfl⟩
    obtain ⟨F, hF⟩ : ∃ t, mid = t := ⟨_, rfl⟩
    have hR : addB a m p = (x, y) := hR
    rw [addB, hsum] at hR
    have hR : (F % 256, sf (nvz a m p mid s) 1 (decide (256 ≤ F))) = (x, y) := by rw [← hF, ← hmid]; exact hR
    have hm1 : mid < 600 := by omega
    have hF1 : F < 1000 := by omega
    obtain ⟨q, hq⟩ : ∃ t, mid / 128 = t := ⟨_, rfl⟩
    obtain ⟨sg, hsg⟩ : ∃ t, q % 2 = t := ⟨_, rfl⟩
    have hq1 : q < 10 := by omega
    have hsg1 : sg < 2 := by omega
    obtain ⟨S, hS⟩ : ∃ t, ((sg : Int) == 1) = t := ⟨_, rfl⟩
    have hS2 : decide (sg = 1) = S := by rw [← hS, Bool.eq_iff_iff]; simp; omega
    obtain ⟨B, hB⟩ : ∃ t, ((xh : Int) != (sg : Int)) = t := ⟨_, rfl⟩
    have hB2 : decide (xh ≠ sg) = B := by rw [← hB, bne, Bool.eq_iff_iff]; simp; omega
    obtain ⟨r, hr⟩ : ∃ t, F % 256 = t := ⟨_, rfl⟩
    have hr1 : r < 256 := by omega
    have hru : IntKind.u8.wrap (r : Int) = (r : Int) := by rw [IntKind.wrap_u8']; omega
    obtain ⟨C, hC⟩ : ∃ t, decide (256 ≤ (F : Int)) = t := ⟨_, rfl⟩
    have hC2 : decide (256 ≤ F) = C := by rw [← hC, decide_eq_decide]; omega
    have Q_q : ((mid : Nat) : Int).tdiv 128 = (q : Int) := by rw [Int.tdiv_eq_ediv_of_nonneg (by omega)]; omega
    have R_sg : ((q : Nat) : Int).tmod 2 = (sg : Int) := by rw [Int.tmod_eq_emod_of_nonneg (by omega)]; omega
    have R_r : ((F : Nat) : Int).tmod 256 = (r : Int) := by rw [Int.tmod_eq_emod_of_nonneg (by omega)]; omega
    have h1 := sf_lt 128 (by decide) p hp S
    have h2 := sf_lt 64 (by decide) _ h1 (A && B)
    have h3 := sf_lt 2 (by decide) _ h2 Z
    have hend : r = x ∧ sf (sf (sf (sf p 128 S) 64 (A && B)) 2 Z) 1 C = y := by
      rw [nvz, hxh, hyh, hq, hsg, hz, hS2, hA2, hB2, hZ2, hC2, hr] at hR
      exact ⟨congrArg Prod.fst hR, congrArg Prod.snd hR⟩
    have HEND := Lib.hid hend
    have hrz : r = z := by omega
    clear hend hR hS2 hB2 hC2 hq hsg hr
    subst hF hmid
    subst hrz
    clear hA2 hZ2 hxh hyh hz hs hK hd hc hsum
    cases A
    · have HQ_xh := Lib.hid Q_xh
      have HQ_yh := Lib.hid Q_yh
      have HhA := Lib.hid hA
      have HhB := Lib.hid hB
      have Hhxh1 := Lib.hid hxh1
      have Hhyh1 := Lib.hid hyh1
      have HR_z := Lib.hid R_z
      have HhZ := Lib.hid hZ
      have Hhz1 := Lib.hid hz1
      have Hhs1 := Lib.hid hs1
      have HR_r := Lib.hid R_r
      have HhC := Lib.hid hC
      have Hhru := Lib.hid hru
      have Hhr1 := Lib.hid hr1
      have Hh3 := Lib.hid h3
      have Hh2 := Lib.hid h2
      clear Q_xh Q_yh hA hB hxh1 hyh1 R_z hZ hz1 hs1 R_r hC hru hr1 h3 h2
      go_enter Try.func13, Try.ntmps13
      go_wp2_with fail
      refine (HO.out).mono ?_
      rintro e w' ⟨rfl, rfl⟩
      go_wp2_with fail
      refine (HD.out).mono ?_
      rintro e w' ⟨rfl, rfl⟩
      clear E1 E2
      go_wp2_with fail
      refine (refSet_any w p 128 S hp (by decide)).mono ?_
      rintro e w' ⟨rfl, rfl⟩
      have Q_xh := HQ_xh.out
      have Q_yh := HQ_yh.out
      have hA := HhA.out
      have hB := HhB.out
      have hxh1 := Hhxh1.out
      have hyh1 := Hhyh1.out
      go_wp2_with fail
      refine (refSet_any w _ 64 false h1 (by decide)).mono ?_
      rintro e w' ⟨rfl, rfl⟩
      clear Q_xh Q_yh hA hB hxh1 hyh1
      have R_z := HR_z.out
      have hZ := HhZ.out
      have hz1 := Hhz1.out
      have hs1 := Hhs1.out
      have h2 := Hh2.out
      go_wp2_with fail
      refine (refSet_any w _ 2 Z h2 (by decide)).mono ?_
      rintro e w' ⟨rfl, rfl⟩
      clear h2
      have R_r := HR_r.out
      have hC := HhC.out
      have hru := Hhru.out
      have hr1 := Hhr1.out
      have h3 := Hh3.out
      have h2 := Hh2.out
      go_wp2_with fail
      refine (refSet_any w _ 1 C h3 (by decide)).mono ?_
      rintro e w' ⟨rfl, rfl⟩
      go_wp2_with fail
      go_ret2
      exact ⟨by rw [← HEND.out.1, ← HEND.out.2]; rfl, rfl⟩
    · have HQ_xh := Lib.hid Q_xh
      have HQ_yh := Lib.hid Q_yh
      have HhA := Lib.hid hA
      have HhB := Lib.hid hB
      have Hhxh1 := Lib.hid hxh1
      have Hhyh1 := Lib.hid hyh1
      have HR_z := Lib.hid R_z
      have HhZ := Lib.hid hZ
      have Hhz1 := Lib.hid hz1
      have Hhs1 := Lib.hid hs1
      have HR_r := Lib.hid R_r
      have HhC := Lib.hid hC
      have Hhru := Lib.hid hru
      have Hhr1 := Lib.hid hr1
      have Hh3 := Lib.hid h3
      have Hh2 := Lib.hid h2
      clear Q_xh Q_yh hA hB hxh1 hyh1 R_z hZ hz1 hs1 R_r hC hru hr1 h3 h2
      go_enter Try.func13, Try.ntmps13
      go_wp2_with fail
      refine (HO.out).mono ?_
      rintro e w' ⟨rfl, rfl⟩
      go_wp2_with fail
      refine (HD.out).mono ?_
      rintro e w' ⟨rfl, rfl⟩
      clear E1 E2
      go_wp2_with fail
      refine (refSet_any w p 128 S hp (by decide)).mono ?_
      rintro e w' ⟨rfl, rfl⟩
      have Q_xh := HQ_xh.out
      have Q_yh := HQ_yh.out
      have hA := HhA.out
      have hB := HhB.out
      have hxh1 := Hhxh1.out
      have hyh1 := Hhyh1.out
      go_wp2_with fail
      refine (refSet_any w _ 64 B h1 (by decide)).mono ?_
      rintro e w' ⟨rfl, rfl⟩
      clear Q_xh Q_yh hA hB hxh1 hyh1
      have R_z := HR_z.out
      have hZ := HhZ.out
      have hz1 := Hhz1.out
      have hs1 := Hhs1.out
      have h2 := Hh2.out
      go_wp2_with fail
      refine (refSet_any w _ 2 Z h2 (by decide)).mono ?_
      rintro e w' ⟨rfl, rfl⟩
      clear h2
      have R_r := HR_r.out
      have hC := HhC.out
      have hru := Hhru.out
      have hr1 := Hhr1.out
      have h3 := Hh3.out
      have h2 := Hh2.out
      go_wp2_with fail
      refine (refSet_any w _ 1 C h3 (by decide)).mono ?_
      rintro e w' ⟨rfl, rfl⟩
      go_wp2_with fail
      go_ret2
      exact ⟨by rw [← HEND.out.1, ← HEND.out.2]; rfl, rfl⟩
  · obtain ⟨mid, hmid⟩ : ∃ t, midA a m c = t := ⟨_, rfl⟩
    obtain ⟨F, hF⟩ : ∃ t, fin mid = t := ⟨_, rfl⟩
    have hR : addD a m p = (x, y) := hR
    rw [addD, hsum, hc, hmid, hF] at hR
    have hm1 : mid < 600 := hmid ▸ midA_lt ha hm hc2
    have hF1 : F < 1000 := hF ▸ fin_lt hm1
    rw [hc] at hsum
    obtain ⟨x0, y0, K0, L, l, x1, u1, u2, R_x0, R_y0, G1, G2, G3, G4, G5, G6, hl', hx0b, hy0b, hLb, hl1⟩ := refdec a m c mid ha hm hc2 hmid
    have HL := Lib.hid hl'
    have HF := Lib.hid hF
    clear hmid hl'
    obtain ⟨q, hq⟩ : ∃ t, mid / 128 = t := ⟨_, rfl⟩
    obtain ⟨sg, hsg⟩ : ∃ t, q % 2 = t := ⟨_, rfl⟩
    have hq1 : q < 10 := by omega
    have hsg1 : sg < 2 := by omega
    obtain ⟨S, hS⟩ : ∃ t, ((sg : Int) == 1) = t := ⟨_, rfl⟩
    have hS2 : decide (sg = 1) = S := by rw [← hS, Bool.eq_iff_iff]; simp; omega
    obtain ⟨B, hB⟩ : ∃ t, ((xh : Int) != (sg : Int)) = t := ⟨_, rfl⟩
    have hB2 : decide (xh ≠ sg) = B := by rw [← hB, bne, Bool.eq_iff_iff]; simp; omega
    obtain ⟨r, hr⟩ : ∃ t, F % 256 = t := ⟨_, rfl⟩
    have hr1 : r < 256 := by omega
    have hru : IntKind.u8.wrap (r : Int) = (r : Int) := by rw [IntKind.wrap_u8']; omega
    obtain ⟨C, hC⟩ : ∃ t, decide (256 ≤ (F : Int)) = t := ⟨_, rfl⟩
    have hC2 : decide (256 ≤ F) = C := by rw [← hC, decide_eq_decide]; omega
    have Q_q : ((mid : Nat) : Int).tdiv 128 = (q : Int) := by rw [Int.tdiv_eq_ediv_of_nonneg (by omega)]; omega
    have R_sg : ((q : Nat) : Int).tmod 2 = (sg : Int) := by rw [Int.tmod_eq_emod_of_nonneg (by omega)]; omega
    have R_r : ((F : Nat) : Int).tmod 256 = (r : Int) := by rw [Int.tmod_eq_emod_of_nonneg (by omega)]; omega
    have h1 := sf_lt 128 (by decide) p hp S
    have h2 := sf_lt 64 (by decide) _ h1 (A && B)
    have h3 := sf_lt 2 (by decide) _ h2 Z
    have hend : r = x ∧ sf (sf (sf (sf p 128 S) 64 (A && B)) 2 Z) 1 C = y := by
      rw [nvz, hxh, hyh, hq, hsg, hz, hS2, hA2, hB2, hZ2, hC2, hr] at hR
      exact ⟨congrArg Prod.fst hR, congrArg Prod.snd hR⟩
    have HEND := Lib.hid hend
    clear hend hR hS2 hB2 hC2 hq hsg hr
    clear hF
    clear hA2 hZ2 hxh hyh hz hs hK hd hc hsum
    by_cases hlo : 10 ≤ L
    · obtain ⟨L6, hL6⟩ : ∃ t, L + 6 = t := ⟨_, rfl⟩
      obtain ⟨D, hD⟩ : ∃ t, L6 % 16 = t := ⟨_, rfl⟩
      have g1 : decide ((10 : Int) ≤ (L : Int)) = true := by rw [decide_eq_true_eq]; omega
      have G7 := sums' L 6 L6 (by omega) hL6
      rw [show ((6 : Nat) : Int) = 6 from rfl] at G7
      have hL6b : L6 < 100 := by omega
      have hDb : D < 16 := by omega
      have R_D : ((L6 : Nat) : Int).tmod 16 = (D : Int) := by rw [Int.tmod_eq_emod_of_nonneg (by omega)]; omega
      have G8 := sums' D 16 l (by omega) (by rw [HL.out, if_pos hlo, hL6, hD])
      rw [show ((16 : Nat) : Int) = 16 from rfl] at G8
      clear hL6 hD
      by_cases h160 : 160 ≤ mid
      · have g2 : decide ((160 : Int) ≤ (mid : Int)) = true := by rw [decide_eq_true_eq]; omega
        have G9 := sums' mid 96 F (by omega) (by rw [← HF.out, fin, if_pos h160])
        rw [show ((96 : Nat) : Int) = 96 from rfl] at G9
        cases A
        · have HQ_xh := Lib.hid Q_xh
          have HQ_yh := Lib.hid Q_yh
          have HhA := Lib.hid hA
          have HhB := Lib.hid hB
          have Hhxh1 := Lib.hid hxh1
          have Hhyh1 := Lib.hid hyh1
          have HR_z := Lib.hid R_z
          have HhZ := Lib.hid hZ
          have Hhz1 := Lib.hid hz1
          have Hhs1 := Lib.hid hs1
          have HR_r := Lib.hid R_r
          have HhC := Lib.hid hC
          have Hhru := Lib.hid hru
          have Hhr1 := Lib.hid hr1
          have Hh3 := Lib.hid h3
          have Hh2 := Lib.hid h2
          have Hg2 := Lib.hid g2
          have HG9 := Lib.hid G9
          clear Q_xh Q_yh hA hB hxh1 hyh1 R_z hZ hz1 hs1 R_r hC hru hr1 h3 h2 g2 G9
          go_enter Try.func13, Try.ntmps13
          go_wp2_with fail
          refine (HO.out).mono ?_
          rintro e w' ⟨rfl, rfl⟩
          go_wp2_with fail
          refine (HD.out).mono ?_
          rintro e w' ⟨rfl, rfl⟩
          clear E1 E2
          go_wp2_with fail
          refine (refSet_any w p 128 S hp (by decide)).mono ?_
          rintro e w' ⟨rfl, rfl⟩
          clear R_x0 R_y0 G1 G2 G3 G4 G5 G6 g1 G7 R_D G8
          have Q_xh := HQ_xh.out
          have Q_yh := HQ_yh.out
          have hA := HhA.out
          have hB := HhB.out
          have hxh1 := Hhxh1.out
          have hyh1 := Hhyh1.out
          go_wp2_with fail
          refine (refSet_any w _ 64 false h1 (by decide)).mono ?_
          rintro e w' ⟨rfl, rfl⟩
          clear Q_xh Q_yh hA hB hxh1 hyh1
          have R_z := HR_z.out
          have hZ := HhZ.out
          have hz1 := Hhz1.out
          have hs1 := Hhs1.out
          have h2 := Hh2.out
          go_wp2_with fail
          refine (refSet_any w _ 2 Z h2 (by decide)).mono ?_
          rintro e w' ⟨rfl, rfl⟩
          clear h2
          have R_r := HR_r.out
          have hC := HhC.out
          have hru := Hhru.out
          have hr1 := Hhr1.out
          have h3 := Hh3.out
          have h2 := Hh2.out
          have g2 := Hg2.out
          have G9 := HG9.out
          go_wp2_with fail
          refine (refSet_any w _ 1 C h3 (by decide)).mono ?_
          rintro e w' ⟨rfl, rfl⟩
          go_wp2_with fail
          go_ret2
          exact ⟨by rw [← HEND.out.1, ← HEND.out.2]; rfl, rfl⟩
        · have HQ_xh := Lib.hid Q_xh
          have HQ_yh := Lib.hid Q_yh
          have HhA := Lib.hid hA
          have HhB := Lib.hid hB
          have Hhxh1 := Lib.hid hxh1
          have Hhyh1 := Lib.hid hyh1
          have HR_z := Lib.hid R_z
          have HhZ := Lib.hid hZ
          have Hhz1 := Lib.hid hz1
          have Hhs1 := Lib.hid hs1
          have HR_r := Lib.hid R_r
          have HhC := Lib.hid hC
          have Hhru := Lib.hid hru
          have Hhr1 := Lib.hid hr1
          have Hh3 := Lib.hid h3
          have Hh2 := Lib.hid h2
          have Hg2 := Lib.hid g2
          have HG9 := Lib.hid G9
          clear Q_xh Q_yh hA hB hxh1 hyh1 R_z hZ hz1 hs1 R_r hC hru hr1 h3 h2 g2 G9
          go_enter Try.func13, Try.ntmps13
          go_wp2_with fail
          refine (HO.out).mono ?_
          rintro e w' ⟨rfl, rfl⟩
          go_wp2_with fail
          refine (HD.out).mono ?_
          rintro e w' ⟨rfl, rfl⟩
          clear E1 E2
          go_wp2_with fail
          refine (refSet_any w p 128 S hp (by decide)).mono ?_
          rintro e w' ⟨rfl, rfl⟩
          clear R_x0 R_y0 G1 G2 G3 G4 G5 G6 g1 G7 R_D G8
          have Q_xh := HQ_xh.out
          have Q_yh := HQ_yh.out
          have hA := HhA.out
          have hB := HhB.out
          have hxh1 := Hhxh1.out
          have hyh1 := Hhyh1.out
          go_wp2_with fail
          refine (refSet_any w _ 64 B h1 (by decide)).mono ?_
          rintro e w' ⟨rfl, rfl⟩
          clear Q_xh Q_yh hA hB hxh1 hyh1
          have R_z := HR_z.out
          have hZ := HhZ.out
          have hz1 := Hhz1.out
          have hs1 := Hhs1.out
          have h2 := Hh2.out
          go_wp2_with fail
          refine (refSet_any w _ 2 Z h2 (by decide)).mono ?_
          rintro e w' ⟨rfl, rfl⟩
          clear h2
          have R_r := HR_r.out
          have hC := HhC.out
          have hru := Hhru.out
          have hr1 := Hhr1.out
          have h3 := Hh3.out
          have h2 := Hh2.out
          have g2 := Hg2.out
          have G9 := HG9.out
          go_wp2_with fail
          refine (refSet_any w _ 1 C h3 (by decide)).mono ?_
          rintro e w' ⟨rfl, rfl⟩
          go_wp2_with fail
          go_ret2
          exact ⟨by rw [← HEND.out.1, ← HEND.out.2]; rfl, rfl⟩
      · have g2 : decide ((160 : Int) ≤ (mid : Int)) = false := by rw [decide_eq_false_iff_not]; omega
        have hFm : F = mid := by rw [← HF.out, fin, if_neg h160]
        subst hFm
        cases A
        · have HQ_xh := Lib.hid Q_xh
          have HQ_yh := Lib.hid Q_yh
          have HhA := Lib.hid hA
          have HhB := Lib.hid hB
          have Hhxh1 := Lib.hid hxh1
          have Hhyh1 := Lib.hid hyh1
          have HR_z := Lib.hid R_z
          have HhZ := Lib.hid hZ
          have Hhz1 := Lib.hid hz1
          have Hhs1 := Lib.hid hs1
          have HR_r := Lib.hid R_r
          have HhC := Lib.hid hC
          have Hhru := Lib.hid hru
          have Hhr1 := Lib.hid hr1
          have Hh3 := Lib.hid h3
          have Hh2 := Lib.hid h2
          have Hg2 := Lib.hid g2
          clear Q_xh Q_yh hA hB hxh1 hyh1 R_z hZ hz1 hs1 R_r hC hru hr1 h3 h2 g2
          go_enter Try.func13, Try.ntmps13
          go_wp2_with fail
          refine (HO.out).mono ?_
          rintro e w' ⟨rfl, rfl⟩
          go_wp2_with fail
          refine (HD.out).mono ?_
          rintro e w' ⟨rfl, rfl⟩
          clear E1 E2
          go_wp2_with fail
          refine (refSet_any w p 128 S hp (by decide)).mono ?_
          rintro e w' ⟨rfl, rfl⟩
          clear R_x0 R_y0 G1 G2 G3 G4 G5 G6 g1 G7 R_D G8
          have Q_xh := HQ_xh.out
          have Q_yh := HQ_yh.out
          have hA := HhA.out
          have hB := HhB.out
          have hxh1 := Hhxh1.out
          have hyh1 := Hhyh1.out
          go_wp2_with fail
          refine (refSet_any w _ 64 false h1 (by decide)).mono ?_
          rintro e w' ⟨rfl, rfl⟩
          clear Q_xh Q_yh hA hB hxh1 hyh1
          have R_z := HR_z.out
          have hZ := HhZ.out
          have hz1 := Hhz1.out
          have hs1 := Hhs1.out
          have h2 := Hh2.out
          go_wp2_with fail
          refine (refSet_any w _ 2 Z h2 (by decide)).mono ?_
          rintro e w' ⟨rfl, rfl⟩
          clear h2
          have R_r := HR_r.out
          have hC := HhC.out
          have hru := Hhru.out
          have hr1 := Hhr1.out
          have h3 := Hh3.out
          have h2 := Hh2.out
          have g2 := Hg2.out
          go_wp2_with fail
          refine (refSet_any w _ 1 C h3 (by decide)).mono ?_
          rintro e w' ⟨rfl, rfl⟩
          go_wp2_with fail
          go_ret2
          exact ⟨by rw [← HEND.out.1, ← HEND.out.2]; rfl, rfl⟩
        · have HQ_xh := Lib.hid Q_xh
          have HQ_yh := Lib.hid Q_yh
          have HhA := Lib.hid hA
          have HhB := Lib.hid hB
          have Hhxh1 := Lib.hid hxh1
          have Hhyh1 := Lib.hid hyh1
          have HR_z := Lib.hid R_z
          have HhZ := Lib.hid hZ
          have Hhz1 := Lib.hid hz1
          have Hhs1 := Lib.hid hs1
          have HR_r := Lib.hid R_r
          have HhC := Lib.hid hC
          have Hhru := Lib.hid hru
          have Hhr1 := Lib.hid hr1
          have Hh3 := Lib.hid h3
          have Hh2 := Lib.hid h2
          have Hg2 := Lib.hid g2
          clear Q_xh Q_yh hA hB hxh1 hyh1 R_z hZ hz1 hs1 R_r hC hru hr1 h3 h2 g2
          go_enter Try.func13, Try.ntmps13
          go_wp2_with fail
          refine (HO.out).mono ?_
          rintro e w' ⟨rfl, rfl⟩
          go_wp2_with fail
          refine (HD.out).mono ?_
          rintro e w' ⟨rfl, rfl⟩
          clear E1 E2
          go_wp2_with fail
          refine (refSet_any w p 128 S hp (by decide)).mono ?_
          rintro e w' ⟨rfl, rfl⟩
          clear R_x0 R_y0 G1 G2 G3 G4 G5 G6 g1 G7 R_D G8
          have Q_xh := HQ_xh.out
          have Q_yh := HQ_yh.out
          have hA := HhA.out
          have hB := HhB.out
          have hxh1 := Hhxh1.out
          have hyh1 := Hhyh1.out
          go_wp2_with fail
          refine (refSet_any w _ 64 B h1 (by decide)).mono ?_
          rintro e w' ⟨rfl, rfl⟩
          clear Q_xh Q_yh hA hB hxh1 hyh1
          have R_z := HR_z.out
          have hZ := HhZ.out
          have hz1 := Hhz1.out
          have hs1 := Hhs1.out
          have h2 := Hh2.out
          go_wp2_with fail
          refine (refSet_any w _ 2 Z h2 (by decide)).mono ?_
          rintro e w' ⟨rfl, rfl⟩
          clear h2
          have R_r := HR_r.out
          have hC := HhC.out
          have hru := Hhru.out
          have hr1 := Hhr1.out
          have h3 := Hh3.out
          have h2 := Hh2.out
          have g2 := Hg2.out
          go_wp2_with fail
          refine (refSet_any w _ 1 C h3 (by decide)).mono ?_
          rintro e w' ⟨rfl, rfl⟩
          go_wp2_with fail
          go_ret2
          exact ⟨by rw [← HEND.out.1, ← HEND.out.2]; rfl, rfl⟩
    · have hLL : l = L := by rw [HL.out, if_neg hlo]
      have g1 : decide ((10 : Int) ≤ (L : Int)) = false := by rw [decide_eq_false_iff_not]; omega
      subst hLL
      by_cases h160 : 160 ≤ mid
      · have g2 : decide ((160 : Int) ≤ (mid : Int)) = true := by rw [decide_eq_true_eq]; omega
        have G9 := sums' mid 96 F (by omega) (by rw [← HF.out, fin, if_pos h160])
        rw [show ((96 : Nat) : Int) = 96 from rfl] at G9
        cases A
        · have HQ_xh := Lib.hid Q_xh
          have HQ_yh := Lib.hid Q_yh
          have HhA := Lib.hid hA
          have HhB := Lib.hid hB
          have Hhxh1 := Lib.hid hxh1
          have Hhyh1 := Lib.hid hyh1
          have HR_z := Lib.hid R_z
          have HhZ := Lib.hid hZ
          have Hhz1 := Lib.hid hz1
          have Hhs1 := Lib.hid hs1
          have HR_r := Lib.hid R_r
          have HhC := Lib.hid hC
          have Hhru := Lib.hid hru
          have Hhr1 := Lib.hid hr1
          have Hh3 := Lib.hid h3
          have Hh2 := Lib.hid h2
          have Hg2 := Lib.hid g2
          have HG9 := Lib.hid G9
          clear Q_xh Q_yh hA hB hxh1 hyh1 R_z hZ hz1 hs1 R_r hC hru hr1 h3 h2 g2 G9
          go_enter Try.func13, Try.ntmps13
          go_wp2_with fail
          refine (HO.out).mono ?_
          rintro e w' ⟨rfl, rfl⟩
          go_wp2_with fail
          refine (HD.out).mono ?_
          rintro e w' ⟨rfl, rfl⟩
          clear E1 E2
          go_wp2_with fail
          refine (refSet_any w p 128 S hp (by decide)).mono ?_
          rintro e w' ⟨rfl, rfl⟩
          clear R_x0 R_y0 G1 G2 G3 G4 G5 G6 g1
          have Q_xh := HQ_xh.out
          have Q_yh := HQ_yh.out
          have hA := HhA.out
          have hB := HhB.out
          have hxh1 := Hhxh1.out
          have hyh1 := Hhyh1.out
          go_wp2_with fail
          refine (refSet_any w _ 64 false h1 (by decide)).mono ?_
          rintro e w' ⟨rfl, rfl⟩
          clear Q_xh Q_yh hA hB hxh1 hyh1
          have R_z := HR_z.out
          have hZ := HhZ.out
          have hz1 := Hhz1.out
          have hs1 := Hhs1.out
          have h2 := Hh2.out
          go_wp2_with fail
          refine (refSet_any w _ 2 Z h2 (by decide)).mono ?_
          rintro e w' ⟨rfl, rfl⟩
          clear h2
          have R_r := HR_r.out
          have hC := HhC.out
          have hru := Hhru.out
          have hr1 := Hhr1.out
          have h3 := Hh3.out
          have h2 := Hh2.out
          have g2 := Hg2.out
          have G9 := HG9.out
          go_wp2_with fail
          refine (refSet_any w _ 1 C h3 (by decide)).mono ?_
          rintro e w' ⟨rfl, rfl⟩
          go_wp2_with fail
          go_ret2
          exact ⟨by rw [← HEND.out.1, ← HEND.out.2]; rfl, rfl⟩
        · have HQ_xh := Lib.hid Q_xh
          have HQ_yh := Lib.hid Q_yh
          have HhA := Lib.hid hA
          have HhB := Lib.hid hB
          have Hhxh1 := Lib.hid hxh1
          have Hhyh1 := Lib.hid hyh1
          have HR_z := Lib.hid R_z
          have HhZ := Lib.hid hZ
          have Hhz1 := Lib.hid hz1
          have Hhs1 := Lib.hid hs1
          have HR_r := Lib.hid R_r
          have HhC := Lib.hid hC
          have Hhru := Lib.hid hru
          have Hhr1 := Lib.hid hr1
          have Hh3 := Lib.hid h3
          have Hh2 := Lib.hid h2
          have Hg2 := Lib.hid g2
          have HG9 := Lib.hid G9
          clear Q_xh Q_yh hA hB hxh1 hyh1 R_z hZ hz1 hs1 R_r hC hru hr1 h3 h2 g2 G9
          go_enter Try.func13, Try.ntmps13
          go_wp2_with fail
          refine (HO.out).mono ?_
          rintro e w' ⟨rfl, rfl⟩
          go_wp2_with fail
          refine (HD.out).mono ?_
          rintro e w' ⟨rfl, rfl⟩
          clear E1 E2
          go_wp2_with fail
          refine (refSet_any w p 128 S hp (by decide)).mono ?_
          rintro e w' ⟨rfl, rfl⟩
          clear R_x0 R_y0 G1 G2 G3 G4 G5 G6 g1
          have Q_xh := HQ_xh.out
          have Q_yh := HQ_yh.out
          have hA := HhA.out
          have hB := HhB.out
          have hxh1 := Hhxh1.out
          have hyh1 := Hhyh1.out
          go_wp2_with fail
          refine (refSet_any w _ 64 B h1 (by decide)).mono ?_
          rintro e w' ⟨rfl, rfl⟩
          clear Q_xh Q_yh hA hB hxh1 hyh1
          have R_z := HR_z.out
          have hZ := HhZ.out
          have hz1 := Hhz1.out
          have hs1 := Hhs1.out
          have h2 := Hh2.out
          go_wp2_with fail
          refine (refSet_any w _ 2 Z h2 (by decide)).mono ?_
          rintro e w' ⟨rfl, rfl⟩
          clear h2
          have R_r := HR_r.out
          have hC := HhC.out
          have hru := Hhru.out
          have hr1 := Hhr1.out
          have h3 := Hh3.out
          have h2 := Hh2.out
          have g2 := Hg2.out
          have G9 := HG9.out
          go_wp2_with fail
          refine (refSet_any w _ 1 C h3 (by decide)).mono ?_
          rintro e w' ⟨rfl, rfl⟩
          go_wp2_with fail
          go_ret2
          exact ⟨by rw [← HEND.out.1, ← HEND.out.2]; rfl, rfl⟩
      · have g2 : decide ((160 : Int) ≤ (mid : Int)) = false := by rw [decide_eq_false_iff_not]; omega
        have hFm : F = mid := by rw [← HF.out, fin, if_neg h160]
        subst hFm
        cases A
        · have HQ_xh := Lib.hid Q_xh
          have HQ_yh := Lib.hid Q_yh
          have HhA := Lib.hid hA
          have HhB := Lib.hid hB
          have Hhxh1 := Lib.hid hxh1
          have Hhyh1 := Lib.hid hyh1
          have HR_z := Lib.hid R_z
          have HhZ := Lib.hid hZ
          have Hhz1 := Lib.hid hz1
          have Hhs1 := Lib.hid hs1
          have HR_r := Lib.hid R_r
          have HhC := Lib.hid hC
          have Hhru := Lib.hid hru
          have Hhr1 := Lib.hid hr1
          have Hh3 := Lib.hid h3
          have Hh2 := Lib.hid h2
          have Hg2 := Lib.hid g2
          clear Q_xh Q_yh hA hB hxh1 hyh1 R_z hZ hz1 hs1 R_r hC hru hr1 h3 h2 g2
          go_enter Try.func13, Try.ntmps13
          go_wp2_with fail
          refine (HO.out).mono ?_
          rintro e w' ⟨rfl, rfl⟩
          go_wp2_with fail
          refine (HD.out).mono ?_
          rintro e w' ⟨rfl, rfl⟩
          clear E1 E2
          go_wp2_with fail
          refine (refSet_any w p 128 S hp (by decide)).mono ?_
          rintro e w' ⟨rfl, rfl⟩
          clear R_x0 R_y0 G1 G2 G3 G4 G5 G6 g1
          have Q_xh := HQ_xh.out
          have Q_yh := HQ_yh.out
          have hA := HhA.out
          have hB := HhB.out
          have hxh1 := Hhxh1.out
          have hyh1 := Hhyh1.out
          go_wp2_with fail
          refine (refSet_any w _ 64 false h1 (by decide)).mono ?_
          rintro e w' ⟨rfl, rfl⟩
          clear Q_xh Q_yh hA hB hxh1 hyh1
          have R_z := HR_z.out
          have hZ := HhZ.out
          have hz1 := Hhz1.out
          have hs1 := Hhs1.out
          have h2 := Hh2.out
          go_wp2_with fail
          refine (refSet_any w _ 2 Z h2 (by decide)).mono ?_
          rintro e w' ⟨rfl, rfl⟩
          clear h2
          have R_r := HR_r.out
          have hC := HhC.out
          have hru := Hhru.out
          have hr1 := Hhr1.out
          have h3 := Hh3.out
          have h2 := Hh2.out
          have g2 := Hg2.out
          go_wp2_with fail
          refine (refSet_any w _ 1 C h3 (by decide)).mono ?_
          rintro e w' ⟨rfl, rfl⟩
          go_wp2_with fail
          go_ret2
          exact ⟨by rw [← HEND.out.1, ← HEND.out.2]; rfl, rfl⟩
        · have HQ_xh := Lib.hid Q_xh
          have HQ_yh := Lib.hid Q_yh
          have HhA := Lib.hid hA
          have HhB := Lib.hid hB
          have Hhxh1 := Lib.hid hxh1
          have Hhyh1 := Lib.hid hyh1
          have HR_z := Lib.hid R_z
          have HhZ := Lib.hid hZ
          have Hhz1 := Lib.hid hz1
          have Hhs1 := Lib.hid hs1
          have HR_r := Lib.hid R_r
          have HhC := Lib.hid hC
          have Hhru := Lib.hid hru
          have Hhr1 := Lib.hid hr1
          have Hh3 := Lib.hid h3
          have Hh2 := Lib.hid h2
          have Hg2 := Lib.hid g2
          clear Q_xh Q_yh hA hB hxh1 hyh1 R_z hZ hz1 hs1 R_r hC hru hr1 h3 h2 g2
          go_enter Try.func13, Try.ntmps13
          go_wp2_with fail
          refine (HO.out).mono ?_
          rintro e w' ⟨rfl, rfl⟩
          go_wp2_with fail
          refine (HD.out).mono ?_
          rintro e w' ⟨rfl, rfl⟩
          clear E1 E2
          go_wp2_with fail
          refine (refSet_any w p 128 S hp (by decide)).mono ?_
          rintro e w' ⟨rfl, rfl⟩
          clear R_x0 R_y0 G1 G2 G3 G4 G5 G6 g1
          have Q_xh := HQ_xh.out
          have Q_yh := HQ_yh.out
          have hA := HhA.out
          have hB := HhB.out
          have hxh1 := Hhxh1.out
          have hyh1 := Hhyh1.out
          go_wp2_with fail
          refine (refSet_any w _ 64 B h1 (by decide)).mono ?_
          rintro e w' ⟨rfl, rfl⟩
          clear Q_xh Q_yh hA hB hxh1 hyh1
          have R_z := HR_z.out
          have hZ := HhZ.out
          have hz1 := Hhz1.out
          have hs1 := Hhs1.out
          have h2 := Hh2.out
          go_wp2_with fail
          refine (refSet_any w _ 2 Z h2 (by decide)).mono ?_
          rintro e w' ⟨rfl, rfl⟩
          clear h2
          have R_r := HR_r.out
          have hC := HhC.out
          have hru := Hhru.out
          have hr1 := Hhr1.out
          have h3 := Hh3.out
          have h2 := Hh2.out
          have g2 := Hg2.out
          go_wp2_with fail
          refine (refSet_any w _ 1 C h3 (by decide)).mono ?_
          rintro e w' ⟨rfl, rfl⟩
          go_wp2_with fail
          go_ret2
          exact ⟨by rw [← HEND.out.1, ← HEND.out.2]; rfl, rfl⟩
theorem set8 (p a m mid s : Nat) (C : Bool) (hp : p < 256) (hd : dec p = true) : sf (sf (nvz a m (sf p 8 false) mid s) 1 C) 8 true = sf (nvz a m p mid s) 1 C := by
  unfold nvz
  have L := fun f hf q hq b => sf_lt f hf q hq b
  have h0 : sf p 8 true = p := by rw [← hd]; exact sf_same 8 (by decide) p hp
  generalize (decide (a / 128 = m / 128) && decide (a / 128 ≠ mid / 128 % 2)) = V
  generalize decide (mid / 128 % 2 = 1) = S
  generalize decide (s % 256 = 0) = Z
  have a0 := L 8 (by decide) _ hp false
  have a1 := L 128 (by decide) _ a0 S
  have a2 := L 64 (by decide) _ a1 V
  have a3 := L 2 (by decide) _ a2 Z
  rw [sf_comm 1 (by decide) 8 (by decide) (by decide) _ a3, sf_comm 2 (by decide) 8 (by decide) (by decide) _ a2, sf_comm 64 (by decide) 8 (by decide) (by decide) _ a1,
    sf_comm 128 (by decide) 8 (by decide) (by decide) _ a0, sf_two 8 (by decide) p hp, h0]
end Go.Proofs.Ytpcfakdddfgkgaa
