/-
  THE WALKS OF operands' OTHER METHODS, Adc, Sbc, Arr.
-/
import Derived.Test.YtpcfakdddfgkgaaAAdd
namespace Go.Proofs.Ytpcfakdddfgkgaa
open Go.RowKit
set_option maxRecDepth 20000

local macro "quietly " "(" t:tactic ")" : tactic => `(tactic|
  (refine wp_region_quiet_below (by kernel_rfl) (by kernel_rfl) ?_
   repeat (go_big_quiet_step ($t:tactic))
   refine wpQuiet_nil ?_))
theorem difs (x y z : Int) (h : -1000000 < z ∧ z < 1000000) (e : x - y = z) : IntKind.i64.wrap (x - y) = z := by
  rw [IntWalk.i64_in _ (by omega)]; omega
theorem plus (x y z : Int) (h : -1000000 < z ∧ z < 1000000) (e : x + y = z) : IntKind.i64.wrap (x + y) = z := by
  rw [IntWalk.i64_in _ (by omega)]; omega
set_option maxHeartbeats 1000000 in
theorem decimalDifference_any (w : World) (a m p x y : Nat) (ha : a < 256) (hm : m < 256) (hp : p < 256) (hR : subD a m p = (x, y)) :
    Calls Try.prog 41 #[opsV a m p] w (Two x y w) := by
  obtain ⟨x', hx'⟩ : ∃ t, (addB a (255 - m) p).1 = t := ⟨_, rfl⟩
  obtain ⟨mid, hmid⟩ : ∃ d, midS a m (p % 2 : Nat) = d := ⟨_, rfl⟩
  obtain ⟨F, hF⟩ : ∃ F, finS mid = F := ⟨_, rfl⟩
  have hval : (subD a m p).1 = (F % 256).toNat := by unfold subD; rw [hmid, hF]
  have hfl : (subD a m p).2 = (addB a (255 - m) p).2 := rfl
  rw [hR] at hval hfl
  have HDIF := Lib.hid (show addB a (255 - m) p = (x', y) by rw [Prod.ext_iff]; exact ⟨hx', hfl.symm⟩)
  have HB := Lib.hid (Bx.new w a m p 31)
  obtain ⟨c, hc⟩ : ∃ c, p % 2 = c := ⟨_, rfl⟩
  obtain ⟨x0, hx0⟩ : ∃ t, a % 16 = t := ⟨_, rfl⟩
  obtain ⟨y0, hy0⟩ : ∃ t, m % 16 = t := ⟨_, rfl⟩
  obtain ⟨x1, hx1⟩ : ∃ t, a - x0 = t := ⟨_, rfl⟩
  obtain ⟨y1, hy1⟩ : ∃ t, m - y0 = t := ⟨_, rfl⟩
  obtain ⟨K, hK⟩ : ∃ t, (x0 : Int) - y0 = t := ⟨_, rfl⟩
  obtain ⟨K1, hK1⟩ : ∃ t, K - 1 = t := ⟨_, rfl⟩
  obtain ⟨L, hL⟩ : ∃ t, K1 + c = t := ⟨_, rfl⟩
  obtain ⟨T, hT⟩ : ∃ t, (x1 : Int) - y1 = t := ⟨_, rfl⟩
  obtain ⟨l, hl⟩ : ∃ t, lowS a m (p % 2 : Nat) = t := ⟨_, rfl⟩
  have hl' : l = if L < 0 then (L - 6) % 16 - 16 else L := by
    rw [← hl, lowS, hc, show (a : Int) % 16 - (m : Int) % 16 - 1 + (c : Int) = L by omega]
  have hmid' : T + l = mid := by
    rw [← hmid, midS, hl]; omega
  have hlo : -20 < L ∧ L < 20 := by omega
  have hl2 : -64 < l ∧ l < 64 := by rw [hl']; split <;> omega
  have hFb : -1000 < F ∧ F < 1000 := by rw [← hF, finS]; split <;> omega
  obtain ⟨r, hr⟩ : ∃ t, (F % 256).toNat = t := ⟨_, rfl⟩
  have E1 := difs x0 y0 K (by omega) hK
  have E2 := difs K 1 K1 (by omega) hK1
  have E2' := plus K1 c L (by omega) hL
  have E3 := difs x1 y1 T (by omega) hT
  have E4 := plus T l mid (by omega) hmid'
  have E6 : IntKind.u8.wrap F = (r : Int) := by rw [IntKind.wrap_u8']; omega
  have HX0 := Lib.hid hx0
  have HY0 := Lib.hid hy0
  have HX1 := Lib.hid (show a - a % 16 = x1 by rw [hx0, hx1])
  have HY1 := Lib.hid (show m - m % 16 = y1 by rw [hy0, hy1])
  have HC := Lib.hid hc
  have HEND := Lib.hid (show r = x by rw [← hr]; exact hval.symm)
  have HL := Lib.hid hl'
  have HFF := Lib.hid hF
  clear hmid hfl hval hR hc hx0 hy0 hx1 hy1 hK hK1 hL hT hl hl' hmid' hr hF hx'
  go_enter Try.func41, Try.ntmps41
  go_wp2_with fail
  refine (difference_any _ a m p x' y ha hm hp HDIF.out).mono ?_
  rintro e W ⟨rfl, hw⟩
  replace HB := Lib.hid (HB.out.next hw)
  clear hw
  go_wp2_with fail
  have r0 := fun d os => cell_regrown HB.out.c0 d os
  have r1 := fun d os => cell_regrown HB.out.c1 d os
  have r2 := fun d os => cell_regrown HB.out.c2 d os
  quietly (first | refine digit_in W _ a x0 ha HX0.out | refine digit_in W _ m y0 hm HY0.out | refine carry_in W _ a m p c hp HC.out)
  rintro W1 ⟨q, hq⟩
  replace HB := Lib.hid (show Bx w W1 a m p by rw [hq]; exact HB.out.next (in_below W q))
  clear r0 r1 r2 hq
  by_cases hlo6 : L < 0
  · obtain ⟨M, hM⟩ : ∃ t, L - 6 = t := ⟨_, rfl⟩
    obtain ⟨n, hn⟩ : ∃ t, (M % 256).toNat = t := ⟨_, rfl⟩
    obtain ⟨D, hD⟩ : ∃ t, n % 16 = t := ⟨_, rfl⟩
    have g1 : decide ((L : Int) < 0) = true := by rw [decide_eq_true_eq]; omega
    have E10 := difs L 6 M (by omega) hM
    have E11 : IntKind.u8.wrap M = (n : Int) := by rw [IntKind.wrap_u8']; omega
    have E12 := difs D 16 l (by omega) (by rw [HL.out, if_pos hlo6, hM]; omega)
    have hM1 : n < 256 := by omega
    have HD := Lib.hid (digit_any W1 n hM1)
    rw [hD] at HD
    clear hM hD hn
    go_wp2_with fail
    refine (HD.out).mono ?_
    rintro e w' ⟨rfl, rfl⟩
    go_wp2_with fail
    have r0 := fun d os => cell_regrown HB.out.c0 d os
    have r1 := fun d os => cell_regrown HB.out.c1 d os
    have r2 := fun d os => cell_regrown HB.out.c2 d os
    quietly (first | refine tens_in W1 _ a x1 ha HX1.out | refine tens_in W1 _ m y1 hm HY1.out)
    rintro W2 ⟨q2, hq2⟩
    replace HB := Lib.hid (show Bx w W2 a m p by rw [hq2]; exact HB.out.next (in_below W1 q2))
    clear r0 r1 r2 hq2
    by_cases h0 : mid < 0
    · have g2 : decide ((mid : Int) < 0) = true := by rw [decide_eq_true_eq]; omega
      have E13 := difs mid 96 F (by omega) (by rw [← HFF.out, finS, if_pos h0])
      go_wp2_with fail
      go_ret2
      exact ⟨by rw [← HEND.out]; rfl, HB.out.bel⟩
    · have g2 : decide ((mid : Int) < 0) = false := by rw [decide_eq_false_iff_not]; omega
      have hFm : F = mid := by rw [← HFF.out, finS, if_neg h0]
      subst hFm
      go_wp2_with fail
      go_ret2
      exact ⟨by rw [← HEND.out]; rfl, HB.out.bel⟩
  · have hLL : l = L := by rw [HL.out, if_neg hlo6]
    have g1 : decide ((L : Int) < 0) = false := by rw [decide_eq_false_iff_not]; omega
    subst hLL
    go_wp2_with fail
    have r0 := fun d os => cell_regrown HB.out.c0 d os
    have r1 := fun d os => cell_regrown HB.out.c1 d os
    have r2 := fun d os => cell_regrown HB.out.c2 d os
    quietly (first | refine tens_in W1 _ a x1 ha HX1.out | refine tens_in W1 _ m y1 hm HY1.out)
    rintro W2 ⟨q2, hq2⟩
    replace HB := Lib.hid (show Bx w W2 a m p by rw [hq2]; exact HB.out.next (in_below W1 q2))
    clear r0 r1 r2 hq2
    by_cases h0 : mid < 0
    · have g2 : decide ((mid : Int) < 0) = true := by rw [decide_eq_true_eq]; omega
      have E13 := difs mid 96 F (by omega) (by rw [← HFF.out, finS, if_pos h0])
      go_wp2_with fail
      go_ret2
      exact ⟨by rw [← HEND.out]; rfl, HB.out.bel⟩
    · have g2 : decide ((mid : Int) < 0) = false := by rw [decide_eq_false_iff_not]; omega
      have hFm : F = mid := by rw [← HFF.out, finS, if_neg h0]
      subst hFm
      go_wp2_with fail
      go_ret2
      exact ⟨by rw [← HEND.out]; rfl, HB.out.bel⟩
end Go.Proofs.Ytpcfakdddfgkgaa
