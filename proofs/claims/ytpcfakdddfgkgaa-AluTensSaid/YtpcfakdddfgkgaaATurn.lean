/-
  THE WALKS OF operands' turned, decimalTurned; Adc, Sbc, Arr.
-/
import Derived.Test.YtpcfakdddfgkgaaASub
namespace Go.Proofs.Ytpcfakdddfgkgaa
open Go.RowKit
set_option maxRecDepth 20000

theorem ror_let (w : World) (m p v f : Nat) (hm : m < 256) (hp : p < 256) (hv : downV m (p % 2) = v) (hf : downP m (p % 2) p = f) :
    Calls Try.prog 22 #[.int .u8 m, .int .u8 p] w fun e w' => e = .returned (.tuple #[.int .u8 v, .int .u8 f]) ∧ w = w' := by
  subst hv hf; exact ror_any w m p hm hp
theorem arr_flags (p v : Nat) (hp : p < 256) (b C : Bool) : sf (nz (sf p 1 b) v) 1 C = sf (nz p v) 1 C := by
  unfold nz
  have L := fun f hf q hq b => sf_lt f hf q hq b
  rw [sf_comm 1 (by decide) 128 (by decide) (by decide) p hp, sf_comm 1 (by decide) 2 (by decide) (by decide) _ (L _ (by decide) _ hp _), sf_two 1 (by decide) _ (L _ (by decide) _ (L _ (by decide) _ hp _) _)]
theorem arr_flags2 (p v : Nat) (hp : p < 256) (b C V : Bool) : sf (sf (nz (sf p 1 b) v) 64 V) 1 C = sf (sf (nz p v) 64 V) 1 C := by
  have L := fun f hf q hq b => sf_lt f hf q hq b
  rw [sf_comm 64 (by decide) 1 (by decide) (by decide) _ (nz_lt (L _ (by decide) _ hp _) _), arr_flags p v hp, sf_comm 1 (by decide) 64 (by decide) (by decide) _ (nz_lt hp _)]
theorem turned_any (w : World) (a m p x y : Nat) (ha : a < 256) (hm : m < 256) (hp : p < 256) (hR : arrB (a &&& m) p = (x, y)) :
    Calls Try.prog 44 #[opsV a m p] w (Two x y w) := by
  have e1 := u8_and_nat a m ha hm
  have ht : a &&& m < 256 := Nat.lt_of_le_of_lt Nat.and_le_left ha
  obtain ⟨t, ht'⟩ : ∃ t, a &&& m = t := ⟨_, rfl⟩
  rw [ht'] at e1 hR ht
  obtain ⟨v, hv⟩ : ∃ v, downV t (p % 2) = v := ⟨_, rfl⟩
  obtain ⟨f, hf⟩ : ∃ f, downP t (p % 2) p = f := ⟨_, rfl⟩
  obtain ⟨C, hC⟩ : ∃ C, decide (v / 64 % 2 = 1) = C := ⟨_, rfl⟩
  obtain ⟨V, hV⟩ : ∃ V, decide (v / 64 % 2 ≠ v / 32 % 2) = V := ⟨_, rfl⟩
  have hv1 : v < 256 := hv ▸ downV_lt ht (by omega)
  have hf1 : f < 256 := hf ▸ downP_lt hp _ _
  have e2 := guard64 v hv1
  rw [hC] at e2
  have e3 : (bits .and .u8 (v : Int) 64 != bits .and .u8 ((v : Int) * 2 % 256) 64) = V := by
    have a1 := u8_and_nat v 64 hv1 (by omega)
    have a2 := u8_and_nat (v * 2 % 256) 64 (by omega) (by omega)
    rw [and_64 _ (by omega)] at a1 a2
    rw [show ((v : Int) * 2 % 256) = ((v * 2 % 256 : Nat) : Int) by omega, show (64 : Int) = ((64 : Nat) : Int) from rfl, a1, a2, ← hV, bne, Bool.eq_iff_iff]
    simp only [Bool.not_eq_true', beq_eq_false_iff_ne, decide_eq_true_eq]
    omega
  have hfin : x = v ∧ y = sf (sf f 1 C) 64 V := by
    unfold arrB at hR
    rw [hv, hC, hV] at hR
    have h1 := congrArg Prod.fst hR
    have h2 := congrArg Prod.snd hR
    refine ⟨h1.symm, ?_⟩
    rw [← hf, downP, hv, arr_flags p v hp]
    exact h2.symm
  have h1 := sf_lt 1 (by decide) f hf1 C
  have HEND := Lib.hid hfin
  have HB := Lib.hid (Bx.new w a m p 31)
  have HR := Lib.hid (fun W => ror_let W t p v f ht hp hv hf)
  clear hR ht' hv hf hC hV hfin
  go_enter Try.func44, Try.ntmps44
  go_wp2_with fail
  refine (HR.out _).mono ?_
  rintro e w' ⟨rfl, rfl⟩
  go_wp2_with fail
  refine (set_any _ f 1 C hf1 (by decide)).mono ?_
  rintro e w' ⟨rfl, rfl⟩
  go_wp2_with fail
  refine (set_any _ _ 64 V h1 (by decide)).mono ?_
  rintro e w' ⟨rfl, rfl⟩
  go_wp2_with fail
  go_ret2
  exact ⟨by rw [HEND.out.1, HEND.out.2]; rfl, HB.out.bel⟩
set_option maxHeartbeats 1000000 in
theorem decimalTurned_any (w : World) (a m p x y : Nat) (ha : a < 256) (hm : m < 256) (hp : p < 256) (hR : arrD (a &&& m) p = (x, y)) :
    Calls Try.prog 45 #[opsV a m p] w (Two x y w) := by
  have e1 := u8_and_nat a m ha hm
  have ht : a &&& m < 256 := Nat.lt_of_le_of_lt Nat.and_le_left ha
  obtain ⟨t, ht'⟩ : ∃ t, a &&& m = t := ⟨_, rfl⟩
  rw [ht'] at e1 hR ht
  obtain ⟨v, hv⟩ : ∃ v, downV t (p % 2) = v := ⟨_, rfl⟩
  obtain ⟨f, hf⟩ : ∃ f, downP t (p % 2) p = f := ⟨_, rfl⟩
  obtain ⟨V, hV⟩ : ∃ V, decide (t / 64 % 2 ≠ v / 64 % 2) = V := ⟨_, rfl⟩
  obtain ⟨H, hH⟩ : ∃ H, arrH t = H := ⟨_, rfl⟩
  obtain ⟨u, hu⟩ : ∃ u, arrL t v = u := ⟨_, rfl⟩
  have hv1 : v < 256 := hv ▸ downV_lt ht (by omega)
  have hf1 : f < 256 := hf ▸ downP_lt hp _ _
  have hz : t ^^^ v < 2 ^ 8 := Nat.xor_lt_two_pow (by omega) (by omega)
  have e2 := u8_xor_nat t v ht hv1
  have e3 := guard64 (t ^^^ v) (by omega)
  have hb := xor_bit t v 6
  have e4 : decide ((t ^^^ v) / 64 % 2 = 1) = V := by
    rw [← hV, decide_eq_decide]
    rw [show (2 : Nat) ^ 6 = 64 from rfl] at hb
    omega
  rw [e4] at e3
  clear e4 hb
  have hfin : x = (if H then (u + 96) % 256 else u) ∧ y = sf (sf f 64 V) 1 H := by
    unfold arrD at hR
    rw [hv, hV, hH, hu] at hR
    have h1 := congrArg Prod.fst hR
    have h2 := congrArg Prod.snd hR
    refine ⟨h1.symm, ?_⟩
    rw [← hf, downP, hv, arr_flags2 p v hp]
    exact h2.symm
  generalize t ^^^ v = xo at *
  obtain ⟨b0, hb0⟩ : ∃ b, t % 2 = b := ⟨_, rfl⟩
  obtain ⟨t0, ht0⟩ : ∃ b, t % 16 = b := ⟨_, rfl⟩
  obtain ⟨t1, ht1⟩ : ∃ b, t - t % 16 = b := ⟨_, rfl⟩
  obtain ⟨b1, hb1⟩ : ∃ b, t / 16 % 2 * 16 = b := ⟨_, rfl⟩
  obtain ⟨Q, hQ⟩ : ∃ b, t0 + b0 = b := ⟨_, rfl⟩
  obtain ⟨J, hJ⟩ : ∃ b, t1 + b1 = b := ⟨_, rfl⟩
  have e5 := mask1 t ht
  rw [hb0] at e5
  have e6 : bits .and .u8 (t : Int) 16 = (b1 : Int) := by
    have h := u8_and_nat t 16 ht (by omega)
    rw [and_16 t ht, hb1] at h
    exact h
  have E1 := sums t0 b0 Q (by omega) hQ
  have E2 := sums t1 b1 J (by omega) hJ
  have E3 : decide ((80 : Int) < (J : Int)) = H := by
    rw [← hH, arrH, decide_eq_decide]; omega
  have hb0b : b0 < 2 := by omega
  have hb1b : b1 < 17 := by omega
  have hb0c : IntKind.i64.wrap (b0 : Int) = (b0 : Int) := IntWalk.i64_in _ (by omega)
  have hb1c : IntKind.i64.wrap (b1 : Int) = (b1 : Int) := IntWalk.i64_in _ (by omega)
  have hu' : u = if 5 < Q then v - v % 16 + (v % 16 + 6) % 16 else v := by rw [← hu, arrL, ht0, hb0, hQ]
  have hu1 : u < 256 := by rw [hu']; split <;> omega
  have h1 := sf_lt 64 (by decide) f hf1 V
  have E4 : IntKind.u8.wrap ((u : Int) + 96) = ((u + 96) % 256 : Nat) := by rw [IntKind.wrap_u8']; omega
  obtain ⟨r, hr⟩ : ∃ r, (u + 96) % 256 = r := ⟨_, rfl⟩
  rw [hr] at E4 hfin
  have HEND := Lib.hid hfin
  have HB := Lib.hid (Bx.new w a m p 31)
  have HR := Lib.hid (fun W => ror_let W t p v f ht hp hv hf)
  have HU := Lib.hid hu'
  have HT0 := Lib.hid (fun W => digit_any W t ht)
  rw [ht0] at HT0
  have HT1 := Lib.hid (fun W => tens_any W t ht)
  rw [ht1] at HT1
  clear hR ht' hv hf hV hH hu hfin hb0 ht0 ht1 hb1 hQ hJ hu' hr
  go_enter Try.func45, Try.ntmps45
  go_wp2_with fail
  refine (HR.out _).mono ?_
  rintro e w' ⟨rfl, rfl⟩
  go_wp2_with fail
  refine (set_any _ f 64 V hf1 (by decide)).mono ?_
  rintro e w' ⟨rfl, rfl⟩
  go_wp2_with fail
  refine (HT0.out _).mono ?_
  rintro e w' ⟨rfl, rfl⟩
  by_cases hq : 5 < Q
  · have g1 : decide ((5 : Int) < (Q : Int)) = true := by rw [decide_eq_true_eq]; omega
    obtain ⟨v1, hv2⟩ : ∃ b, v - v % 16 = b := ⟨_, rfl⟩
    obtain ⟨n, hn⟩ : ∃ b, (v + 6) % 256 = b := ⟨_, rfl⟩
    obtain ⟨D, hD⟩ : ∃ b, n % 16 = b := ⟨_, rfl⟩
    have hn1 : n < 256 := by omega
    have HV1 := Lib.hid (fun W => tens_any W v hv1)
    rw [hv2] at HV1
    have HD := Lib.hid (fun W => digit_any W n hn1)
    rw [hD] at HD
    have E5 : IntKind.u8.wrap ((v : Int) + 6) = (n : Int) := by rw [IntKind.wrap_u8']; omega
    have E5' : ((v : Int) + 6) % 256 = (n : Int) := by omega
    have E6 := sums v1 D u (by omega) (by rw [HU.out, if_pos hq]; omega)
    have E7 : IntKind.u8.wrap (u : Int) = (u : Int) := by rw [IntKind.wrap_u8']; omega
    clear hv2 hn hD
    go_wp2_with fail
    refine (HV1.out _).mono ?_
    rintro e w' ⟨rfl, rfl⟩
    go_wp2_with fail
    refine (HD.out _).mono ?_
    rintro e w' ⟨rfl, rfl⟩
    go_wp2_with fail
    refine (HT1.out _).mono ?_
    rintro e w' ⟨rfl, rfl⟩
    cases H
    · go_wp2_with fail
      refine (set_any _ _ 1 false h1 (by decide)).mono ?_
      rintro e w' ⟨rfl, rfl⟩
      go_wp2_with fail
      go_ret2
      exact ⟨by rw [HEND.out.1, HEND.out.2]; rfl, HB.out.bel⟩
    · go_wp2_with fail
      refine (set_any _ _ 1 true h1 (by decide)).mono ?_
      rintro e w' ⟨rfl, rfl⟩
      go_wp2_with fail
      go_ret2
      exact ⟨by rw [HEND.out.1, HEND.out.2]; rfl, HB.out.bel⟩
  · have g1 : decide ((5 : Int) < (Q : Int)) = false := by rw [decide_eq_false_iff_not]; omega
    have huv : u = v := by rw [HU.out, if_neg hq]
    subst huv
    go_wp2_with fail
    refine (HT1.out _).mono ?_
    rintro e w' ⟨rfl, rfl⟩
    cases H
    · go_wp2_with fail
      refine (set_any _ _ 1 false h1 (by decide)).mono ?_
      rintro e w' ⟨rfl, rfl⟩
      go_wp2_with fail
      go_ret2
      exact ⟨by rw [HEND.out.1, HEND.out.2]; rfl, HB.out.bel⟩
    · go_wp2_with fail
      refine (set_any _ _ 1 true h1 (by decide)).mono ?_
      rintro e w' ⟨rfl, rfl⟩
      go_wp2_with fail
      go_ret2
      exact ⟨by rw [HEND.out.1, HEND.out.2]; rfl, HB.out.bel⟩
theorem adc_any (w : World) (a m p x y : Nat) (ha : a < 256) (hm : m < 256) (hp : p < 256) (hR : adc a m p = (x, y)) :
    Calls Try.prog 12 #[.int .u8 a, .int .u8 m, .int .u8 p] w (Two x y w) := by
  have HE := Lib.hid (either_sum w a m p x y hp (fun h W => sum_any W a m p x y ha hm hp (by rw [← hR, adc, h]; rfl)) (fun h W => decimalSum_any W a m p x y ha hm hp (by rw [← hR, adc, h]; rfl)))
  clear hR
  go_enter Try.func12, Try.ntmps12
  go_wp2_with fail
  refine (HE.out).mono ?_
  rintro e w' ⟨rfl, hw⟩
  go_wp2_with fail
  go_ret2
  exact ⟨rfl, hw⟩
theorem sbc_any (w : World) (a m p x y : Nat) (ha : a < 256) (hm : m < 256) (hp : p < 256) (hR : sbc a m p = (x, y)) :
    Calls Try.prog 14 #[.int .u8 a, .int .u8 m, .int .u8 p] w (Two x y w) := by
  have HE := Lib.hid (either_dif w a m p x y hp (fun h W => difference_any W a m p x y ha hm hp (by rw [← hR, sbc, h]; rfl)) (fun h W => decimalDifference_any W a m p x y ha hm hp (by rw [← hR, sbc, h]; rfl)))
  clear hR
  go_enter Try.func14, Try.ntmps14
  go_wp2_with fail
  refine (HE.out).mono ?_
  rintro e w' ⟨rfl, hw⟩
  go_wp2_with fail
  go_ret2
  exact ⟨rfl, hw⟩
theorem arr_any (w : World) (a m p x y : Nat) (ha : a < 256) (hm : m < 256) (hp : p < 256) (hR : arr a m p = (x, y)) :
    Calls Try.prog 24 #[.int .u8 a, .int .u8 m, .int .u8 p] w (Two x y w) := by
  have HE := Lib.hid (either_arr w a m p x y hp (fun h W => turned_any W a m p x y ha hm hp (by rw [← hR, arr, h]; rfl)) (fun h W => decimalTurned_any W a m p x y ha hm hp (by rw [← hR, arr, h]; rfl)))
  clear hR
  go_enter Try.func24, Try.ntmps24
  go_wp2_with fail
  refine (HE.out).mono ?_
  rintro e w' ⟨rfl, hw⟩
  go_wp2_with fail
  go_ret2
  exact ⟨rfl, hw⟩
end Go.Proofs.Ytpcfakdddfgkgaa
