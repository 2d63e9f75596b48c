/-
  THE WALK OF keepsakeref13's Sbc.
-/
import Derived.Test.YtpcfakdddfgkgaaARefAdd
namespace Go.Proofs.Ytpcfakdddfgkgaa
open Go.RowKit
set_option maxRecDepth 20000

theorem midS_bound {a m c : Nat} (ha : a < 256) (hm : m < 256) (hc : c < 2) : -300 < midS a m c ∧ midS a m c < 600 := by unfold midS lowS; split <;> omega
theorem refdecS (a m c : Nat) (mid : Int) (ha : a < 256) (hm : m < 256) (hc : c < 2) (hmid : midS a m c = mid) : ∃ (x0 y0 x1 y1 : Nat) (K K1 L l T : Int),
    ((a : Nat) : Int).tmod 16 = (x0 : Int) ∧ ((m : Nat) : Int).tmod 16 = (y0 : Int) ∧ IntKind.i64.wrap ((x0 : Int) - (y0 : Int)) = K ∧ IntKind.i64.wrap (K - 1) = K1 ∧ IntKind.i64.wrap (K1 + (c : Int)) = L
    ∧ IntKind.i64.wrap ((a : Int) - (x0 : Int)) = (x1 : Int) ∧ IntKind.i64.wrap ((m : Int) - (y0 : Int)) = (y1 : Int) ∧ IntKind.i64.wrap ((x1 : Int) - (y1 : Int)) = T ∧ IntKind.i64.wrap (T + l) = mid
    ∧ (l = if L < 0 then (L - 6) % 16 - 16 else L) ∧ x0 < 16 ∧ y0 < 16 ∧ (-20 < L ∧ L < 20) ∧ (-64 < l ∧ l < 64) := by
  have hl : -64 < lowS a m c ∧ lowS a m c < 64 := by unfold lowS; split <;> omega
  have hm1 := midS_bound ha hm hc
  rw [hmid] at hm1
  refine ⟨a % 16, m % 16, a - a % 16, m - m % 16, (a : Int) % 16 - (m : Int) % 16, (a : Int) % 16 - (m : Int) % 16 - 1, (a : Int) % 16 - (m : Int) % 16 - 1 + c, lowS a m c, ((a : Int) - (a : Int) % 16) - ((m : Int) - (m : Int) % 16), rfl, rfl, ?_, ?_, ?_, ?_, ?_, ?_, ?_, rfl, by omega, by omega, by omega, hl⟩
  all_goals rw [IntWalk.i64_in _ (by first | omega | (rw [midS] at hmid; omega))]
  all_goals first | omega | (rw [midS] at hmid; omega)
set_option maxHeartbeats 4000000 in
theorem refSbc_any (w : World) (a m p x y : Nat) (ha : a < 256) (hm : m < 256) (hp : p < 256) (hR : sbc a m p = (x, y)) :
    Calls Try.prog 15 #[.int .u8 a, .int .u8 m, .int .u8 p] w fun e w' => e = .returned (.tuple #[.int .u8 x, .int .u8 y]) ∧ w = w' := by
  obtain ⟨c, hc⟩ : ∃ c, p % 2 = c := ⟨_, rfl⟩
  have hc2 : c < 2 := by omega
  have HO := Lib.hid (refOne_any w p 1 hp (by omega) (by omega))
  rw [Nat.div_one, hc] at HO
  obtain ⟨d, hd⟩ : ∃ d, dec p = d := ⟨_, rfl⟩
  have HD := Lib.hid (refHas_any w p 8 d hp (by omega) (by omega) (by rw [← hd]; rfl))
  have HS := Lib.hid (refSet_any w p 8 false hp (by decide))
  have hp8 := sf_lt 8 (by decide) p hp false
  have h82 : sf p 8 false % 2 = p % 2 := by
    have h := sf_else 8 (by decide) 1 (by decide) (by decide) p hp false
    rw [Nat.div_one, Nat.div_one] at h
    exact h
  have h8d : dec (sf p 8 false) = false := by rw [dec, sf_get 8 (by decide) p hp false]; rfl
  have hpp : dec p = false → sf p 8 false = p := fun h => by rw [← h]; exact sf_same 8 (by decide) p hp
  obtain ⟨n, hn⟩ : ∃ n, 255 - m = n := ⟨_, rfl⟩
  have hn1 : n < 256 := by omega
  have h8s := fun h => set8 p a n (a + n + p % 2) (a + n + p % 2) (decide (256 ≤ a + n + p % 2)) hp h
  obtain ⟨q, hq⟩ : ∃ q, sf p 8 false = q := ⟨_, rfl⟩
  rw [hq] at hp8 h82 h8d hpp HS h8s
  obtain ⟨R, hRR⟩ : ∃ R, adc a n q = R := ⟨_, rfl⟩
  obtain ⟨v, f⟩ := R
  have HA := Lib.hid (refAdc_any w a n q v f ha hn1 hp8 hRR)
  rw [adc, h8d] at hRR
  have hRR : addB a n q = (v, f) := hRR
  have hf1 : f < 256 := by
    rw [show f = (addB a n q).2 from (congrArg Prod.snd hRR).symm]
    exact sf_lt _ (by decide) _ (sf_lt _ (by decide) _ (sf_lt _ (by decide) _ (sf_lt _ (by decide) _ hp8 _) _) _) _
  have e0 : IntKind.i64.wrap (255 - (m : Int)) = (n : Int) := by rw [IntWalk.i64_in _ (by omega)]; omega
  have e0' : IntKind.u8.wrap (n : Int) = (n : Int) := by rw [IntKind.wrap_u8']; omega
  rw [sbc, hd, hn] at hR
  cases d
  · have hR : addB a n p = (x, y) := hR
    rw [hpp hd] at hRR
    have HEND := Lib.hid (show v = x ∧ f = y from ⟨congrArg Prod.fst (hRR.symm.trans hR), congrArg Prod.snd (hRR.symm.trans hR)⟩)
    clear hR hRR hpp hd h8s h8d h82 hq hn hc
    go_enter Try.func15, Try.ntmps15
    go_wp2_with fail
    refine (HS.out).mono ?_
    rintro e w' ⟨rfl, rfl⟩
    go_wp2_with fail
    refine (HA.out).mono ?_
    rintro e w' ⟨rfl, rfl⟩
    go_wp2_with fail
    refine (HD.out).mono ?_
    rintro e w' ⟨rfl, rfl⟩
    go_wp2_with fail
    go_ret2
    exact ⟨by rw [← HEND.out.1, ← HEND.out.2]; rfl, rfl⟩
  · have hR : subD a m p = (x, y) := hR
    obtain ⟨mid, hmid⟩ : ∃ t, midS a m c = t := ⟨_, rfl⟩
    obtain ⟨F, hF⟩ : ∃ t, finS mid = t := ⟨_, rfl⟩
    have hx : (F % 256).toNat = x := by
      have h : (subD a m p).1 = x := congrArg Prod.fst hR
      rw [← h, subD, hc, hmid, hF]
    have hy : sf f 8 true = y := by
      have h := h8s hd
      have h1 : (subD a m p).2 = y := congrArg Prod.snd hR
      have h2 : (addB a n q).2 = f := congrArg Prod.snd hRR
      rw [← h1, ← h2, subD, hn]
      show sf (sf (nvz a n q (a + n + q % 2) (a + n + q % 2)) 1 (decide (256 ≤ a + n + q % 2))) 8 true = _
      rw [h82]
      exact h
    have hmb := hmid ▸ midS_bound ha hm hc2
    have hFb : -400 < F ∧ F < 1000 := by rw [← hF, finS]; split <;> omega
    obtain ⟨k, hk⟩ : ∃ k, (F + 512).toNat = k := ⟨_, rfl⟩
    obtain ⟨r, hr⟩ : ∃ t, k % 256 = t := ⟨_, rfl⟩
    have E5 : IntKind.i64.wrap (F + 512) = (k : Int) := by rw [IntWalk.i64_in _ (by omega)]; omega
    have E6 : ((k : Nat) : Int).tmod 256 = (r : Int) := by rw [Int.tmod_eq_emod_of_nonneg (by omega)]; omega
    have E7 : IntKind.u8.wrap (r : Int) = (r : Int) := by rw [IntKind.wrap_u8']; omega
    have hrb : r < 256 := by omega
    have hkb : k < 2000 := by omega
    have HEND := Lib.hid (show r = x ∧ sf f 8 true = y from ⟨by omega, hy⟩)
    obtain ⟨x0, y0, x1, y1, K, K1, L, l, T, R_x0, R_y0, G1, G2, G3, G4, G5, G6, G7, hl', hx0b, hy0b, hLb, hl1⟩ := refdecS a m c mid ha hm hc2 hmid
    have HL := Lib.hid hl'
    have HF := Lib.hid hF
    clear hR hRR hpp hd h8s h8d h82 hq hn hc hmid hF hx hy hk hr hl'
    by_cases hlo : L < 0
    · obtain ⟨M, hM⟩ : ∃ t, L - 6 = t := ⟨_, rfl⟩
      obtain ⟨M2, hM2⟩ : ∃ t, (M + 32).toNat = t := ⟨_, rfl⟩
      obtain ⟨D, hD⟩ : ∃ t, M2 % 16 = t := ⟨_, rfl⟩
      have g1 : decide (L < 0) = true := by rw [decide_eq_true_eq]; exact hlo
      have E1 : IntKind.i64.wrap (L - 6) = M := by rw [IntWalk.i64_in _ (by omega)]; exact hM
      have E2 : IntKind.i64.wrap (M + 32) = (M2 : Int) := by rw [IntWalk.i64_in _ (by omega)]; omega
      have E3 : ((M2 : Nat) : Int).tmod 16 = (D : Int) := by rw [Int.tmod_eq_emod_of_nonneg (by omega)]; omega
      have E4 : IntKind.i64.wrap ((D : Int) - 16) = l := by
        have h := HL.out
        rw [if_pos hlo] at h
        rw [IntWalk.i64_in _ (by omega)]; omega
      have hM2b : M2 < 100 := by omega
      have hDb : D < 16 := by omega
      clear hM hM2 hD
      by_cases h0 : mid < 0
      · have g2 : decide (mid < 0) = true := by rw [decide_eq_true_eq]; exact h0
        have E8 : IntKind.i64.wrap (mid - 96) = F := by rw [IntWalk.i64_in _ (by omega), ← HF.out, finS, if_pos h0]
        go_enter Try.func15, Try.ntmps15
        go_wp2_with fail
        refine (HS.out).mono ?_
        rintro e w' ⟨rfl, rfl⟩
        go_wp2_with fail
        refine (HA.out).mono ?_
        rintro e w' ⟨rfl, rfl⟩
        go_wp2_with fail
        refine (HD.out).mono ?_
        rintro e w' ⟨rfl, rfl⟩
        go_wp2_with fail
        refine (HO.out).mono ?_
        rintro e w' ⟨rfl, rfl⟩
        go_wp2_with fail
        refine (refSet_any w f 8 true hf1 (by decide)).mono ?_
        rintro e w' ⟨rfl, rfl⟩
        go_wp2_with fail
        go_ret2
        exact ⟨by rw [← HEND.out.1, ← HEND.out.2]; rfl, rfl⟩
      · have g2 : decide (mid < 0) = false := by rw [decide_eq_false_iff_not]; exact h0
        have hFm : F = mid := by rw [← HF.out, finS, if_neg h0]
        subst hFm
        go_enter Try.func15, Try.ntmps15
        go_wp2_with fail
        refine (HS.out).mono ?_
        rintro e w' ⟨rfl, rfl⟩
        go_wp2_with fail
        refine (HA.out).mono ?_
        rintro e w' ⟨rfl, rfl⟩
        go_wp2_with fail
        refine (HD.out).mono ?_
        rintro e w' ⟨rfl, rfl⟩
        go_wp2_with fail
        refine (HO.out).mono ?_
        rintro e w' ⟨rfl, rfl⟩
        go_wp2_with fail
        refine (refSet_any w f 8 true hf1 (by decide)).mono ?_
        rintro e w' ⟨rfl, rfl⟩
        go_wp2_with fail
        go_ret2
        exact ⟨by rw [← HEND.out.1, ← HEND.out.2]; rfl, rfl⟩
    · have g1 : decide (L < 0) = false := by rw [decide_eq_false_iff_not]; exact hlo
      have hLL : l = L := by rw [HL.out, if_neg hlo]
      subst hLL
      by_cases h0 : mid < 0
      · have g2 : decide (mid < 0) = true := by rw [decide_eq_true_eq]; exact h0
        have E8 : IntKind.i64.wrap (mid - 96) = F := by rw [IntWalk.i64_in _ (by omega), ← HF.out, finS, if_pos h0]
        go_enter Try.func15, Try.ntmps15
        go_wp2_with fail
        refine (HS.out).mono ?_
        rintro e w' ⟨rfl, rfl⟩
        go_wp2_with fail
        refine (HA.out).mono ?_
        rintro e w' ⟨rfl, rfl⟩
        go_wp2_with fail
        refine (HD.out).mono ?_
        rintro e w' ⟨rfl, rfl⟩
        go_wp2_with fail
        refine (HO.out).mono ?_
        rintro e w' ⟨rfl, rfl⟩
        go_wp2_with fail
        refine (refSet_any w f 8 true hf1 (by decide)).mono ?_
        rintro e w' ⟨rfl, rfl⟩
        go_wp2_with fail
        go_ret2
        exact ⟨by rw [← HEND.out.1, ← HEND.out.2]; rfl, rfl⟩
      · have g2 : decide (mid < 0) = false := by rw [decide_eq_false_iff_not]; exact h0
        have hFm : F = mid := by rw [← HF.out, finS, if_neg h0]
        subst hFm
        go_enter Try.func15, Try.ntmps15
        go_wp2_with fail
        refine (HS.out).mono ?_
        rintro e w' ⟨rfl, rfl⟩
        go_wp2_with fail
        refine (HA.out).mono ?_
        rintro e w' ⟨rfl, rfl⟩
        go_wp2_with fail
        refine (HD.out).mono ?_
        rintro e w' ⟨rfl, rfl⟩
        go_wp2_with fail
        refine (HO.out).mono ?_
        rintro e w' ⟨rfl, rfl⟩
        go_wp2_with fail
        refine (refSet_any w f 8 true hf1 (by decide)).mono ?_
        rintro e w' ⟨rfl, rfl⟩
        go_wp2_with fail
        go_ret2
        exact ⟨by rw [← HEND.out.1, ← HEND.out.2]; rfl, rfl⟩
end Go.Proofs.Ytpcfakdddfgkgaa
