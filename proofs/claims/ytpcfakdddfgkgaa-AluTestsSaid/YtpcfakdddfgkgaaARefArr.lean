/-
  THE WALKS OF keepsakeref13's Bit, Arr.
-/
import Derived.Test.YtpcfakdddfgkgaaARef
namespace Go.Proofs.Ytpcfakdddfgkgaa
open Go.RowKit
set_option maxRecDepth 20000

/-- the lowest k bits of both -/
def andTo (x y k : Nat) : Nat := (x &&& y) % 2 ^ k
theorem andTo_succ (x y k : Nat) : andTo x y (k + 1) = if x / 2 ^ k % 2 = 1 ∧ y / 2 ^ k % 2 = 1 then andTo x y k + 2 ^ k else andTo x y k := by
  unfold andTo
  rw [Nat.mod_pow_succ, and_bit]
  by_cases h1 : x / 2 ^ k % 2 = 1
  · by_cases h2 : y / 2 ^ k % 2 = 1
    · rw [if_pos ⟨h1, h2⟩, h1, h2]; omega
    · rw [if_neg (fun h => h2 h.2), show y / 2 ^ k % 2 = 0 by omega]; simp
  · rw [if_neg (fun h => h1 h.1), show x / 2 ^ k % 2 = 0 by omega]; simp
theorem andTo_end (x y : Nat) (h : x < 256) : andTo x y 8 = x &&& y := by
  unfold andTo
  exact Nat.mod_eq_of_lt (Nat.lt_of_le_of_lt Nat.and_le_left (by simpa using h))
set_option maxRecDepth 100000 in
set_option maxHeartbeats 4000000 in
theorem refBit_any (w : World) (a m p : Nat) (ha : a < 256) (hm : m < 256) (hp : p < 256) :
    Calls Try.prog 33 #[.int .u8 a, .int .u8 m, .int .u8 p] w fun e w' => e = .returned (.int .u8 (bit a m p : Nat)) ∧ w = w' := by
  have HE := Lib.hid (andTo_end a m ha)
  obtain ⟨B, hB⟩ : ∃ B, decide (127 < (m : Int)) = B := ⟨_, rfl⟩
  have hB2 : decide (127 < m) = B := by rw [← hB, decide_eq_decide]; omega
  obtain ⟨q, hq⟩ : ∃ q, m / 64 = q := ⟨_, rfl⟩
  obtain ⟨b, hb⟩ : ∃ b, q % 2 = b := ⟨_, rfl⟩
  obtain ⟨V, hV⟩ : ∃ V, ((b : Int) == 1) = V := ⟨_, rfl⟩
  have hV2 : decide (b = 1) = V := by rw [← hV, Bool.eq_iff_iff]; simp; omega
  have e1 : ((m : Nat) : Int).tdiv 64 = (q : Int) := by rw [Int.tdiv_eq_ediv_of_nonneg (by omega)]; omega
  have e2 : ((q : Nat) : Int).tmod 2 = (b : Int) := by rw [Int.tmod_eq_emod_of_nonneg (by omega)]; omega
  have hq1 : q < 4 := by omega
  have hb1 : b < 2 := by omega
  have h1 := sf_lt 128 (by decide) p hp B
  have h2 := sf_lt 64 (by decide) _ h1 V
  have HEND := Lib.hid (show bit a m p = sf (sf (sf p 128 B) 64 V) 2 (decide (a &&& m = 0)) by unfold bit; rw [hB2, hq, hb, hV2])
  clear hB2 hV2 hq hb
  go_enter Try.func33, Try.ntmps33
  go_wp2_with fail
  refine (refSet_any w p 128 B hp (by decide)).mono ?_
  rintro e w' ⟨rfl, rfl⟩
  go_wp2_with fail
  refine (refSet_any w _ 64 V h1 (by decide)).mono ?_
  rintro e w' ⟨rfl, rfl⟩
  go_wp2_with fail
  clear hB hV e1 e2 hq1 hb1
  go_loop [7, 8] (fun n q => ∃ t : Nat, t ≤ 8 ∧ q = .int .i64 ((2 ^ t : Nat) : Int) ∧ n = .bool (decide (andTo a m t = 0))) (fun _ q => 256 - (intOf q).toNat)
  case atStart => exact ⟨0, Nat.zero_le _, rfl, by simp [andTo, Nat.mod_one]⟩
  case round =>
    obtain ⟨t, ht, rfl, rfl⟩ := hrel
    by_cases hlt : t < 8
    · have hS := andTo_succ a m t
      have hn : andTo a m t < 256 := by
        have h1 : andTo a m t < 2 ^ t := Nat.mod_lt _ (Nat.two_pow_pos t)
        have h2 : 2 ^ t ≤ 2 ^ 7 := Nat.pow_le_pow_right (by omega) (by omega)
        omega
      have hP := Nat.two_pow_pos t
      have hP7 : 2 ^ t ≤ 128 := Nat.pow_le_pow_right (n := 2) (by omega) (show t ≤ 7 by omega)
      have HP2 := Lib.hid (show 2 ^ (t + 1) = 2 * 2 ^ t by rw [Nat.pow_succ]; omega)
      generalize 2 ^ t = P at *
      generalize andTo a m t = N at *
      have hxq : a / P ≤ a := Nat.div_le_self _ _
      have hyq : m / P ≤ m := Nat.div_le_self _ _
      have hxt : ((a : Nat) : Int).tdiv (P : Int) = ((a / P : Nat) : Int) := rfl
      have hyt : ((m : Nat) : Int).tdiv (P : Int) = ((m / P : Nat) : Int) := rfl
      generalize a / P = X at *
      generalize m / P = Y at *
      have hXm : ((X : Nat) : Int).tmod 2 = ((X % 2 : Nat) : Int) := rfl
      have hYm : ((Y : Nat) : Int).tmod 2 = ((Y % 2 : Nat) : Int) := rfl
      have hX2 : X % 2 < 2 := Nat.mod_lt _ (by omega)
      have hY2 : Y % 2 < 2 := Nat.mod_lt _ (by omega)
      generalize X % 2 = bx at *
      generalize Y % 2 = yb at *
      have hP0 : (P : Int) ≠ 0 := by omega
      have hg : decide ((P : Int) < 256) = true := by rw [decide_eq_true_eq]; omega
      by_cases hb1 : bx = 1
      · have hc1 : ((bx : Nat) : Int) = 1 := by omega
        by_cases hb2 : yb = 1
        · have hc2 : ((yb : Nat) : Int) = 1 := by omega
          rw [if_pos ⟨hb1, hb2⟩] at hS
          have HS := Lib.hid hS
          clear hS
          go_wp2_with fail
          go_round
          case rel => exact ⟨t + 1, by omega, congrArg (Value.int .i64) (by rw [HP2.out]; omega), congrArg Value.bool (by rw [HS.out]; symm; rw [decide_eq_false_iff_not]; omega)⟩
          case measure => simp [intOf]; omega
        · have hc2 : ((yb : Nat) : Int) ≠ 1 := by omega
          rw [if_neg (fun h => hb2 h.2)] at hS
          have HS := Lib.hid hS
          clear hS
          go_wp2_with fail
          go_round
          case rel => exact ⟨t + 1, by omega, congrArg (Value.int .i64) (by rw [HP2.out]; omega), congrArg Value.bool (by rw [HS.out])⟩
          case measure => simp [intOf]; omega
      · have hc1 : ((bx : Nat) : Int) ≠ 1 := by omega
        rw [if_neg (fun h => hb1 h.1)] at hS
        have HS := Lib.hid hS
        clear hS
        go_wp2_with fail
        go_round
        case rel => exact ⟨t + 1, by omega, congrArg (Value.int .i64) (by rw [HP2.out]; omega), congrArg Value.bool (by rw [HS.out])⟩
        case measure => simp [intOf]; omega
    · obtain rfl : t = 8 := by omega
      go_wp2_with fail
      refine (refSet_any w _ 2 _ h2 (by decide)).mono ?_
      rintro e w' ⟨rfl, rfl⟩
      go_wp2_with fail
      go_ret
      exact ⟨by rw [HEND.out, ← HE.out]; rfl, rfl⟩
theorem refRor_let (w : World) (m p v f : Nat) (hm : m < 256) (hp : p < 256) (hv : downV m (p % 2) = v) (hf : downP m (p % 2) p = f) :
    Calls Try.prog 23 #[.int .u8 m, .int .u8 p] w fun e w' => e = .returned (.tuple #[.int .u8 v, .int .u8 f]) ∧ w = w' := by
  subst hv hf; exact refRor_any w m p hm hp
theorem arrB_lets (v : Nat) (hv : v < 256) : ∃ (q1 b1 q2 b2 : Nat) (C V : Bool), ((v : Nat) : Int).tdiv 64 = (q1 : Int) ∧ ((q1 : Nat) : Int).tmod 2 = (b1 : Int) ∧ ((v : Nat) : Int).tdiv 32 = (q2 : Int) ∧ ((q2 : Nat) : Int).tmod 2 = (b2 : Int)
    ∧ ((b1 : Int) == 1) = C ∧ ((b1 : Int) != (b2 : Int)) = V ∧ q1 < 8 ∧ b1 < 2 ∧ q2 < 8 ∧ b2 < 2 ∧ decide (v / 64 % 2 = 1) = C ∧ decide (v / 64 % 2 ≠ v / 32 % 2) = V := by
  refine ⟨v / 64, v / 64 % 2, v / 32, v / 32 % 2, _, _, rfl, rfl, rfl, rfl, rfl, rfl, by omega, by omega, by omega, by omega, ?_, ?_⟩
  · rw [Bool.eq_iff_iff]; simp only [decide_eq_true_eq, beq_iff_eq]; omega
  · rw [Bool.eq_iff_iff]; simp only [decide_eq_true_eq, bne_iff_ne]; omega
theorem arrD_lets (t v u : Nat) (ht : t < 256) (hv : v < 256) (hu : arrL t v = u) : ∃ (q3 b3 q1 b1 t0 tb J : Nat) (V : Bool), ((t : Nat) : Int).tdiv 64 = (q3 : Int) ∧ ((q3 : Nat) : Int).tmod 2 = (b3 : Int) ∧ ((v : Nat) : Int).tdiv 64 = (q1 : Int) ∧ ((q1 : Nat) : Int).tmod 2 = (b1 : Int)
    ∧ ((b3 : Int) != (b1 : Int)) = V ∧ ((t : Nat) : Int).tmod 16 = (t0 : Int) ∧ ((t : Nat) : Int).tmod 2 = (tb : Int) ∧ IntKind.i64.wrap ((t0 : Int) + (tb : Int)) = (J : Int)
    ∧ q3 < 8 ∧ b3 < 2 ∧ q1 < 8 ∧ b1 < 2 ∧ t0 < 16 ∧ tb < 2 ∧ J < 100 ∧ decide (t / 64 % 2 ≠ v / 64 % 2) = V ∧ (u = if 5 < J then v - v % 16 + (v % 16 + 6) % 16 else v) ∧ u < 256 := by
  refine ⟨t / 64, t / 64 % 2, v / 64, v / 64 % 2, t % 16, t % 2, t % 16 + t % 2, _, rfl, rfl, rfl, rfl, rfl, rfl, rfl, sums' _ _ _ (by omega) rfl, by omega, by omega, by omega, by omega, by omega, by omega, by omega, ?_, ?_, ?_⟩
  · rw [Bool.eq_iff_iff]; simp only [decide_eq_true_eq, bne_iff_ne]; omega
  · rw [← hu]; rfl
  · rw [← hu, arrL]; split <;> omega
theorem arrL_lets (v : Nat) (hv : v < 256) : ∃ (v0 v1 k D : Nat), ((v : Nat) : Int).tmod 16 = (v0 : Int) ∧ IntKind.i64.wrap ((v : Int) - (v0 : Int)) = (v1 : Int) ∧ IntKind.i64.wrap ((v0 : Int) + 6) = (k : Int) ∧ ((k : Nat) : Int).tmod 16 = (D : Int)
    ∧ IntKind.i64.wrap ((v1 : Int) + (D : Int)) = ((v - v % 16 + (v % 16 + 6) % 16 : Nat) : Int) ∧ v0 < 16 ∧ k < 30 ∧ D < 16 ∧ v1 < 256 := by
  refine ⟨v % 16, v - v % 16, v % 16 + 6, (v % 16 + 6) % 16, rfl, ?_, ?_, rfl, sums' _ _ _ (by omega) rfl, by omega, by omega, by omega, by omega⟩
  · rw [IntWalk.i64_in _ (by omega)]; omega
  · rw [IntWalk.i64_in _ (by omega)]; omega
theorem arrH_lets (t t0 u : Nat) (H : Bool) (ht : t < 256) (hu : u < 256) (h0 : ((t : Nat) : Int).tmod 16 = (t0 : Int)) (hH : arrH t = H) : ∃ (t1 t2 t3 t4 t5 k r : Nat), IntKind.i64.wrap ((t : Int) - (t0 : Int)) = (t1 : Int) ∧ ((t : Nat) : Int).tdiv 16 = (t2 : Int) ∧ ((t2 : Nat) : Int).tmod 2 = (t3 : Int)
    ∧ IntKind.i64.wrap (16 * (t3 : Int)) = (t4 : Int) ∧ IntKind.i64.wrap ((t1 : Int) + (t4 : Int)) = (t5 : Int) ∧ decide (80 < (t5 : Int)) = H ∧ IntKind.i64.wrap ((u : Int) + 96) = (k : Int) ∧ ((k : Nat) : Int).tmod 256 = (r : Int) ∧ IntKind.u8.wrap (r : Int) = (r : Int) ∧ IntKind.u8.wrap (u : Int) = (u : Int)
    ∧ t1 < 256 ∧ t2 < 16 ∧ t3 < 2 ∧ t5 < 300 ∧ k < 400 ∧ r < 256 ∧ (u + 96) % 256 = r := by
  have h0' : t0 = t % 16 := by rw [Int.tmod_eq_emod_of_nonneg (by omega)] at h0; omega
  subst h0'
  refine ⟨t - t % 16, t / 16, t / 16 % 2, 16 * (t / 16 % 2), t - t % 16 + 16 * (t / 16 % 2), u + 96, (u + 96) % 256, ?_, rfl, rfl, ?_, sums' _ _ _ (by omega) rfl, ?_, ?_, rfl, ?_, ?_, by omega, by omega, by omega, by omega, by omega, by omega, rfl⟩
  · rw [IntWalk.i64_in _ (by omega)]; omega
  · rw [IntWalk.i64_in _ (by omega)]; omega
  · rw [← hH, arrH, decide_eq_decide]; omega
  · rw [IntWalk.i64_in _ (by omega)]; omega
  · rw [IntKind.wrap_u8']; omega
  · rw [IntKind.wrap_u8']; omega
set_option maxRecDepth 100000 in
set_option maxHeartbeats 8000000 in
theorem refArr_any (w : World) (a m p x y : Nat) (ha : a < 256) (hm : m < 256) (hp : p < 256) (hR : arr a m p = (x, y)) :
    Calls Try.prog 25 #[.int .u8 a, .int .u8 m, .int .u8 p] w fun e w' => e = .returned (.tuple #[.int .u8 x, .int .u8 y]) ∧ w = w' := by
  have HE := Lib.hid (andTo_end a m ha)
  have ht : a &&& m < 256 := Nat.lt_of_le_of_lt Nat.and_le_left ha
  obtain ⟨t0', ht0⟩ : ∃ t, a &&& m = t := ⟨_, rfl⟩
  rw [arr, ht0] at hR
  rw [ht0] at HE ht
  obtain ⟨v, hv⟩ : ∃ v, downV t0' (p % 2) = v := ⟨_, rfl⟩
  obtain ⟨f, hf⟩ : ∃ f, downP t0' (p % 2) p = f := ⟨_, rfl⟩
  have hv1 : v < 256 := hv ▸ downV_lt ht (by omega)
  have HR := Lib.hid (refRor_let w t0' p v f ht hp hv hf)
  obtain ⟨d, hd⟩ : ∃ d, dec p = d := ⟨_, rfl⟩
  have HD := Lib.hid (refHas_any w p 8 d hp (by omega) (by omega) (by rw [← hd]; rfl))
  rw [hd] at hR
  have HHR := Lib.hid hR
  have HV := Lib.hid hv
  clear hR hd hv hf ht0
  have HT := Lib.hid ht
  have et : IntKind.u8.wrap (t0' : Int) = (t0' : Int) := by rw [IntKind.wrap_u8']; omega
  have HET := Lib.hid et
  clear ht et
  go_enter Try.func25, Try.ntmps25
  go_wp2_with fail
  go_loop [8, 9] (fun n q => ∃ t : Nat, t ≤ 8 ∧ q = .int .i64 ((2 ^ t : Nat) : Int) ∧ n = .int .i64 ((andTo a m t : Nat) : Int)) (fun _ q => 256 - (intOf q).toNat)
  case atStart => exact ⟨0, Nat.zero_le _, rfl, by simp [andTo, Nat.mod_one]⟩
  case round =>
    obtain ⟨t, ht, rfl, rfl⟩ := hrel
    by_cases hlt : t < 8
    · have hS := andTo_succ a m t
      have hn : andTo a m t < 256 := by
        have h1 : andTo a m t < 2 ^ t := Nat.mod_lt _ (Nat.two_pow_pos t)
        have h2 : 2 ^ t ≤ 2 ^ 7 := Nat.pow_le_pow_right (by omega) (by omega)
        omega
      have hP := Nat.two_pow_pos t
      have hP7 : 2 ^ t ≤ 128 := Nat.pow_le_pow_right (n := 2) (by omega) (show t ≤ 7 by omega)
      have HP2 := Lib.hid (show 2 ^ (t + 1) = 2 * 2 ^ t by rw [Nat.pow_succ]; omega)
      generalize 2 ^ t = P at *
      generalize andTo a m t = N at *
      have hxq : a / P ≤ a := Nat.div_le_self _ _
      have hyq : m / P ≤ m := Nat.div_le_self _ _
      have hxt : ((a : Nat) : Int).tdiv (P : Int) = ((a / P : Nat) : Int) := rfl
      have hyt : ((m : Nat) : Int).tdiv (P : Int) = ((m / P : Nat) : Int) := rfl
      generalize a / P = X at *
      generalize m / P = Y at *
      have hXm : ((X : Nat) : Int).tmod 2 = ((X % 2 : Nat) : Int) := rfl
      have hYm : ((Y : Nat) : Int).tmod 2 = ((Y % 2 : Nat) : Int) := rfl
      have hX2 : X % 2 < 2 := Nat.mod_lt _ (by omega)
      have hY2 : Y % 2 < 2 := Nat.mod_lt _ (by omega)
      generalize X % 2 = bx at *
      generalize Y % 2 = yb at *
      have hP0 : (P : Int) ≠ 0 := by omega
      have hg : decide ((P : Int) < 256) = true := by rw [decide_eq_true_eq]; omega
      by_cases hb1 : bx = 1
      · have hc1 : ((bx : Nat) : Int) = 1 := by omega
        by_cases hb2 : yb = 1
        · have hc2 : ((yb : Nat) : Int) = 1 := by omega
          rw [if_pos ⟨hb1, hb2⟩] at hS
          have HS := Lib.hid hS
          clear hS
          go_wp2_with fail
          go_round
          case rel => exact ⟨t + 1, by omega, congrArg (Value.int .i64) (by rw [HP2.out]; omega), congrArg (Value.int .i64) (by rw [HS.out]; omega)⟩
          case measure => simp [intOf]; omega
        · have hc2 : ((yb : Nat) : Int) ≠ 1 := by omega
          rw [if_neg (fun h => hb2 h.2)] at hS
          have HS := Lib.hid hS
          clear hS
          go_wp2_with fail
          go_round
          case rel => exact ⟨t + 1, by omega, congrArg (Value.int .i64) (by rw [HP2.out]; omega), congrArg (Value.int .i64) (by rw [HS.out])⟩
          case measure => simp [intOf]; omega
      · have hc1 : ((bx : Nat) : Int) ≠ 1 := by omega
        rw [if_neg (fun h => hb1 h.1)] at hS
        have HS := Lib.hid hS
        clear hS
        go_wp2_with fail
        go_round
        case rel => exact ⟨t + 1, by omega, congrArg (Value.int .i64) (by rw [HP2.out]; omega), congrArg (Value.int .i64) (by rw [HS.out])⟩
        case measure => simp [intOf]; omega
    · obtain rfl : t = 8 := by omega
      rw [HE.out]
      have ht := HT.out
      have et := HET.out
      go_wp2_with fail
      refine (HR.out).mono ?_
      rintro e w' ⟨rfl, rfl⟩
      clear et
      go_wp2_with fail
      refine (HD.out).mono ?_
      rintro e w' ⟨rfl, rfl⟩
      go_wp2_with fail
      refine (refNz_any w p v hp hv1).mono ?_
      rintro e w' ⟨rfl, rfl⟩
      have h1 := nz_lt hp v
      cases d
      · obtain ⟨q1, b1, q2, b2, C, V, e1, e2, e3, e4, e5, e6, l1, l2, l3, l4, f1, f2⟩ := arrB_lets v hv1
        have h2 := sf_lt 1 (by decide) _ h1 C
        have HEND := Lib.hid (show v = x ∧ sf (sf (nz p v) 1 C) 64 V = y by
          have h := HHR.out
          have h : arrB t0' p = (x, y) := h
          rw [arrB, HV.out, f1, f2] at h
          exact ⟨congrArg Prod.fst h, congrArg Prod.snd h⟩)
        clear f1 f2
        go_wp2_with fail
        refine (refSet_any w _ 1 C h1 (by decide)).mono ?_
        rintro e w' ⟨rfl, rfl⟩
        go_wp2_with fail
        refine (refSet_any w _ 64 V h2 (by decide)).mono ?_
        rintro e w' ⟨rfl, rfl⟩
        go_wp2_with fail
        go_ret2
        exact ⟨by rw [← HEND.out.1, ← HEND.out.2]; rfl, rfl⟩
      · obtain ⟨u, hu⟩ : ∃ u, arrL t0' v = u := ⟨_, rfl⟩
        obtain ⟨H, hH⟩ : ∃ u, arrH t0' = u := ⟨_, rfl⟩
        obtain ⟨q3, b3, q1, b1, z0, zb, J, V, e1, e2, e3, e4, e5, e6, e7, e8, l1, l2, l3, l4, l5, l6, l7, f1, hul, hu1⟩ := arrD_lets t0' v u ht hv1 hu
        obtain ⟨t1, t2, t3, t4, t5, k, r, g1, g2, g3, g4, g5, g6, g7, g8, g9, g10, m1, m2, m3, m4, m5, m6, hr⟩ := arrH_lets t0' z0 u H ht hu1 e6 hH
        have h2 := sf_lt 64 (by decide) _ h1 V
        have HEND := Lib.hid (show (if H then r else u) = x ∧ sf (sf (nz p v) 64 V) 1 H = y by
          have h := HHR.out
          have h : arrD t0' p = (x, y) := h
          rw [arrD, HV.out, hH, hu, f1, hr] at h
          exact ⟨congrArg Prod.fst h, congrArg Prod.snd h⟩)
        have HUL := Lib.hid hul
        clear f1 hr hH hu hul
        have HG := Lib.hid (And.intro g1 (And.intro g2 (And.intro g3 (And.intro g4 (And.intro g5 (And.intro g6 (And.intro g7 (And.intro g8 (And.intro g9 g10)))))))))
        have HM := Lib.hid (And.intro m1 (And.intro m2 (And.intro m3 (And.intro m4 (And.intro m5 m6)))))
        clear g1 g2 g3 g4 g5 g6 g7 g8 g9 g10 m1 m2 m3 m4 m5 m6
        go_wp2_with fail
        refine (refSet_any w _ 64 V h1 (by decide)).mono ?_
        rintro e w' ⟨rfl, rfl⟩
        clear e1 e2 e3 e4 e5 l1 l2 l3 l4 h1
        obtain ⟨g1, g2, g3, g4, g5, g6, g7, g8, g9, g10⟩ := HG.out
        obtain ⟨m1, m2, m3, m4, m5, m6⟩ := HM.out
        by_cases hJ : 5 < J
        · obtain ⟨v0, v1, k6, D, n1, n2, n3, n4, n5, o1, o2, o3, o4⟩ := arrL_lets v hv1
          have hue : u = v - v % 16 + (v % 16 + 6) % 16 := by rw [HUL.out, if_pos hJ]
          rw [← hue] at n5
          clear hue
          have gJ : decide ((5 : Int) < (J : Int)) = true := by rw [decide_eq_true_eq]; omega
          cases H
          · go_wp2_with fail
            refine (refSet_any w _ 1 false h2 (by decide)).mono ?_
            rintro e w' ⟨rfl, rfl⟩
            go_wp2_with fail
            go_ret2
            exact ⟨by rw [← HEND.out.1, ← HEND.out.2]; rfl, rfl⟩
          · go_wp2_with fail
            refine (refSet_any w _ 1 true h2 (by decide)).mono ?_
            rintro e w' ⟨rfl, rfl⟩
            go_wp2_with fail
            go_ret2
            exact ⟨by rw [← HEND.out.1, ← HEND.out.2]; rfl, rfl⟩
        · have huv : u = v := by rw [HUL.out, if_neg hJ]
          have gJ : decide ((5 : Int) < (J : Int)) = false := by rw [decide_eq_false_iff_not]; omega
          subst huv
          cases H
          · go_wp2_with fail
            refine (refSet_any w _ 1 false h2 (by decide)).mono ?_
            rintro e w' ⟨rfl, rfl⟩
            go_wp2_with fail
            go_ret2
            exact ⟨by rw [← HEND.out.1, ← HEND.out.2]; rfl, rfl⟩
          · go_wp2_with fail
            refine (refSet_any w _ 1 true h2 (by decide)).mono ?_
            rintro e w' ⟨rfl, rfl⟩
            go_wp2_with fail
            go_ret2
            exact ⟨by rw [← HEND.out.1, ← HEND.out.2]; rfl, rfl⟩
end Go.Proofs.Ytpcfakdddfgkgaa
