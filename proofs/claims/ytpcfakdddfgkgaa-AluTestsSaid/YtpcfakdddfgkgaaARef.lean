/-
  THE WALKS OF keepsakeref13.
-/
import Derived.Test.YtpcfakdddfgkgaaASmall
import Derived.Handy
namespace Go.Proofs.Ytpcfakdddfgkgaa
open Go.RowKit
set_option maxRecDepth 20000

theorem refOne_any (w : World) (p f : Nat) (hp : p < 256) (hf : 0 < f) (hf1 : f < 256) :
    Calls Try.prog 37 #[.int .u8 p, .int .i64 f] w fun e w' => e = .returned (.int .i64 (p / f % 2 : Nat)) ∧ w = w' := by
  have hx : p / f ≤ p := Nat.div_le_self _ _
  have e1 : ((p : Nat) : Int).tdiv (f : Int) = ((p / f : Nat) : Int) := rfl
  generalize p / f = X at *
  have e2 : ((X : Nat) : Int).tmod 2 = ((X % 2 : Nat) : Int) := rfl
  have hx2 : X % 2 < 2 := Nat.mod_lt _ (by omega)
  generalize X % 2 = b at *
  have hf0 : (f : Int) ≠ 0 := by omega
  go_enter Try.func37, Try.ntmps37
  go_wp2_with fail
  go_ret
  exact ⟨rfl, rfl⟩
theorem refHas_any (w : World) (p f : Nat) (b : Bool) (hp : p < 256) (hf : 0 < f) (hf1 : f < 256) (hb : decide (p / f % 2 = 1) = b) :
    Calls Try.prog 38 #[.int .u8 p, .int .i64 f] w fun e w' => e = .returned (.bool b) ∧ w = w' := by
  have hx : p / f ≤ p := Nat.div_le_self _ _
  have e1 : ((p : Nat) : Int).tdiv (f : Int) = ((p / f : Nat) : Int) := rfl
  generalize p / f = X at *
  have e2 : ((X : Nat) : Int).tmod 2 = ((X % 2 : Nat) : Int) := rfl
  have hx2 : X % 2 < 2 := Nat.mod_lt _ (by omega)
  generalize X % 2 = c at *
  have e3 : ((c : Int) == 1) = b := by rw [← hb, Bool.eq_iff_iff]; simp; omega
  have hf0 : (f : Int) ≠ 0 := by omega
  clear hb
  go_enter Try.func38, Try.ntmps38
  go_wp2_with fail
  go_ret
  exact ⟨rfl, rfl⟩
theorem refSet_any (w : World) (p f : Nat) (on : Bool) (hp : p < 256) (hf : f ∈ FL) :
    Calls Try.prog 39 #[.int .u8 p, .int .i64 f, .bool on] w fun e w' => e = .returned (.int .u8 (sf p f on : Nat)) ∧ w = w' := by
  obtain ⟨r, hr⟩ : ∃ r, sf p f on = r := ⟨_, rfl⟩
  have hr1 : r < 256 := hr ▸ sf_lt f hf p hp on
  have hfl : 0 < f ∧ f < 256 := (show ∀ f ∈ FL, 0 < f ∧ f < 256 by decide) f hf
  rw [hr]
  unfold sf at hr
  obtain ⟨b, hb⟩ : ∃ b, decide (p / f % 2 = 1) = b := ⟨_, rfl⟩
  have HH := Lib.hid (refHas_any w p f b hp hfl.1 hfl.2 hb)
  obtain ⟨n, hn⟩ : ∃ n, p - p / f % 2 * f = n := ⟨_, rfl⟩
  rw [hn] at hr
  have hn1 : n < 256 := by rw [← hn]; exact Nat.lt_of_le_of_lt (Nat.sub_le _ _) hp
  have e3 : IntKind.u8.wrap (r : Int) = (r : Int) := by rw [IntKind.wrap_u8']; omega
  have e4 : IntKind.i64.wrap (n : Int) = (n : Int) := IntWalk.i64_in _ (by omega)
  cases b
  · have hpn : p = n := by
      have h2 : p / f % 2 < 2 := Nat.mod_lt _ (by omega)
      rw [decide_eq_false_iff_not] at hb
      rw [show p / f % 2 = 0 by omega] at hn
      omega
    subst hpn
    cases on
    · have hrn : p = r := by simpa using hr
      subst hrn
      clear hr hn hb
      go_enter Try.func39, Try.ntmps39
      go_wp2_with fail
      refine (HH.out).mono ?_
      rintro e w' ⟨rfl, rfl⟩
      go_wp2_with fail
      go_ret
      exact ⟨rfl, rfl⟩
    · have e5 : IntKind.i64.wrap ((p : Int) + (f : Int)) = (r : Int) := by
        have h : p + f = r := by simpa using hr
        rw [IntWalk.i64_in _ (by omega)]; omega
      clear hr hn hb
      go_enter Try.func39, Try.ntmps39
      go_wp2_with fail
      refine (HH.out).mono ?_
      rintro e w' ⟨rfl, rfl⟩
      go_wp2_with fail
      go_ret
      exact ⟨rfl, rfl⟩
  · have hpn : f ≤ p ∧ p - f = n := by
      rw [decide_eq_true_eq] at hb
      rw [hb, Nat.one_mul] at hn
      refine ⟨?_, hn⟩
      by_cases h : f ≤ p
      · exact h
      · rw [Nat.div_eq_of_lt (by omega)] at hb; omega
    have e6 : IntKind.i64.wrap ((p : Int) - (f : Int)) = (n : Int) := by rw [IntWalk.i64_in _ (by omega)]; omega
    cases on
    · have hrn : n = r := by simpa using hr
      subst hrn
      clear hr hn hb
      go_enter Try.func39, Try.ntmps39
      go_wp2_with fail
      refine (HH.out).mono ?_
      rintro e w' ⟨rfl, rfl⟩
      go_wp2_with fail
      go_ret
      exact ⟨rfl, rfl⟩
    · have e5 : IntKind.i64.wrap ((n : Int) + (f : Int)) = (r : Int) := by
        have h : n + f = r := by simpa using hr
        rw [IntWalk.i64_in _ (by omega)]; omega
      clear hr hn hb
      go_enter Try.func39, Try.ntmps39
      go_wp2_with fail
      refine (HH.out).mono ?_
      rintro e w' ⟨rfl, rfl⟩
      go_wp2_with fail
      go_ret
      exact ⟨rfl, rfl⟩
theorem refNz_any (w : World) (p v : Nat) (hp : p < 256) (hv : v < 256) :
    Calls Try.prog 29 #[.int .u8 p, .int .u8 v] w fun e w' => e = .returned (.int .u8 (nz p v : Nat)) ∧ w = w' := by
  unfold nz
  obtain ⟨B, hB⟩ : ∃ B, decide (127 < (v : Int)) = B := ⟨_, rfl⟩
  obtain ⟨Z, hZ⟩ : ∃ B, ((v : Int) == 0) = B := ⟨_, rfl⟩
  have hB2 : decide (127 < v) = B := by rw [← hB, decide_eq_decide]; omega
  have hZ2 : decide (v = 0) = Z := by rw [← hZ, Bool.eq_iff_iff]; simp
  rw [hB2, hZ2]
  have h1 := sf_lt 128 (by decide) p hp B
  clear hB2 hZ2
  go_enter Try.func29, Try.ntmps29
  go_wp2_with fail
  refine (refSet_any w p 128 B hp (by decide)).mono ?_
  rintro e w' ⟨rfl, rfl⟩
  go_wp2_with fail
  refine (refSet_any w _ 2 Z h1 (by decide)).mono ?_
  rintro e w' ⟨rfl, rfl⟩
  go_wp2_with fail
  go_ret
  exact ⟨rfl, rfl⟩
theorem refCmp_any (w : World) (r m p : Nat) (hr : r < 256) (hm : m < 256) (hp : p < 256) :
    Calls Try.prog 31 #[.int .u8 r, .int .u8 m, .int .u8 p] w fun e w' => e = .returned (.int .u8 (cmp r m p : Nat)) ∧ w = w' := by
  unfold cmp
  obtain ⟨D, hD⟩ : ∃ D, (r : Int) - m = D := ⟨_, rfl⟩
  obtain ⟨n, hn⟩ : ∃ n, (r + 256 - m) % 256 = n := ⟨_, rfl⟩
  obtain ⟨B, hB⟩ : ∃ B, decide (m ≤ r) = B := ⟨_, rfl⟩
  have hB2 : decide ((m : Int) ≤ (r : Int)) = B := by rw [← hB, decide_eq_decide]; omega
  have E1 : IntKind.i64.wrap ((r : Int) - m) = D := by rw [IntWalk.i64_in _ (by omega)]; exact hD
  have h1 := sf_lt 1 (by decide) p hp B
  have hn1 : n < 256 := by omega
  have HN := Lib.hid (refNz_any w _ n h1 hn1)
  rw [hn, hB]
  by_cases h : D < 0
  · have g1 : decide (D < 0) = true := by rw [decide_eq_true_eq]; exact h
    have E2 : IntKind.i64.wrap (D + 256) = (n : Int) := by rw [IntWalk.i64_in _ (by omega)]; omega
    have E3 : IntKind.u8.wrap (n : Int) = (n : Int) := by rw [IntKind.wrap_u8']; omega
    clear hD hn
    go_enter Try.func31, Try.ntmps31
    go_wp2_with fail
    refine (refSet_any w p 1 B hp (by decide)).mono ?_
    rintro e w' ⟨rfl, rfl⟩
    go_wp2_with fail
    refine (HN.out).mono ?_
    rintro e w' ⟨rfl, rfl⟩
    go_wp2_with fail
    go_ret
    exact ⟨rfl, rfl⟩
  · have g1 : decide (D < 0) = false := by rw [decide_eq_false_iff_not]; exact h
    obtain rfl : D = (n : Int) := by omega
    have E3 : IntKind.u8.wrap (n : Int) = (n : Int) := by rw [IntKind.wrap_u8']; omega
    clear hD hn
    go_enter Try.func31, Try.ntmps31
    go_wp2_with fail
    refine (refSet_any w p 1 B hp (by decide)).mono ?_
    rintro e w' ⟨rfl, rfl⟩
    go_wp2_with fail
    refine (HN.out).mono ?_
    rintro e w' ⟨rfl, rfl⟩
    go_wp2_with fail
    go_ret
    exact ⟨rfl, rfl⟩
theorem refSbx_any (w : World) (x m p : Nat) (hx : x < 256) (hm : m < 256) (hp : p < 256) :
    Calls Try.prog 27 #[.int .u8 x, .int .u8 m, .int .u8 p] w fun e w' => e = .returned (.tuple #[.int .u8 ((x + 256 - m) % 256 : Nat), .int .u8 (cmp x m p : Nat)]) ∧ w = w' := by
  obtain ⟨D, hD⟩ : ∃ D, (x : Int) - m = D := ⟨_, rfl⟩
  obtain ⟨k, hk⟩ : ∃ k, x + 256 - m = k := ⟨_, rfl⟩
  obtain ⟨n, hn⟩ : ∃ n, k % 256 = n := ⟨_, rfl⟩
  have E1 : IntKind.i64.wrap ((x : Int) - m) = D := by rw [IntWalk.i64_in _ (by omega)]; exact hD
  have E2 : IntKind.i64.wrap (D + 256) = (k : Int) := by rw [IntWalk.i64_in _ (by omega)]; omega
  have E3 : ((k : Int)).tmod 256 = (n : Int) := by rw [Int.tmod_eq_emod_of_nonneg (by omega)]; omega
  have hn1 : n < 256 := by omega
  have E4 : IntKind.u8.wrap (n : Int) = (n : Int) := by rw [IntKind.wrap_u8']; omega
  have E5 : IntKind.i64.wrap (n : Int) = (n : Int) := IntWalk.i64_in _ (by omega)
  have hk1 : k < 1000 := by omega
  rw [hk, hn]
  clear hD hk hn
  go_enter Try.func27, Try.ntmps27
  go_wp2_with fail
  refine (refCmp_any w x m p hx hm hp).mono ?_
  rintro e w' ⟨rfl, rfl⟩
  go_wp2_with fail
  go_ret2
  exact ⟨rfl, rfl⟩
theorem sums' (x y z : Nat) (h : z < 1000000) (e : x + y = z) : IntKind.i64.wrap ((x : Int) + (y : Int)) = (z : Int) := by
  rw [IntWalk.i64_in _ (by omega)]; omega
theorem refAsl_any (w : World) (m p : Nat) (hm : m < 256) (hp : p < 256) :
    Calls Try.prog 17 #[.int .u8 m, .int .u8 p] w fun e w' => e = .returned (.tuple #[.int .u8 (upV m 0 : Nat), .int .u8 (upP m 0 p : Nat)]) ∧ w = w' := by
  unfold upP
  obtain ⟨v, hv⟩ : ∃ v, upV m 0 = v := ⟨_, rfl⟩
  have hv1 : v < 256 := hv ▸ upV_lt (by omega)
  have E9 : IntKind.u8.wrap (v : Int) = (v : Int) := by rw [IntKind.wrap_u8']; omega
  rw [hv]
  obtain ⟨B, hB⟩ : ∃ B, decide (127 < (m : Int)) = B := ⟨_, rfl⟩
  have hB2 : decide (127 < m) = B := by rw [← hB, decide_eq_decide]; omega
  rw [hB2]
  obtain ⟨n, hn⟩ : ∃ n, m * 2 = n := ⟨_, rfl⟩
  obtain ⟨k, hk⟩ : ∃ k, n % 256 = k := ⟨_, rfl⟩
  have E1 : IntKind.i64.wrap ((m : Int) * 2) = (n : Int) := by rw [IntWalk.i64_in _ (by omega)]; omega
  have E2 : ((n : Int)).tmod 256 = (k : Int) := by rw [Int.tmod_eq_emod_of_nonneg (by omega)]; omega
  have E2' : (n : Int) % 256 = (k : Int) := by omega
  have hk1 : k < 256 := by omega
  have hn1 : n < 512 := by omega
  obtain rfl : k = v := by rw [← hv, upV]; omega
  have h1 := sf_lt 1 (by decide) p hp B
  have HN := Lib.hid (refNz_any w _ _ h1 hv1)
  clear hB2 hv hn hk
  go_enter Try.func17, Try.ntmps17
  go_wp2_with fail
  refine (refSet_any w p 1 B hp (by decide)).mono ?_
  rintro e w' ⟨rfl, rfl⟩
  go_wp2_with fail
  refine (HN.out).mono ?_
  rintro e w' ⟨rfl, rfl⟩
  go_wp2_with fail
  go_ret2
  exact ⟨rfl, rfl⟩
theorem refLsr_any (w : World) (m p : Nat) (hm : m < 256) (hp : p < 256) :
    Calls Try.prog 19 #[.int .u8 m, .int .u8 p] w fun e w' => e = .returned (.tuple #[.int .u8 (downV m 0 : Nat), .int .u8 (downP m 0 p : Nat)]) ∧ w = w' := by
  unfold downP
  obtain ⟨v, hv⟩ : ∃ v, downV m 0 = v := ⟨_, rfl⟩
  have hv1 : v < 256 := hv ▸ downV_lt hm (by omega)
  have E9 : IntKind.u8.wrap (v : Int) = (v : Int) := by rw [IntKind.wrap_u8']; omega
  rw [hv]
  obtain ⟨B, hB⟩ : ∃ B, decide (m % 2 = 1) = B := ⟨_, rfl⟩
  have hB2 : (((m : Int) % 2) == 1) = B := by rw [← hB, Bool.eq_iff_iff]; simp; omega
  have hB3 : (((m : Int)).tmod 2 == 1) = B := by rw [← hB2, Int.tmod_eq_emod_of_nonneg (by omega)]
  rw [hB]
  have E1 : (m : Int) / 2 = (v : Int) := by rw [← hv, downV]; omega
  have E2 : (m : Int).tdiv 2 = (v : Int) := by rw [Int.tdiv_eq_ediv_of_nonneg (by omega)]; exact E1
  have h1 := sf_lt 1 (by decide) p hp B
  have HN := Lib.hid (refNz_any w _ _ h1 hv1)
  clear hv hB
  go_enter Try.func19, Try.ntmps19
  go_wp2_with fail
  refine (refSet_any w p 1 B hp (by decide)).mono ?_
  rintro e w' ⟨rfl, rfl⟩
  go_wp2_with fail
  refine (HN.out).mono ?_
  rintro e w' ⟨rfl, rfl⟩
  go_wp2_with fail
  go_ret2
  exact ⟨rfl, rfl⟩
theorem refRol_any (w : World) (m p : Nat) (hm : m < 256) (hp : p < 256) :
    Calls Try.prog 21 #[.int .u8 m, .int .u8 p] w fun e w' => e = .returned (.tuple #[.int .u8 (upV m (p % 2) : Nat), .int .u8 (upP m (p % 2) p : Nat)]) ∧ w = w' := by
  unfold upP
  obtain ⟨v, hv⟩ : ∃ v, upV m (p % 2) = v := ⟨_, rfl⟩
  have hv1 : v < 256 := hv ▸ upV_lt (by omega)
  have E9 : IntKind.u8.wrap (v : Int) = (v : Int) := by rw [IntKind.wrap_u8']; omega
  rw [hv]
  obtain ⟨B, hB⟩ : ∃ B, decide (127 < (m : Int)) = B := ⟨_, rfl⟩
  have hB2 : decide (127 < m) = B := by rw [← hB, decide_eq_decide]; omega
  rw [hB2]
  obtain ⟨n, hn⟩ : ∃ n, m * 2 = n := ⟨_, rfl⟩
  obtain ⟨k, hk⟩ : ∃ k, n % 256 = k := ⟨_, rfl⟩
  have E1 : IntKind.i64.wrap ((m : Int) * 2) = (n : Int) := by rw [IntWalk.i64_in _ (by omega)]; omega
  have E2 : ((n : Int)).tmod 256 = (k : Int) := by rw [Int.tmod_eq_emod_of_nonneg (by omega)]; omega
  have E2' : (n : Int) % 256 = (k : Int) := by omega
  have hk1 : k < 256 := by omega
  have hn1 : n < 512 := by omega
  obtain ⟨c, hc⟩ : ∃ c, p % 2 = c := ⟨_, rfl⟩
  have HO := Lib.hid (refOne_any w p 1 hp (by omega) (by omega))
  rw [Nat.div_one, hc] at HO
  have E3 := sums' k c v (by omega) (by rw [← hv, upV, hc, hn, hk])
  clear hc
  have h1 := sf_lt 1 (by decide) p hp B
  have HN := Lib.hid (refNz_any w _ _ h1 hv1)
  clear hB2 hv hn hk
  go_enter Try.func21, Try.ntmps21
  go_wp2_with fail
  refine (HO.out).mono ?_
  rintro e w' ⟨rfl, rfl⟩
  go_wp2_with fail
  refine (refSet_any w p 1 B hp (by decide)).mono ?_
  rintro e w' ⟨rfl, rfl⟩
  go_wp2_with fail
  refine (HN.out).mono ?_
  rintro e w' ⟨rfl, rfl⟩
  go_wp2_with fail
  go_ret2
  exact ⟨rfl, rfl⟩
theorem refRor_any (w : World) (m p : Nat) (hm : m < 256) (hp : p < 256) :
    Calls Try.prog 23 #[.int .u8 m, .int .u8 p] w fun e w' => e = .returned (.tuple #[.int .u8 (downV m (p % 2) : Nat), .int .u8 (downP m (p % 2) p : Nat)]) ∧ w = w' := by
  unfold downP
  obtain ⟨v, hv⟩ : ∃ v, downV m (p % 2) = v := ⟨_, rfl⟩
  have hv1 : v < 256 := hv ▸ downV_lt hm (by omega)
  have E9 : IntKind.u8.wrap (v : Int) = (v : Int) := by rw [IntKind.wrap_u8']; omega
  rw [hv]
  obtain ⟨B, hB⟩ : ∃ B, decide (m % 2 = 1) = B := ⟨_, rfl⟩
  have hB2 : (((m : Int) % 2) == 1) = B := by rw [← hB, Bool.eq_iff_iff]; simp; omega
  have hB3 : (((m : Int)).tmod 2 == 1) = B := by rw [← hB2, Int.tmod_eq_emod_of_nonneg (by omega)]
  rw [hB]
  obtain ⟨c, hc⟩ : ∃ c, p % 2 = c := ⟨_, rfl⟩
  obtain ⟨d, hd⟩ : ∃ d, m / 2 = d := ⟨_, rfl⟩
  obtain ⟨k, hk⟩ : ∃ d, 128 * c = d := ⟨_, rfl⟩
  have HO := Lib.hid (refOne_any w p 1 hp (by omega) (by omega))
  rw [Nat.div_one, hc] at HO
  have E1 : (m : Int) / 2 = (d : Int) := by omega
  have E2 : (m : Int).tdiv 2 = (d : Int) := by rw [Int.tdiv_eq_ediv_of_nonneg (by omega)]; exact E1
  have E3 : IntKind.i64.wrap (128 * (c : Int)) = (k : Int) := by rw [IntWalk.i64_in _ (by omega)]; omega
  have E4 := sums' d k v (by omega) (by rw [← hv, downV, hc, hd, hk])
  have hd1 : d < 128 := by omega
  clear hc hd hk
  have h1 := sf_lt 1 (by decide) p hp B
  have HN := Lib.hid (refNz_any w _ _ h1 hv1)
  clear hv hB
  go_enter Try.func23, Try.ntmps23
  go_wp2_with fail
  refine (HO.out).mono ?_
  rintro e w' ⟨rfl, rfl⟩
  go_wp2_with fail
  refine (refSet_any w p 1 B hp (by decide)).mono ?_
  rintro e w' ⟨rfl, rfl⟩
  go_wp2_with fail
  refine (HN.out).mono ?_
  rintro e w' ⟨rfl, rfl⟩
  go_wp2_with fail
  go_ret2
  exact ⟨rfl, rfl⟩
end Go.Proofs.Ytpcfakdddfgkgaa
