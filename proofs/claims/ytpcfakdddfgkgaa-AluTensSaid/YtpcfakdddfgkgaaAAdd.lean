/-
  THE WALKS OF operands' METHODS.
-/
import Derived.Test.YtpcfakdddfgkgaaASmall
import Derived.Deep.QuietTactic
import Derived.Deep.RegionHeld3
import Derived.BigQuiet
import Derived.Handy
namespace Go.Proofs.Ytpcfakdddfgkgaa
open Go.RowKit
set_option maxRecDepth 20000

abbrev opsV (a m p : Nat) : Value := .agg #[.int .u8 a, .int .u8 m, .int .u8 p]
/-- operands in their box -/
structure Bx (w W : World) (a m p : Nat) : Prop where
  c0 : W.cell? ⟨w.heap.size, 0, none⟩ = some (.int .u8 a)
  c1 : W.cell? ⟨w.heap.size, 1, none⟩ = some (.int .u8 m)
  c2 : W.cell? ⟨w.heap.size, 2, none⟩ = some (.int .u8 p)
  lt : w.heap.size < W.heap.size
  bel : Below w.heap.size w W
theorem Bx.new (w : World) (a m p : Nat) (t : TypeId) : Bx w (w.alloc (.cells #[.int .u8 a, .int .u8 m, .int .u8 p] t)) a m p := by
  refine ⟨?_, ?_, ?_, ?_, (Below.refl _ _).alloc (Nat.le_refl _) _⟩ <;> simp [go_sem]
theorem Bx.next {w W W' : World} {a m p : Nat} (h : Bx w W a m p) (hb : Below W.heap.size W W') : Bx w W' a m p :=
  ⟨(hb.cell (p := ⟨w.heap.size, 0, none⟩) h.lt).trans h.c0, (hb.cell (p := ⟨w.heap.size, 1, none⟩) h.lt).trans h.c1, (hb.cell (p := ⟨w.heap.size, 2, none⟩) h.lt).trans h.c2,
    Nat.lt_of_lt_of_le h.lt hb.size, h.bel.trans (hb.mono (Nat.le_of_lt h.lt))⟩
theorem carry_any (w : World) (a m p : Nat) (hp : p < 256) :
    Calls Try.prog 50 #[opsV a m p] w fun e w' => e = .returned (.int .i64 (p % 2 : Nat)) ∧ Below w.heap.size w w' := by
  have e1 := mask1 p hp
  have HB := Lib.hid (Bx.new w a m p 31)
  go_enter Try.func50, Try.ntmps50
  go_wp2_with fail
  go_ret
  exact ⟨rfl, HB.out.bel⟩
theorem carry_in (W : World) (q : Regrown) (a m p c : Nat) (hp : p < 256) (hc : p % 2 = c) : Calls Try.prog 50 #[opsV a m p] (In W q) fun e w'' => e = .returned (.int .i64 c) ∧ ∃ r : Regrown, w'' = In W r := by
  subst hc
  apply Calls.regrown_of
  exact (carry_any _ a m p hp).mono fun _ _ h => ⟨h.1, h.2⟩
theorem digit_in (W : World) (q : Regrown) (v x : Nat) (hv : v < 256) (hx : v % 16 = x) : Calls Try.prog 49 #[.int .u8 v] (In W q) fun e w'' => e = .returned (.int .i64 x) ∧ ∃ r : Regrown, w'' = In W r :=
  (digit_any _ v hv).mono fun _ _ h => ⟨hx ▸ h.1, q, h.2.symm⟩
theorem tens_in (W : World) (q : Regrown) (v x : Nat) (hv : v < 256) (hx : v - v % 16 = x) : Calls Try.prog 51 #[.int .u8 v] (In W q) fun e w'' => e = .returned (.int .i64 x) ∧ ∃ r : Regrown, w'' = In W r :=
  (tens_any _ v hv).mono fun _ _ h => ⟨hx ▸ h.1, q, h.2.symm⟩
local macro "quietly " "(" t:tactic ")" : tactic => `(tactic|
  (refine wp_region_quiet_below (by kernel_rfl) (by kernel_rfl) ?_
   repeat (go_big_quiet_step ($t:tactic))
   refine wpQuiet_nil ?_))
theorem sums (x y z : Nat) (h : z < 1000000) (e : x + y = z) : IntKind.i64.wrap ((x : Int) + (y : Int)) = (z : Int) := by
  rw [IntWalk.i64_in _ (by omega)]; omega
theorem together_any (w : World) (a m p s : Nat) (ha : a < 256) (hm : m < 256) (hp : p < 256) (hs : a + m + p % 2 = s) :
    Calls Try.prog 47 #[opsV a m p] w fun e w' => e = .returned (.int .i64 s) ∧ Below w.heap.size w w' := by
  have HB := Lib.hid (Bx.new w a m p 31)
  obtain ⟨c, hc⟩ : ∃ c, p % 2 = c := ⟨_, rfl⟩
  rw [hc] at hs
  obtain ⟨k, hk⟩ : ∃ k, a + m = k := ⟨_, rfl⟩
  have e1 := sums a m k (by omega) hk
  have e2 := sums k c s (by omega) (by omega)
  have HC := Lib.hid hc
  clear hs hk hc
  go_enter Try.func47, Try.ntmps47
  go_wp2_with fail
  generalize w.alloc (.cells #[.int .u8 a, .int .u8 m, .int .u8 p] 31) = W at *
  have r0 := fun d os => cell_regrown HB.out.c0 d os
  have r1 := fun d os => cell_regrown HB.out.c1 d os
  have r2 := fun d os => cell_regrown HB.out.c2 d os
  quietly (refine carry_in W _ a m p c hp HC.out)
  rintro w' ⟨q, rfl⟩
  go_wp2_with fail
  go_ret
  exact ⟨rfl, (HB.out.next (in_below W q)).bel⟩
theorem overflows_any (w : World) (a m p s : Nat) (V : Bool) (ha : a < 256) (hm : m < 256) (hs : s < 256) (hV : (decide (a / 128 = m / 128) && decide (a / 128 ≠ s / 128 % 2)) = V) :
    Calls Try.prog 48 #[opsV a m p, .int .u8 s] w fun e w' => e = .returned (.bool V) ∧ Below w.heap.size w w' := by
  subst hV
  have HB := Lib.hid (Bx.new w a m p 31)
  have hx : a ^^^ s < 2 ^ 8 := Nat.xor_lt_two_pow (by omega) (by omega)
  have hy : m ^^^ s < 2 ^ 8 := Nat.xor_lt_two_pow (by omega) (by omega)
  have hz : (a ^^^ s) &&& (m ^^^ s) < 2 ^ 8 := Nat.and_lt_two_pow _ (by omega)
  have e1 := u8_xor_nat a s ha hs
  have e2 := u8_xor_nat m s hm hs
  have e3 := u8_and_nat (a ^^^ s) (m ^^^ s) (by omega) (by omega)
  have e4 := guard128 ((a ^^^ s) &&& (m ^^^ s)) (by omega)
  have h1 := xor_bit a s 7
  have h2 := xor_bit m s 7
  have h3 := and_bit (a ^^^ s) (m ^^^ s) 7
  have H5 := Lib.hid (show decide (127 < (a ^^^ s) &&& (m ^^^ s)) = (decide (a / 128 = m / 128) && decide (a / 128 ≠ s / 128 % 2)) by
    rw [Bool.eq_iff_iff]
    simp only [Bool.and_eq_true, decide_eq_true_eq]
    generalize (a ^^^ s) &&& (m ^^^ s) = z at *
    generalize a ^^^ s = x at *
    generalize m ^^^ s = y at *
    simp only [show (2 : Nat) ^ 7 = 128 from rfl] at h1 h2 h3
    have hx1 : x / 128 % 2 = 0 ∨ x / 128 % 2 = 1 := by omega
    have hy1 : y / 128 % 2 = 0 ∨ y / 128 % 2 = 1 := by omega
    rcases hx1 with hx1 | hx1 <;> rcases hy1 with hy1 | hy1 <;> rw [hx1, hy1] at h3 <;> omega)
  generalize (a ^^^ s) &&& (m ^^^ s) = z at *
  generalize a ^^^ s = x at *
  generalize m ^^^ s = y at *
  clear h1 h2 h3
  go_enter Try.func48, Try.ntmps48
  go_wp2_with fail
  go_ret
  exact ⟨by rw [← H5.out]; rfl, HB.out.bel⟩
/-- two bytes are told -/
def Two (x y : Nat) (w : World) (e : Ending) (w' : World) : Prop := e = .returned (.tuple #[.int .u8 x, .int .u8 y]) ∧ Below w.heap.size w w'
theorem addB_flags (a m p s : Nat) (hp : p < 256) (hs : a + m + p % 2 = s) :
    nz (sf (sf p 1 (decide (255 < s))) 64 (decide (a / 128 = m / 128) && decide (a / 128 ≠ (s % 256) / 128 % 2))) (s % 256) = (addB a m p).2 := by
  unfold addB nvz nz
  rw [hs]
  have h1 : decide (256 ≤ s) = decide (255 < s) := by rw [Bool.eq_iff_iff]; simp; omega
  have h2 : s % 256 / 128 % 2 = s / 128 % 2 := by omega
  have h3 : decide (127 < s % 256) = decide (s / 128 % 2 = 1) := by rw [Bool.eq_iff_iff]; simp; omega
  rw [h1, h2, h3]
  generalize (decide (a / 128 = m / 128) && decide (a / 128 ≠ s / 128 % 2)) = V
  generalize decide (s / 128 % 2 = 1) = S
  generalize decide (s % 256 = 0) = Z
  generalize decide (255 < s) = C
  have L := fun f hf q hq b => sf_lt f hf q hq b
  rw [sf_comm 1 (by decide) 64 (by decide) (by decide) p hp C V, sf_comm 1 (by decide) 128 (by decide) (by decide) _ (L _ (by decide) _ hp _),
    sf_comm 1 (by decide) 2 (by decide) (by decide) _ (L _ (by decide) _ (L _ (by decide) _ hp _) _), sf_comm 64 (by decide) 128 (by decide) (by decide) p hp V S]
theorem sum_any (w : World) (a m p x y : Nat) (ha : a < 256) (hm : m < 256) (hp : p < 256) (hR : addB a m p = (x, y)) :
    Calls Try.prog 35 #[opsV a m p] w (Two x y w) := by
  obtain ⟨s, hs⟩ : ∃ s, a + m + p % 2 = s := ⟨_, rfl⟩
  obtain ⟨v, hv⟩ : ∃ v, s % 256 = v := ⟨_, rfl⟩
  have HF := Lib.hid (addB_flags a m p s hp hs)
  have HV := Lib.hid (show (addB a m p).1 = v by unfold addB; rw [hs, hv])
  rw [hv, hR] at HF
  rw [hR] at HV
  have HB := Lib.hid (Bx.new w a m p 31)
  have hv1 : v < 256 := by omega
  have e1 : IntKind.u8.wrap (s : Int) = (v : Int) := by rw [IntKind.wrap_u8']; omega
  have e2 : (s : Int) % 256 = (v : Int) := by omega
  have HS := Lib.hid hs
  obtain ⟨C, hC⟩ : ∃ C, decide (255 < (s : Int)) = C := ⟨_, rfl⟩
  have hC2 : decide (255 < s) = C := by rw [← hC, decide_eq_decide]; omega
  rw [hC2] at HF
  obtain ⟨V, hV⟩ : ∃ V, (decide (a / 128 = m / 128) && decide (a / 128 ≠ v / 128 % 2)) = V := ⟨_, rfl⟩
  rw [hV] at HF
  have HV2 := Lib.hid hV
  have h1 := sf_lt 1 (by decide) p hp C
  have h2 := sf_lt 64 (by decide) _ h1 V
  clear hs hv hR hC2 hV
  go_enter Try.func35, Try.ntmps35
  go_wp2_with fail
  refine (together_any _ a m p s ha hm hp HS.out).mono ?_
  rintro e w1 ⟨rfl, hw⟩
  replace HB := Lib.hid (HB.out.next hw)
  clear hw
  obtain ⟨c0, c1, c2, _, _⟩ := HB.out
  go_wp2_with fail
  refine (set_any w1 p 1 C hp (by decide)).mono ?_
  rintro e w' ⟨rfl, rfl⟩
  go_wp2_with fail
  refine (overflows_any _ a m p v V ha hm hv1 HV2.out).mono ?_
  rintro e w2 ⟨rfl, hw⟩
  replace HB := Lib.hid (HB.out.next hw)
  clear hw c0 c1 c2
  go_wp2_with fail
  refine (set_any w2 _ 64 V h1 (by decide)).mono ?_
  rintro e w' ⟨rfl, rfl⟩
  go_wp2_with fail
  refine (nz_any w2 _ v h2 hv1).mono ?_
  rintro e w' ⟨rfl, rfl⟩
  go_wp2_with fail
  go_ret2
  refine ⟨?_, HB.out.bel⟩
  rw [HV.out, ← HF.out]
  rfl
theorem difference_any (w : World) (a m p x y : Nat) (ha : a < 256) (hm : m < 256) (hp : p < 256) (hR : addB a (255 - m) p = (x, y)) :
    Calls Try.prog 40 #[opsV a m p] w (Two x y w) := by
  obtain ⟨n, hn⟩ : ∃ n, 255 - m = n := ⟨_, rfl⟩
  rw [hn] at hR
  have e1 : 255 - (m : Int) = (n : Int) := by omega
  have hn1 : n < 256 := by omega
  have HB := Lib.hid (Bx.new w a m p 31)
  have HR := Lib.hid hR
  clear hn hR
  go_enter Try.func40, Try.ntmps40
  go_wp2_with fail
  refine (sum_any _ a n p x y ha hn1 hp HR.out).mono ?_
  rintro e w1 ⟨rfl, hw⟩
  replace HB := Lib.hid (HB.out.next hw)
  clear hw
  go_wp2_with fail
  go_ret2
  exact ⟨rfl, HB.out.bel⟩
theorem either_sum (w : World) (a m p x y : Nat) (hp : p < 256) (hf : dec p = false → ∀ W, Calls Try.prog 35 #[opsV a m p] W (Two x y W)) (hg : dec p = true → ∀ W, Calls Try.prog 36 #[opsV a m p] W (Two x y W)) :
    Calls Try.prog 34 #[opsV a m p, .func (Fn.func 35) #[] #[], .func (Fn.func 36) #[] #[]] w (Two x y w) := by
  have HB := Lib.hid (Bx.new w a m p 31)
  have e1 := guard8 p hp
  have HF := Lib.hid hf
  have HG := Lib.hid hg
  clear hf hg
  go_enter Try.func34, Try.ntmps34
  cases hd : dec p
  · rw [hd] at e1
    have HF := Lib.hid (HF.out hd)
    go_wp2_with fail
    refine (HF.out _).mono ?_
    rintro e w1 ⟨rfl, hw⟩
    replace HB := Lib.hid (HB.out.next hw)
    clear hw
    go_wp2_with fail
    go_ret2
    exact ⟨rfl, HB.out.bel⟩
  · rw [hd] at e1
    have HG := Lib.hid (HG.out hd)
    go_wp2_with fail
    refine (HG.out _).mono ?_
    rintro e w1 ⟨rfl, hw⟩
    replace HB := Lib.hid (HB.out.next hw)
    clear hw
    go_wp2_with fail
    go_ret2
    exact ⟨rfl, HB.out.bel⟩
theorem either_dif (w : World) (a m p x y : Nat) (hp : p < 256) (hf : dec p = false → ∀ W, Calls Try.prog 40 #[opsV a m p] W (Two x y W)) (hg : dec p = true → ∀ W, Calls Try.prog 41 #[opsV a m p] W (Two x y W)) :
    Calls Try.prog 34 #[opsV a m p, .func (Fn.func 40) #[] #[], .func (Fn.func 41) #[] #[]] w (Two x y w) := by
  have HB := Lib.hid (Bx.new w a m p 31)
  have e1 := guard8 p hp
  have HF := Lib.hid hf
  have HG := Lib.hid hg
  clear hf hg
  go_enter Try.func34, Try.ntmps34
  cases hd : dec p
  · rw [hd] at e1
    have HF := Lib.hid (HF.out hd)
    go_wp2_with fail
    refine (HF.out _).mono ?_
    rintro e w1 ⟨rfl, hw⟩
    replace HB := Lib.hid (HB.out.next hw)
    clear hw
    go_wp2_with fail
    go_ret2
    exact ⟨rfl, HB.out.bel⟩
  · rw [hd] at e1
    have HG := Lib.hid (HG.out hd)
    go_wp2_with fail
    refine (HG.out _).mono ?_
    rintro e w1 ⟨rfl, hw⟩
    replace HB := Lib.hid (HB.out.next hw)
    clear hw
    go_wp2_with fail
    go_ret2
    exact ⟨rfl, HB.out.bel⟩
theorem either_arr (w : World) (a m p x y : Nat) (hp : p < 256) (hf : dec p = false → ∀ W, Calls Try.prog 44 #[opsV a m p] W (Two x y W)) (hg : dec p = true → ∀ W, Calls Try.prog 45 #[opsV a m p] W (Two x y W)) :
    Calls Try.prog 34 #[opsV a m p, .func (Fn.func 44) #[] #[], .func (Fn.func 45) #[] #[]] w (Two x y w) := by
  have HB := Lib.hid (Bx.new w a m p 31)
  have e1 := guard8 p hp
  have HF := Lib.hid hf
  have HG := Lib.hid hg
  clear hf hg
  go_enter Try.func34, Try.ntmps34
  cases hd : dec p
  · rw [hd] at e1
    have HF := Lib.hid (HF.out hd)
    go_wp2_with fail
    refine (HF.out _).mono ?_
    rintro e w1 ⟨rfl, hw⟩
    replace HB := Lib.hid (HB.out.next hw)
    clear hw
    go_wp2_with fail
    go_ret2
    exact ⟨rfl, HB.out.bel⟩
  · rw [hd] at e1
    have HG := Lib.hid (HG.out hd)
    go_wp2_with fail
    refine (HG.out _).mono ?_
    rintro e w1 ⟨rfl, hw⟩
    replace HB := Lib.hid (HB.out.next hw)
    clear hw
    go_wp2_with fail
    go_ret2
    exact ⟨rfl, HB.out.bel⟩
theorem addD_flags (a m p mid s F : Nat) (hp : p < 256) (hs : a + m + p % 2 = s) (hm : midA a m (p % 2) = mid) (hF : fin mid = F) :
    sf (sf (sf (nz p (mid % 256)) 2 (decide (s % 256 = 0))) 64 (decide (a / 128 = m / 128) && decide (a / 128 ≠ (mid % 256) / 128 % 2))) 1 (decide (255 < F)) = (addD a m p).2 := by
  unfold addD nvz nz
  rw [hs, hm, hF]
  have h1 : decide (256 ≤ F) = decide (255 < F) := by rw [Bool.eq_iff_iff]; simp; omega
  have h2 : mid % 256 / 128 % 2 = mid / 128 % 2 := by omega
  have h3 : decide (127 < mid % 256) = decide (mid / 128 % 2 = 1) := by rw [Bool.eq_iff_iff]; simp; omega
  rw [h1, h2, h3]
  generalize (decide (a / 128 = m / 128) && decide (a / 128 ≠ mid / 128 % 2)) = V
  generalize decide (mid / 128 % 2 = 1) = S
  generalize decide (s % 256 = 0) = Z
  generalize decide (255 < F) = C
  have L := fun f hf q hq b => sf_lt f hf q hq b
  rw [sf_two 2 (by decide) _ (L _ (by decide) _ hp _), sf_comm 2 (by decide) 64 (by decide) (by decide) _ (L _ (by decide) _ hp _)]
set_option maxHeartbeats 1000000 in
theorem decimalSum_any (w : World) (a m p x y : Nat) (ha : a < 256) (hm : m < 256) (hp : p < 256) (hR : addD a m p = (x, y)) :
    Calls Try.prog 36 #[opsV a m p] w (Two x y w) := by
  obtain ⟨s, hs⟩ : ∃ s, a + m + p % 2 = s := ⟨_, rfl⟩
  obtain ⟨mid, hmid⟩ : ∃ d, midA a m (p % 2) = d := ⟨_, rfl⟩
  obtain ⟨F, hF⟩ : ∃ F, fin mid = F := ⟨_, rfl⟩
  have hfl := addD_flags a m p mid s F hp hs hmid hF
  have hval : (addD a m p).1 = F % 256 := by unfold addD; rw [hmid, hF]
  rw [hR] at hfl hval
  have HB := Lib.hid (Bx.new w a m p 31)
  obtain ⟨c, hc⟩ : ∃ c, p % 2 = c := ⟨_, rfl⟩
  obtain ⟨x0, hx0⟩ : ∃ t, a % 16 = t := ⟨_, rfl⟩
  obtain ⟨y0, hy0⟩ : ∃ t, m % 16 = t := ⟨_, rfl⟩
  obtain ⟨x1, hx1⟩ : ∃ t, a - x0 = t := ⟨_, rfl⟩
  obtain ⟨y1, hy1⟩ : ∃ t, m - y0 = t := ⟨_, rfl⟩
  obtain ⟨K, hK⟩ : ∃ t, x0 + y0 = t := ⟨_, rfl⟩
  obtain ⟨L, hL⟩ : ∃ t, K + c = t := ⟨_, rfl⟩
  obtain ⟨T, hT⟩ : ∃ t, x1 + y1 = t := ⟨_, rfl⟩
  obtain ⟨l, hl⟩ : ∃ t, lowA a m (p % 2) = t := ⟨_, rfl⟩
  have hl' : l = if 10 ≤ L then (L + 6) % 16 + 16 else L := by rw [← hl, lowA, hx0, hy0, hK, hc, hL]
  have hmid' : mid = T + l := by rw [← hmid, midA, hl, hx0, hy0, hx1, hy1, hT]
  have hlo : L < 32 := by omega
  have hl2 : l < 64 := by rw [hl']; split <;> omega
  have hFb : F < 1000 := by rw [← hF, fin]; split <;> omega
  obtain ⟨v, hv⟩ : ∃ t, mid % 256 = t := ⟨_, rfl⟩
  obtain ⟨r, hr⟩ : ∃ t, F % 256 = t := ⟨_, rfl⟩
  obtain ⟨z, hz⟩ : ∃ t, s % 256 = t := ⟨_, rfl⟩
  obtain ⟨V, hV⟩ : ∃ V, (decide (a / 128 = m / 128) && decide (a / 128 ≠ v / 128 % 2)) = V := ⟨_, rfl⟩
  obtain ⟨Z, hZ⟩ : ∃ V, decide (z = 0) = V := ⟨_, rfl⟩
  obtain ⟨C, hC⟩ : ∃ V, decide (255 < F) = V := ⟨_, rfl⟩
  rw [hv, hV, hz, hZ, hC] at hfl
  have hv1 : v < 256 := by omega
  have h1 := nz_lt hp v
  have h2 := sf_lt 2 (by decide) _ h1 Z
  have h3 := sf_lt 64 (by decide) _ h2 V
  have E1 := sums x0 y0 K (by omega) hK
  have E2 := sums K c L (by omega) hL
  have E3 := sums x1 y1 T (by omega) hT
  have E4 := sums T l mid (by omega) hmid'.symm
  have E5 : IntKind.u8.wrap (mid : Int) = (v : Int) := by rw [IntKind.wrap_u8']; omega
  have E6 : IntKind.u8.wrap (F : Int) = (r : Int) := by rw [IntKind.wrap_u8']; omega
  have E7 : IntKind.u8.wrap (s : Int) = (z : Int) := by rw [IntKind.wrap_u8']; omega
  have E8 : ((z : Int) == 0) = Z := by rw [← hZ, Bool.eq_iff_iff]; simp
  have E9 : decide (255 < (F : Int)) = C := by rw [← hC, decide_eq_decide]; omega
  have HX0 := Lib.hid hx0
  have HY0 := Lib.hid hy0
  have HX1 := Lib.hid (show a - a % 16 = x1 by rw [hx0, hx1])
  have HY1 := Lib.hid (show m - m % 16 = y1 by rw [hy0, hy1])
  have HC := Lib.hid hc
  have HS := Lib.hid hs
  have HV := Lib.hid hV
  have HEND := Lib.hid (show r = x ∧ sf (sf (sf (nz p v) 2 Z) 64 V) 1 C = y from ⟨by rw [← hr]; exact hval.symm, hfl⟩)
  have HL := Lib.hid hl'
  have HFF := Lib.hid hF
  clear hs hmid hfl hval hR hc hx0 hy0 hx1 hy1 hK hL hT hl hl' hmid' hv hr hz hV hZ hC hF
  go_enter Try.func36, Try.ntmps36
  go_wp2_with fail
  generalize w.alloc (.cells #[.int .u8 a, .int .u8 m, .int .u8 p] 31) = W at *
  have r0 := fun d os => cell_regrown HB.out.c0 d os
  have r1 := fun d os => cell_regrown HB.out.c1 d os
  have r2 := fun d os => cell_regrown HB.out.c2 d os
  quietly (first | refine digit_in W _ a x0 ha HX0.out | refine digit_in W _ m y0 hm HY0.out | refine carry_in W _ a m p c hp HC.out)
  rintro W1 ⟨q, hq⟩
  replace HB := Lib.hid (show Bx w W1 a m p by rw [hq]; exact HB.out.next (in_below W q))
  clear r0 r1 r2 hq
  by_cases hlo6 : 10 ≤ L
  · obtain ⟨M, hM⟩ : ∃ t, L + 6 = t := ⟨_, rfl⟩
    obtain ⟨D, hD⟩ : ∃ t, M % 16 = t := ⟨_, rfl⟩
    have g1 : decide ((10 : Int) ≤ (L : Int)) = true := by rw [decide_eq_true_eq]; omega
    have E10 := sums L 6 M (by omega) hM
    rw [show ((6 : Nat) : Int) = 6 from rfl] at E10
    have E11 : IntKind.u8.wrap (M : Int) = (M : Int) := by rw [IntKind.wrap_u8']; omega
    have E12 := sums D 16 l (by omega) (by rw [HL.out, if_pos hlo6, hM, hD])
    rw [show ((16 : Nat) : Int) = 16 from rfl] at E12
    have hM1 : M < 256 := by omega
    have HD := Lib.hid (digit_any W1 M hM1)
    rw [hD] at HD
    clear hM hD
    go_wp2_with fail
    refine (HD.out).mono ?_
    rintro e w' ⟨rfl, rfl⟩
    go_wp2_with fail
    have r0 := fun d os => cell_regrown HB.out.c0 d os
    have r1 := fun d os => cell_regrown HB.out.c1 d os
    have r2 := fun d os => cell_regrown HB.out.c2 d os
    quietly (first | refine tens_in W1 _ a x1 ha HX1.out | refine tens_in W1 _ m y1 hm HY1.out)
    rintro W2 ⟨q2, hq2⟩
    replace HB := Lib.hid (show Bx w W2 a m p by rw [hq2]; exact HB.out.next (in_below W1 q2))
    clear r0 r1 r2 hq2
    obtain ⟨c0, c1, c2, _, _⟩ := HB.out
    go_wp2_with fail
    refine (nz_any W2 p v hp hv1).mono ?_
    rintro e w' ⟨rfl, rfl⟩
    go_wp2_with fail
    refine (together_any W2 a m p s ha hm hp HS.out).mono ?_
    rintro e w3 ⟨rfl, hw⟩
    replace HB := Lib.hid (HB.out.next hw)
    clear hw c0 c1 c2
    obtain ⟨c0, c1, c2, _, _⟩ := HB.out
    go_wp2_with fail
    refine (set_any w3 _ 2 Z h1 (by decide)).mono ?_
    rintro e w' ⟨rfl, rfl⟩
    go_wp2_with fail
    refine (overflows_any w3 a m p v V ha hm hv1 HV.out).mono ?_
    rintro e w4 ⟨rfl, hw⟩
    replace HB := Lib.hid (HB.out.next hw)
    clear hw c0 c1 c2
    go_wp2_with fail
    refine (set_any w4 _ 64 V h2 (by decide)).mono ?_
    rintro e w' ⟨rfl, rfl⟩
    by_cases h160 : 160 ≤ mid
    · have g2 : decide ((160 : Int) ≤ (mid : Int)) = true := by rw [decide_eq_true_eq]; omega
      have E13 := sums mid 96 F (by omega) (by rw [← HFF.out, fin, if_pos h160])
      rw [show ((96 : Nat) : Int) = 96 from rfl] at E13
      go_wp2_with fail
      refine (set_any w4 _ 1 C h3 (by decide)).mono ?_
      rintro e w' ⟨rfl, rfl⟩
      go_wp2_with fail
      go_ret2
      exact ⟨by rw [← HEND.out.1, ← HEND.out.2]; rfl, HB.out.bel⟩
    · have g2 : decide ((160 : Int) ≤ (mid : Int)) = false := by rw [decide_eq_false_iff_not]; omega
      have hFm : F = mid := by rw [← HFF.out, fin, if_neg h160]
      subst hFm
      go_wp2_with fail
      refine (set_any w4 _ 1 C h3 (by decide)).mono ?_
      rintro e w' ⟨rfl, rfl⟩
      go_wp2_with fail
      go_ret2
      exact ⟨by rw [← HEND.out.1, ← HEND.out.2]; rfl, HB.out.bel⟩
  · have hLL : l = L := by rw [HL.out, if_neg hlo6]
    have g1 : decide ((10 : Int) ≤ (L : Int)) = false := by rw [decide_eq_false_iff_not]; omega
    subst hLL
    go_wp2_with fail
    have r0 := fun d os => cell_regrown HB.out.c0 d os
    have r1 := fun d os => cell_regrown HB.out.c1 d os
    have r2 := fun d os => cell_regrown HB.out.c2 d os
    quietly (first | refine tens_in W1 _ a x1 ha HX1.out | refine tens_in W1 _ m y1 hm HY1.out)
    rintro W2 ⟨q2, hq2⟩
    replace HB := Lib.hid (show Bx w W2 a m p by rw [hq2]; exact HB.out.next (in_below W1 q2))
    clear r0 r1 r2 hq2
    obtain ⟨c0, c1, c2, _, _⟩ := HB.out
    go_wp2_with fail
    refine (nz_any W2 p v hp hv1).mono ?_
    rintro e w' ⟨rfl, rfl⟩
    go_wp2_with fail
    refine (together_any W2 a m p s ha hm hp HS.out).mono ?_
    rintro e w3 ⟨rfl, hw⟩
    replace HB := Lib.hid (HB.out.next hw)
    clear hw c0 c1 c2
    obtain ⟨c0, c1, c2, _, _⟩ := HB.out
    go_wp2_with fail
    refine (set_any w3 _ 2 Z h1 (by decide)).mono ?_
    rintro e w' ⟨rfl, rfl⟩
    go_wp2_with fail
    refine (overflows_any w3 a m p v V ha hm hv1 HV.out).mono ?_
    rintro e w4 ⟨rfl, hw⟩
    replace HB := Lib.hid (HB.out.next hw)
    clear hw c0 c1 c2
    go_wp2_with fail
    refine (set_any w4 _ 64 V h2 (by decide)).mono ?_
    rintro e w' ⟨rfl, rfl⟩
    by_cases h160 : 160 ≤ mid
    · have g2 : decide ((160 : Int) ≤ (mid : Int)) = true := by rw [decide_eq_true_eq]; omega
      have E13 := sums mid 96 F (by omega) (by rw [← HFF.out, fin, if_pos h160])
      rw [show ((96 : Nat) : Int) = 96 from rfl] at E13
      go_wp2_with fail
      refine (set_any w4 _ 1 C h3 (by decide)).mono ?_
      rintro e w' ⟨rfl, rfl⟩
      go_wp2_with fail
      go_ret2
      exact ⟨by rw [← HEND.out.1, ← HEND.out.2]; rfl, HB.out.bel⟩
    · have g2 : decide ((160 : Int) ≤ (mid : Int)) = false := by rw [decide_eq_false_iff_not]; omega
      have hFm : F = mid := by rw [← HFF.out, fin, if_neg h160]
      subst hFm
      go_wp2_with fail
      refine (set_any w4 _ 1 C h3 (by decide)).mono ?_
      rintro e w' ⟨rfl, rfl⟩
      go_wp2_with fail
      go_ret2
      exact ⟨by rw [← HEND.out.1, ← HEND.out.2]; rfl, HB.out.bel⟩
end Go.Proofs.Ytpcfakdddfgkgaa
