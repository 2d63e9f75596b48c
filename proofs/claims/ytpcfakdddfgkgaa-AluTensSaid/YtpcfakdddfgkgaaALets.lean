/-
  THE LAWS' VALUES, EACH WITH ITS LETTER.
-/
import Derived.Test.YtpcfakdddfgkgaaALaw
import Derived.Test.YtpcfakdddfgkgaaAVals
namespace Go.Proofs.Ytpcfakdddfgkgaa
open Go.RowKit
set_option maxRecDepth 20000

theorem rol_let (w : World) (m p v f : Nat) (hm : m < 256) (hp : p < 256) (hv : upV m (p % 2) = v) (hf : upP m (p % 2) p = f) :
    Calls Try.prog 20 #[.int .u8 m, .int .u8 p] w fun e w' => e = .returned (.tuple #[.int .u8 v, .int .u8 f]) ∧ w = w' := by
  subst hv hf; exact rol_any w m p hm hp
theorem asl_let (w : World) (m p v f : Nat) (hm : m < 256) (hp : p < 256) (hv : upV m 0 = v) (hf : upP m 0 p = f) :
    Calls Try.prog 16 #[.int .u8 m, .int .u8 p] w fun e w' => e = .returned (.tuple #[.int .u8 v, .int .u8 f]) ∧ w = w' := by
  subst hv hf; exact asl_any w m p hm hp
theorem lsr_let (w : World) (m p v f : Nat) (hm : m < 256) (hp : p < 256) (hv : downV m 0 = v) (hf : downP m 0 p = f) :
    Calls Try.prog 18 #[.int .u8 m, .int .u8 p] w fun e w' => e = .returned (.tuple #[.int .u8 v, .int .u8 f]) ∧ w = w' := by
  subst hv hf; exact lsr_any w m p hm hp
theorem sbx_let (w : World) (x m p v f : Nat) (hx : x < 256) (hm : m < 256) (hp : p < 256) (hv : (x + 256 - m) % 256 = v) (hf : cmp x m p = f) :
    Calls Try.prog 26 #[.int .u8 x, .int .u8 m, .int .u8 p] w fun e w' => e = .returned (.tuple #[.int .u8 v, .int .u8 f]) ∧ w = w' := by
  subst hv hf; exact sbx_any w x m p hx hm hp
theorem cmp_let (w : World) (r m p f : Nat) (hr : r < 256) (hm : m < 256) (hp : p < 256) (hf : cmp r m p = f) :
    Calls Try.prog 30 #[.int .u8 r, .int .u8 m, .int .u8 p] w fun e w' => e = .returned (.int .u8 f) ∧ w = w' := by
  subst hf; exact cmp_any w r m p hr hm hp
theorem bit_let (w : World) (a m p f : Nat) (ha : a < 256) (hm : m < 256) (hp : p < 256) (hf : bit a m p = f) :
    Calls Try.prog 32 #[.int .u8 a, .int .u8 m, .int .u8 p] w fun e w' => e = .returned (.int .u8 f) ∧ w = w' := by
  subst hf; exact bit_any w a m p ha hm hp
theorem nz_let (w : World) (p v f : Nat) (hp : p < 256) (hv : v < 256) (hf : nz p v = f) :
    Calls Try.prog 28 #[.int .u8 p, .int .u8 v] w fun e w' => e = .returned (.int .u8 f) ∧ w = w' := by
  subst hf; exact nz_any w p v hp hv
theorem andL (x k r : Nat) (hx : x < 256) (hk : k < 256) (h : x &&& k = r) : bits .and .u8 (x : Int) (k : Int) = (r : Int) := by rw [u8_and_nat x k hx hk, h]
theorem clear8 (p : Nat) (hp : p < 256) : bits .andNot .u8 (p : Int) 8 = ((sf p 8 false : Nat) : Int) := by
  have h := u8_andNot_nat p 8 hp (by omega)
  rw [sf_not 8 (by decide) p hp] at h
  exact h
theorem raise8 (p : Nat) (hp : p < 256) : bits .or .u8 (p : Int) 8 = ((sf p 8 true : Nat) : Int) := by
  have h := u8_or_nat p 8 hp (by omega)
  rw [sf_or 8 (by decide) p hp] at h
  exact h
theorem raise1 (p : Nat) (hp : p < 256) : bits .or .u8 (p : Int) 1 = ((sf p 1 true : Nat) : Int) := by
  have h := u8_or_nat p 1 hp (by omega)
  rw [sf_or 1 (by decide) p hp] at h
  exact h
theorem clear8_dec (p : Nat) (hp : p < 256) : dec (sf p 8 false) = false := by rw [dec, sf_get 8 (by decide) p hp false]; rfl
theorem raise8_dec (p : Nat) (hp : p < 256) : dec (sf p 8 true) = true := by rw [dec, sf_get 8 (by decide) p hp true]; rfl
theorem adc_B (a m q : Nat) (h : dec q = false) : adc a m q = addB a m q := by rw [adc, h]; rfl
theorem adc_D (a m q : Nat) (h : dec q = true) : adc a m q = addD a m q := by rw [adc, h]; rfl
theorem sbc_B (a m q : Nat) (h : dec q = false) : sbc a m q = addB a (255 - m) q := by rw [sbc, h]; rfl
theorem sbc_D (a m q : Nat) (h : dec q = true) : sbc a m q = subD a m q := by rw [sbc, h]; rfl

theorem carries_lets (a m p : Nat) (ha : a < 256) (hm : m < 256) (hp : p < 256) : ∃ (q c x f y g k S K F6 fc gc : Nat) (B B6 D E C1 : Int),
    q < 256 ∧ adc a m q = (x, f) ∧ sbc a m q = (y, g)
    ∧ bits .andNot .u8 (p : Int) 8 = (q : Int) ∧ bits .and .u8 (q : Int) 1 = (c : Int) ∧ bits .and .u8 (f : Int) 1 = (fc : Int) ∧ bits .and .u8 (g : Int) 1 = (gc : Int)
    ∧ IntKind.i64.wrap (256 * (fc : Int)) = (F6 : Int) ∧ IntKind.i64.wrap ((x : Int) + (F6 : Int)) = (S : Int) ∧ IntKind.i64.wrap ((a : Int) + (m : Int)) = (K : Int) ∧ IntKind.i64.wrap ((K : Int) + (c : Int)) = (S : Int)
    ∧ IntKind.i64.wrap (1 - (gc : Int)) = B ∧ IntKind.i64.wrap (256 * B) = B6 ∧ IntKind.i64.wrap ((y : Int) - B6) = D ∧ IntKind.i64.wrap ((a : Int) - (m : Int)) = E ∧ IntKind.i64.wrap (1 - (c : Int)) = C1 ∧ IntKind.i64.wrap (E - C1) = D
    ∧ bits .and .u8 (f : Int) 60 = (k : Int) ∧ bits .and .u8 (q : Int) 60 = (k : Int) ∧ bits .and .u8 (g : Int) 60 = (k : Int)
    ∧ c < 2 ∧ fc < 2 ∧ gc < 2 ∧ x < 256 ∧ y < 256 := by
  have hq := sf_in 8 false (by decide) hp
  have hd := clear8_dec p hp
  have e := clear8 p hp
  generalize sf p 8 false = q at *
  have hA := adc_B a m q hd
  have hS := sbc_B a m q hd
  have hl := addB_lt a m q hq
  have hl2 := addB_lt a (255 - m) q hq
  have hc := addB_carry a m q hq
  have hc2 := addB_carry a (255 - m) q hq
  have hx : (addB a m q).1 = (a + m + q % 2) % 256 := rfl
  have hy : (addB a (255 - m) q).1 = (a + (255 - m) + q % 2) % 256 := rfl
  have hk := addB_mask a m q hq
  have hk2 := addB_mask a (255 - m) q hq
  generalize addB a m q = R at *
  generalize addB a (255 - m) q = T at *
  obtain ⟨x, f⟩ := R
  obtain ⟨y, g⟩ := T
  simp only at hl hl2 hc hc2 hx hy hk hk2
  have hf2 : f % 2 = 0 ∨ f % 2 = 1 := by omega
  refine ⟨q, q % 2, x, f, y, g, q &&& 60, a + m + q % 2, a + m, 256 * (f % 2), f % 2, g % 2, 1 - (g % 2 : Nat), 256 * (1 - (g % 2 : Nat)), (a : Int) - m - (1 - (q % 2 : Nat)), (a : Int) - m, 1 - (q % 2 : Nat),
    hq, hA, hS, e, mask1 q hq, mask1 f hl.2, mask1 g hl2.2, ?_, ?_, ?_, ?_, ?_, ?_, ?_, ?_, ?_, ?_, andL f 60 _ hl.2 (by decide) hk, andL q 60 _ hq (by decide) rfl, andL g 60 _ hl2.2 (by decide) hk2, by omega, by omega, by omega, hl.1, hl2.1⟩
  all_goals (split at hc <;> split at hc2 <;> (rw [IntWalk.i64_in _ (by omega)]; try omega))
theorem order_lets (a m p : Nat) (ha : a < 256) (hm : m < 256) (hp : p < 256) : ∃ (f fc fz q0 q u g k k2 xx : Nat) (C Z : Bool),
    f < 256 ∧ q < 256 ∧ cmp a m p = f ∧ sbc a m q = (u, g) ∧ (a + 256 - m) % 256 = xx
    ∧ bits .andNot .u8 (p : Int) 8 = (q0 : Int) ∧ bits .or .u8 (q0 : Int) 1 = (q : Int) ∧ bits .and .u8 (f : Int) 1 = (fc : Int) ∧ bits .and .u8 (f : Int) 2 = (fz : Int)
    ∧ ((fc : Int) == 1) = C ∧ ((fz : Int) == 2) = Z ∧ decide (m ≤ a) = C ∧ decide ((m : Int) ≤ (a : Int)) = C ∧ ((a : Int) == (m : Int)) = Z
    ∧ bits .and .u8 (f : Int) 131 = (k : Int) ∧ bits .and .u8 (g : Int) 131 = (k : Int) ∧ ((a : Int) - (m : Int)) % 256 = (xx : Int) ∧ bits .and .u8 (f : Int) 124 = (k2 : Int) ∧ bits .and .u8 (p : Int) 124 = (k2 : Int)
    ∧ fc < 2 ∧ fz < 3 ∧ k < 256 ∧ xx < 256 := by
  have hq0 := sf_in 8 false (by decide) hp
  have hd0 := clear8_dec p hp
  have e0 := clear8 p hp
  generalize sf p 8 false = q0 at *
  have hq := sf_in 1 true (by decide) hq0
  have e1 := raise1 q0 hq0
  have hd : dec (sf q0 1 true) = false := by
    rw [← hd0, dec, dec, sf_else 1 (by decide) 8 (by decide) (by decide) q0 hq0]
  have hq1 : sf q0 1 true % 2 = 1 := by rw [get1 q0 true hq0]; rfl
  generalize sf q0 1 true = q at *
  have hS := sbc_B a m q hd
  have hl2 := addB_lt a (255 - m) q hq
  have hc2 := addB_carry a (255 - m) q hq
  have hz2 := addB_zero a (255 - m) q hq
  have hn2 := addB_neg a (255 - m) q hq
  rw [hq1] at hc2 hz2 hn2
  generalize addB a (255 - m) q = T at *
  obtain ⟨u, g⟩ := T
  simp only at hl2 hc2 hz2 hn2
  have hp1 := sf_in 1 (decide (m ≤ a)) (by decide) hp
  have hfc := cmp_carry a m p hp
  have hfz := nz_zero (sf p 1 (decide (m ≤ a))) ((a + 256 - m) % 256) hp1
  have hfn := nz_neg (sf p 1 (decide (m ≤ a))) ((a + 256 - m) % 256) hp1
  have hf := cmp_lt a m p hp
  have hk2 := cmp_mask124 a m p hp
  change cmp a m p / 2 % 2 = _ at hfz
  change cmp a m p / 128 % 2 = _ at hfn
  generalize cmp a m p = f at *
  refine ⟨f, f % 2, f / 2 % 2 * 2, q0, q, u, g, f &&& 131, p &&& 124, (a + 256 - m) % 256, decide (m ≤ a), decide (a = m), hf, hq, rfl, hS, rfl, e0, e1, mask1 f hf, andL f 2 _ hf (by decide) (and_2 f hf), ?_, ?_, rfl, ?_, ?_, andL f 131 _ hf (by decide) rfl, andL g 131 _ hl2.2 (by decide) ?_, ?_,
    andL f 124 _ hf (by decide) hk2, andL p 124 _ hp (by decide) rfl, by omega, by omega, Nat.lt_of_le_of_lt Nat.and_le_left hf, by omega⟩
  · rw [Bool.eq_iff_iff]; simp only [beq_iff_eq, decide_eq_true_eq]; split at hfc <;> omega
  · rw [Bool.eq_iff_iff]; simp only [beq_iff_eq, decide_eq_true_eq]; split at hfz <;> omega
  · rw [decide_eq_decide]; omega
  · rw [Bool.eq_iff_iff]; simp only [beq_iff_eq, decide_eq_true_eq]; omega
  · rw [and_131 f hf, and_131 g hl2.2, hfc, hfz, hfn, hc2, hz2, hn2]
    split <;> split <;> split <;> split <;> split <;> split <;> omega
  · omega
theorem flags_lets (a m p : Nat) (_ha : a < 256) (_hm : m < 256) (hp : p < 256) : ∃ (x1 b x2 c x3 d v4 e v5 f g h bx cx dx ex fx gx hx o1 o2 o3 o4 o5 o6 : Nat),
    adc a m p = (x1, b) ∧ sbc a m p = (x2, c) ∧ arr a m p = (x3, d) ∧ (a + 256 - m) % 256 = v4 ∧ cmp a m p = e ∧ downV m (p % 2) = v5 ∧ downP m (p % 2) p = f ∧ bit a m p = g ∧ nz p a = h
    ∧ bits .xor .u8 (b : Int) (p : Int) = (bx : Int) ∧ bits .xor .u8 (c : Int) (p : Int) = (cx : Int) ∧ bits .xor .u8 (d : Int) (p : Int) = (dx : Int) ∧ bits .xor .u8 (e : Int) (p : Int) = (ex : Int) ∧ bits .xor .u8 (f : Int) (p : Int) = (fx : Int) ∧ bits .xor .u8 (g : Int) (p : Int) = (gx : Int) ∧ bits .xor .u8 (h : Int) (p : Int) = (hx : Int)
    ∧ bits .or .u8 (bx : Int) (cx : Int) = (o1 : Int) ∧ bits .or .u8 (o1 : Int) (dx : Int) = (o2 : Int) ∧ bits .or .u8 (o2 : Int) (ex : Int) = (o3 : Int) ∧ bits .or .u8 (o3 : Int) (fx : Int) = (o4 : Int) ∧ bits .or .u8 (o4 : Int) (gx : Int) = (o5 : Int) ∧ bits .or .u8 (o5 : Int) (hx : Int) = (o6 : Int)
    ∧ bits .and .u8 (o6 : Int) 60 = 0 ∧ bits .and .u8 (gx : Int) 1 = 0 ∧ bits .and .u8 (hx : Int) 65 = 0 ∧ bits .and .u8 (fx : Int) 64 = 0 := by
  have xl : ∀ x, x < 256 → x ^^^ p < 256 := fun x hx => Nat.xor_lt_two_pow (n := 8) hx hp
  have ol : ∀ x y, x < 256 → y < 256 → x ||| y < 256 := fun x y hx hy => Nat.or_lt_two_pow (n := 8) hx hy
  have lb := (adc_lt a m p hp).2
  have lc := (sbc_lt a m p hp).2
  have ld := (arr_mask a m p hp).2
  have le := cmp_lt a m p hp
  have lf := downP_lt hp m (p % 2)
  have lg := bit_lt a m p hp
  have lh := nz_lt hp a
  have zb := xor_mask _ _ _ (adc_mask a m p hp)
  have zc := xor_mask _ _ _ (sbc_mask a m p hp)
  have zd := xor_mask _ _ _ (arr_mask a m p hp).1
  have ze := xor_mask _ _ _ (cmp_mask a m p hp)
  have zf := xor_mask _ _ _ (downP_mask m (p % 2) p hp)
  have zg := xor_mask _ _ _ (bit_mask a m p hp)
  have zh := xor_mask _ _ _ (nz_mask p a hp)
  have yg := xor_mask _ _ _ (bit_mask1 a m p hp)
  have yh := xor_mask _ _ _ (nz_mask65 p a hp)
  have yf := xor_mask _ _ _ (downP_mask64 m (p % 2) p hp)
  generalize adc a m p = A1 at *
  generalize sbc a m p = A2 at *
  generalize arr a m p = A3 at *
  obtain ⟨x1, b⟩ := A1
  obtain ⟨x2, c⟩ := A2
  obtain ⟨x3, d⟩ := A3
  simp only at lb lc ld zb zc zd
  generalize cmp a m p = e at *
  generalize downP m (p % 2) p = f at *
  generalize bit a m p = g at *
  generalize nz p a = h at *
  have l1 := xl b lb
  have l2 := xl c lc
  have l3 := xl d ld
  have l4 := xl e le
  have l5 := xl f lf
  have l6 := xl g lg
  have l7 := xl h lh
  have eb := u8_xor_nat b p lb hp
  have ec := u8_xor_nat c p lc hp
  have ed := u8_xor_nat d p ld hp
  have ee := u8_xor_nat e p le hp
  have ef := u8_xor_nat f p lf hp
  have eg := u8_xor_nat g p lg hp
  have eh := u8_xor_nat h p lh hp
  generalize b ^^^ p = bx at *
  generalize c ^^^ p = cx at *
  generalize d ^^^ p = dx at *
  generalize e ^^^ p = ex at *
  generalize f ^^^ p = fx at *
  generalize g ^^^ p = gx at *
  generalize h ^^^ p = hx at *
  have k1 := ol bx cx l1 l2
  have k2 := ol _ dx k1 l3
  have k3 := ol _ ex k2 l4
  have k4 := ol _ fx k3 l5
  have k5 := ol _ gx k4 l6
  have k6 := ol _ hx k5 l7
  have z := or_mask _ hx _ (or_mask _ gx _ (or_mask _ fx _ (or_mask _ ex _ (or_mask _ dx _ (or_mask bx cx _ zb zc) zd) ze) zf) zg) zh
  exact ⟨x1, b, x2, c, x3, d, _, e, _, f, g, h, bx, cx, dx, ex, fx, gx, hx, _, _, _, _, _, _, rfl, rfl, rfl, rfl, rfl, rfl, rfl, rfl, rfl, eb, ec, ed, ee, ef, eg, eh,
    u8_or_nat bx cx l1 l2, u8_or_nat _ dx k1 l3, u8_or_nat _ ex k2 l4, u8_or_nat _ fx k3 l5, u8_or_nat _ gx k4 l6, u8_or_nat _ hx k5 l7,
    andL _ 60 0 k6 (by decide) z, andL gx 1 0 l6 (by decide) yg, andL hx 65 0 l7 (by decide) yh, andL fx 64 0 l5 (by decide) yf⟩
end Go.Proofs.Ytpcfakdddfgkgaa
