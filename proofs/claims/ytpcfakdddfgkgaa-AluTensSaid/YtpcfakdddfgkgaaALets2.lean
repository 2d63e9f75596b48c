/-
  THE VALUES OF AluBack AND AluTens, EACH WITH ITS LETTER.
-/
import Derived.Test.YtpcfakdddfgkgaaALets
namespace Go.Proofs.Ytpcfakdddfgkgaa
open Go.RowKit
set_option maxRecDepth 20000

theorem and_127 : ∀ v, v < 256 → v &&& 127 = v % 128 := by decide +kernel
theorem clear64 : ∀ v, v < 256 → (v &&& 124) &&& (255 - 64) = v &&& 60 := by decide +kernel
theorem mask8_of {x q : Nat} (h : x &&& 60 = q &&& 60) : x &&& 8 = q &&& 8 := by
  have e : ∀ y : Nat, y &&& 8 = (y &&& 60) &&& 8 := fun y => by rw [Nat.and_assoc]; rfl
  rw [e x, e q, h]
theorem back_lets (m p : Nat) (hm : m < 256) (hp : p < 256) : ∃ (a1 f g c1 h d d2 gc k f1 p1 : Nat),
    upV m (p % 2) = a1 ∧ upP m (p % 2) p = f ∧ downV a1 (f % 2) = m ∧ downP a1 (f % 2) f = g ∧ upV m 0 = c1 ∧ upP m 0 p = h ∧ downV c1 0 = d ∧ downP c1 0 h = d2
    ∧ bits .and .u8 (g : Int) 1 = (gc : Int) ∧ bits .and .u8 (p : Int) 1 = (gc : Int) ∧ bits .and .u8 (m : Int) 127 = (d : Int) ∧ bits .and .u8 (f : Int) 124 = (f1 : Int) ∧ bits .andNot .u8 (f1 : Int) 64 = (k : Int) ∧ bits .and .u8 (p : Int) 124 = (p1 : Int) ∧ bits .andNot .u8 (p1 : Int) 64 = (k : Int)
    ∧ a1 < 256 ∧ f < 256 ∧ c1 < 256 ∧ h < 256 ∧ gc < 2 ∧ p % 2 = gc := by
  have la := upV_lt (m := m) (i := p % 2) (by omega)
  have lf := upP_lt hp m (p % 2)
  have lc := upV_lt (m := m) (i := 0) (by omega)
  have lh := upP_lt hp m 0
  have cf := upP_carry m (p % 2) p hp
  have mk := upP_mask m (p % 2) p hp
  have ha : upV m (p % 2) = m * 2 % 256 + p % 2 := rfl
  have hc : upV m 0 = m * 2 % 256 + 0 := rfl
  generalize upP m (p % 2) p = f at *
  generalize upV m (p % 2) = a1 at *
  generalize upP m 0 p = h at *
  generalize upV m 0 = c1 at *
  have lg := downP_lt lf a1 (f % 2)
  have cg := downP_carry a1 (f % 2) f lf
  generalize hG : downP a1 (f % 2) f = g at *
  have l1 : f &&& 124 < 256 := Nat.lt_of_le_of_lt Nat.and_le_left lf
  have l2 : p &&& 124 < 256 := Nat.lt_of_le_of_lt Nat.and_le_left hp
  refine ⟨a1, f, g, c1, h, downV c1 0, downP c1 0 h, p % 2, p &&& 60, f &&& 124, p &&& 124, rfl, rfl, ?_, hG, rfl, rfl, rfl, rfl, ?_, mask1 p hp, ?_, andL f 124 _ lf (by decide) rfl, ?_, andL p 124 _ hp (by decide) rfl, ?_, la, lf, lc, lh, by omega, rfl⟩
  · unfold downV
    split at cf <;> omega
  · rw [mask1 g lg, show g % 2 = p % 2 by split at cg <;> omega]
  · rw [show downV c1 0 = m % 128 by unfold downV; omega]
    exact andL m 127 _ hm (by decide) (and_127 m hm)
  · have h := u8_andNot_nat (f &&& 124) 64 l1 (by omega)
    rw [clear64 f lf, mk] at h
    exact h
  · have h := u8_andNot_nat (p &&& 124) 64 l2 (by omega)
    rw [clear64 p hp] at h
    exact h
def r9n : Nat → Nat → Nat
  | 0, n => n
  | k + 1, n => r9 (r9n k n)
theorem r9n_nine (n : Nat) (h : n < 512) : r9n 9 n = n := r9_nine n h
theorem hund (n : Nat) (h : n < 200) : n / 100 = if 100 ≤ n then 1 else 0 := by split <;> omega
theorem digits (n : Nat) (h : n < 100) : IntKind.i64.wrap (((n / 10 : Nat) : Int) * 16) = ((n / 10 * 16 : Nat) : Int) ∧ IntKind.i64.wrap (((n / 10 * 16 : Nat) : Int) + ((n % 10 : Nat) : Int)) = ((bcd n : Nat) : Int) ∧ n / 10 < 10 ∧ n % 10 < 10 ∧ bcd n < 256 ∧ IntKind.u8.wrap ((bcd n : Nat) : Int) = ((bcd n : Nat) : Int) := by
  have hb : bcd n = n / 10 * 16 + n % 10 := rfl
  refine ⟨?_, sums _ _ _ (by omega) hb.symm, by omega, by omega, by omega, ?_⟩
  · rw [IntWalk.i64_in _ (by omega)]; omega
  · rw [IntKind.wrap_u8']; omega
theorem mod10 (n : Nat) : n % 10 = n % 100 % 10 := by omega
theorem tens_diff (x y c M : Nat) (hx : x < 100) (hy : y < 100) (hc : c < 2) (hM : (if y + 1 ≤ x + c then x + c - y - 1 else x + c + 99 - y) = M) :
    IntKind.i64.wrap ((x : Int) + (y : Int)) = ((x + y : Nat) : Int) ∧ IntKind.i64.wrap (((x + y : Nat) : Int) + (c : Int)) = ((x + y + c : Nat) : Int)
    ∧ IntKind.i64.wrap ((x : Int) - (y : Int)) = (x : Int) - y ∧ IntKind.i64.wrap ((x : Int) - y - 1) = (x : Int) - y - 1 ∧ IntKind.i64.wrap ((x : Int) - y - 1 + (c : Int)) = (x : Int) - y - 1 + c
    ∧ ((x : Int) - y - 1 + c < 0 → IntKind.i64.wrap ((x : Int) - y - 1 + c + 100) = (M : Int) ∧ ¬ y + 1 ≤ x + c) ∧ (¬ (x : Int) - y - 1 + c < 0 → (x : Int) - y - 1 + c = (M : Int) ∧ y + 1 ≤ x + c) ∧ M < 100 := by
  refine ⟨sums _ _ _ (by omega) rfl, sums _ _ _ (by omega) rfl, ?_, ?_, ?_, ?_, ?_, ?_⟩
  · rw [IntWalk.i64_in _ (by omega)]
  · rw [IntWalk.i64_in _ (by omega)]
  · rw [IntWalk.i64_in _ (by omega)]
  · intro h
    rw [if_neg (by omega)] at hM
    exact ⟨by rw [IntWalk.i64_in _ (by omega)]; omega, by omega⟩
  · intro h
    rw [if_pos (by omega)] at hM
    exact ⟨by omega, by omega⟩
  · rw [← hM]; split <;> omega
theorem tens_lets (a m p : Nat) (_ha : a < 256) (_hm : m < 256) (hp : p < 256) : ∃ (x x1 x2 x3 u y y1 y2 y3 v q c s f d g K sm t1 t2 t3 t4 fc M d1 d2 d3 : Nat) (E E1 L : Int),
    u < 256 ∧ v < 256 ∧ q < 256 ∧ adc u v q = (s, f) ∧ sbc u v q = (d, g)
    ∧ (a : Int) % 100 = (x : Int) ∧ (m : Int) % 100 = (y : Int) ∧ ((x : Nat) : Int).tdiv 10 = (x1 : Int) ∧ IntKind.i64.wrap ((x1 : Int) * 16) = (x2 : Int) ∧ ((x : Nat) : Int).tmod 10 = (x3 : Int) ∧ IntKind.i64.wrap ((x2 : Int) + (x3 : Int)) = (u : Int) ∧ IntKind.u8.wrap (u : Int) = (u : Int)
    ∧ ((y : Nat) : Int).tdiv 10 = (y1 : Int) ∧ IntKind.i64.wrap ((y1 : Int) * 16) = (y2 : Int) ∧ ((y : Nat) : Int).tmod 10 = (y3 : Int) ∧ IntKind.i64.wrap ((y2 : Int) + (y3 : Int)) = (v : Int) ∧ IntKind.u8.wrap (v : Int) = (v : Int)
    ∧ bits .or .u8 (p : Int) 8 = (q : Int) ∧ bits .and .u8 (q : Int) 1 = (c : Int)
    ∧ IntKind.i64.wrap ((x : Int) + (y : Int)) = (K : Int) ∧ IntKind.i64.wrap ((K : Int) + (c : Int)) = (sm : Int) ∧ IntKind.i64.wrap ((x : Int) - (y : Int)) = E ∧ IntKind.i64.wrap (E - 1) = E1 ∧ IntKind.i64.wrap (E1 + (c : Int)) = L
    ∧ ((sm : Nat) : Int).tmod 100 = (t1 : Int) ∧ ((t1 : Nat) : Int).tdiv 10 = (t2 : Int) ∧ IntKind.i64.wrap ((t2 : Int) * 16) = (t3 : Int) ∧ ((sm : Nat) : Int).tmod 10 = (t4 : Int) ∧ IntKind.i64.wrap ((t3 : Int) + (t4 : Int)) = (s : Int)
    ∧ bits .and .u8 (f : Int) 1 = (fc : Int) ∧ ((sm : Nat) : Int).tdiv 100 = (fc : Int)
    ∧ (L < 0 → IntKind.i64.wrap (L + 100) = (M : Int) ∧ bits .and .u8 (g : Int) 1 = 0) ∧ (¬ L < 0 → L = (M : Int) ∧ bits .and .u8 (g : Int) 1 = 1)
    ∧ ((M : Nat) : Int).tdiv 10 = (d1 : Int) ∧ IntKind.i64.wrap ((d1 : Int) * 16) = (d2 : Int) ∧ ((M : Nat) : Int).tmod 10 = (d3 : Int) ∧ IntKind.i64.wrap ((d2 : Int) + (d3 : Int)) = (d : Int)
    ∧ bits .and .u8 (f : Int) 8 = 8 ∧ bits .and .u8 (g : Int) 8 = 8
    ∧ x < 100 ∧ y < 100 ∧ x1 < 10 ∧ y1 < 10 ∧ x3 < 10 ∧ y3 < 10 ∧ c < 2 ∧ sm < 200 ∧ t1 < 100 ∧ t2 < 10 ∧ t4 < 10 ∧ fc < 2 ∧ M < 100 ∧ d1 < 10 ∧ d3 < 10 ∧ s < 256 ∧ d < 256 := by
  have hq := sf_in 8 true (by decide) hp
  have hd := raise8_dec p hp
  have e0 := raise8 p hp
  generalize sf p 8 true = q at *
  have hq8 : q / 8 % 2 = 1 := by simpa [dec] using hd
  obtain ⟨x, hx⟩ : ∃ x, a % 100 = x := ⟨_, rfl⟩
  obtain ⟨y, hy⟩ : ∃ x, m % 100 = x := ⟨_, rfl⟩
  obtain ⟨c, hc⟩ : ∃ x, q % 2 = x := ⟨_, rfl⟩
  have hx1 : x < 100 := by omega
  have hy1 : y < 100 := by omega
  have hc1 : c < 2 := by omega
  obtain ⟨A1, A2⟩ := tens_add x hx1 y hy1 c hc1
  obtain ⟨S1, S2⟩ := tens_sub x hx1 y hy1 c hc1
  have hu : bcd x = x / 10 * 16 + x % 10 := rfl
  have hv : bcd y = y / 10 * 16 + y % 10 := rfl
  have ul : bcd x < 256 := by rw [hu]; omega
  have vl : bcd y < 256 := by rw [hv]; omega
  have cu := addD_carry (bcd x) (bcd y) q hq
  have cs := addB_carry (bcd x) (255 - bcd y) q hq
  rw [hc] at cu cs
  have a1 : (addD (bcd x) (bcd y) q).1 = bcd ((x + y + c) % 100) := by
    show fin (midA (bcd x) (bcd y) (q % 2)) % 256 = _
    rw [hc]; exact A1
  have s1 : (subD (bcd x) (bcd y) q).1 = bcd (if y + 1 ≤ x + c then x + c - y - 1 else x + c + 99 - y) := by
    show (finS (midS (bcd x : Nat) (bcd y : Nat) (q % 2 : Nat)) % 256).toNat = _
    rw [hc]; exact S1
  have s2 : (subD (bcd x) (bcd y) q).2 = (addB (bcd x) (255 - bcd y) q).2 := rfl
  have ma := addD_mask (bcd x) (bcd y) q hq
  have ms := addB_mask (bcd x) (255 - bcd y) q hq
  have la := addD_lt (bcd x) (bcd y) q hq
  have ls := addB_lt (bcd x) (255 - bcd y) q hq
  rw [← s2] at cs ms
  have ls2 : (subD (bcd x) (bcd y) q).2 < 256 := by rw [s2]; exact ls.2
  have hA := adc_D (bcd x) (bcd y) q hd
  have hS := sbc_D (bcd x) (bcd y) q hd
  clear s2 ls A1 S1
  generalize addD (bcd x) (bcd y) q = R at *
  generalize subD (bcd x) (bcd y) q = T at *
  obtain ⟨s, f⟩ := R
  obtain ⟨d, g⟩ := T
  simp only at cu cs a1 s1 ma ms la ls2
  have e8 : q &&& 8 = 8 := by rw [and_8 q hq, hq8]
  have f8 : f &&& 8 = 8 := by rw [mask8_of ma, e8]
  have g8 : g &&& 8 = 8 := by rw [mask8_of ms, e8]
  obtain ⟨M, hM⟩ : ∃ M, (if y + 1 ≤ x + c then x + c - y - 1 else x + c + 99 - y) = M := ⟨_, rfl⟩
  rw [hM] at s1
  obtain ⟨m1, m2, m3, m4, m5, d1, d2, hMl⟩ := tens_diff x y c M hx1 hy1 hc1 hM
  have hfc : f % 2 = (x + y + c) / 100 := by
    rw [cu, hund _ (by omega)]
    by_cases h : 100 ≤ x + y + c
    · rw [if_pos h, if_pos (A2.2 h)]
    · rw [if_neg h, if_neg (fun e => h (A2.1 e))]
  have hgc : g % 2 = if y + 1 ≤ x + c then 1 else 0 := by
    rw [cs]
    by_cases h : y + 1 ≤ x + c
    · rw [if_pos h, if_pos (S2.2 h)]
    · rw [if_neg h, if_neg (fun e => h (S2.1 e))]
  have g1 := mask1 q hq
  have g2 := mask1 f la.2
  have g3 := mask1 g ls2
  rw [hc] at g1
  rw [hfc] at g2
  rw [hgc] at g3
  have sl := la.1
  have k8 := andL f 8 8 la.2 (by decide) f8
  have k9 := andL g 8 8 ls2 (by decide) g8
  clear cu cs A2 S2 ma ms hq8 e8 hd hfc hgc f8 g8 la ls2
  obtain ⟨X1, X2, X3, X4, X5, X6⟩ := digits x hx1
  obtain ⟨Y1, Y2, Y3, Y4, Y5, Y6⟩ := digits y hy1
  obtain ⟨T1, T2, T3, T4, T5, T6⟩ := digits ((x + y + c) % 100) (Nat.mod_lt _ (by omega))
  obtain ⟨M1, M2, M3, M4, M5, M6⟩ := digits M hMl
  rw [← a1, ← mod10] at T2
  rw [← s1] at M2 M5
  clear hu hv ul vl
  generalize bcd x = u at *
  generalize bcd y = v at *
  obtain ⟨sm, hsm⟩ : ∃ n, x + y + c = n := ⟨_, rfl⟩
  rw [hsm] at g2 T1 T2 T3 m2
  have n1 : (x : Int) - y - 1 + c < 0 → IntKind.i64.wrap ((x : Int) - y - 1 + c + 100) = (M : Int) ∧ bits .and .u8 (g : Int) 1 = 0 := by
    intro hL
    obtain ⟨k1, k2⟩ := d1 hL
    rw [if_neg k2] at g3
    exact ⟨k1, g3⟩
  have n2 : ¬ (x : Int) - y - 1 + c < 0 → (x : Int) - y - 1 + c = (M : Int) ∧ bits .and .u8 (g : Int) 1 = 1 := by
    intro hL
    obtain ⟨k1, k2⟩ := d2 hL
    rw [if_pos k2] at g3
    exact ⟨k1, g3⟩
  clear d1 d2 hM g3 hc a1 s1
  have o1 : (a : Int) % 100 = (x : Int) := by rw [← hx]; rfl
  have o2 : (m : Int) % 100 = (y : Int) := by rw [← hy]; rfl
  have p1 : sm < 200 := by rw [← hsm]; exact Nat.lt_of_le_of_lt (Nat.add_le_add (Nat.add_le_add (Nat.le_of_lt_succ hx1) (Nat.le_of_lt_succ hy1)) (Nat.le_of_lt_succ hc1)) (by decide)
  clear hx hy hsm
  have p2 : sm % 100 < 100 := Nat.mod_lt _ (by decide)
  have p3 : sm % 10 < 10 := Nat.mod_lt _ (by decide)
  have p4 : sm / 100 < 2 := Nat.div_lt_of_lt_mul p1
  exact ⟨x, x / 10, x / 10 * 16, x % 10, u, y, y / 10, y / 10 * 16, y % 10, v, q, c, s, f, d, g, x + y, sm, sm % 100, sm % 100 / 10, sm % 100 / 10 * 16, sm % 10, sm / 100, M, M / 10, M / 10 * 16, M % 10, (x : Int) - y, (x : Int) - y - 1, (x : Int) - y - 1 + c,
    X5, Y5, hq, hA, hS, o1, o2, rfl, X1, rfl, X2, X6, rfl, Y1, rfl, Y2, Y6, e0, g1, m1, m2, m3, m4, m5, rfl, rfl, T1, rfl, T2, g2, rfl, n1, n2, rfl, M1, rfl, M2,
    k8, k9, hx1, hy1, X3, Y3, X4, Y4, hc1, p1, p2, T3, p3, p4, hMl, M3, M4, sl, M5⟩
end Go.Proofs.Ytpcfakdddfgkgaa
