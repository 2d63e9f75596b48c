/-
  WHAT FOLLOWS FOR THE VALUES: masks, sums and what is carried, turns, order, decimal digits.
-/
import Derived.Test.YtpcfakdddfgkgaaASmall
namespace Go.Proofs.Ytpcfakdddfgkgaa
open Go.RowKit

theorem mask60 (p f : Nat) (on : Bool) (hp : p < 256) (hf : f ∈ [1, 2, 64, 128]) : sf p f on &&& 60 = p &&& 60 := sf_mask f hf p hp on
theorem sf_in {p : Nat} (f : Nat) (on : Bool) (hf : f ∈ FL) (hp : p < 256) : sf p f on < 256 := sf_lt f hf p hp on
theorem nz_mask (p v : Nat) (hp : p < 256) : nz p v &&& 60 = p &&& 60 := by
  unfold nz
  rw [mask60 _ _ _ (sf_in _ _ (by decide) hp) (by decide), mask60 _ _ _ hp (by decide)]
theorem nvz_lt {p : Nat} (a m mid s : Nat) (hp : p < 256) : nvz a m p mid s < 256 := sf_in _ _ (by decide) (sf_in _ _ (by decide) (sf_in _ _ (by decide) hp))
theorem nvz_mask (a m p mid s : Nat) (hp : p < 256) : nvz a m p mid s &&& 60 = p &&& 60 := by
  unfold nvz
  rw [mask60 _ _ _ (sf_in _ _ (by decide) (sf_in _ _ (by decide) hp)) (by decide), mask60 _ _ _ (sf_in _ _ (by decide) hp) (by decide), mask60 _ _ _ hp (by decide)]
theorem addB_mask (a m p : Nat) (hp : p < 256) : (addB a m p).2 &&& 60 = p &&& 60 := by
  show sf _ 1 _ &&& 60 = _
  rw [mask60 _ _ _ (nvz_lt _ _ _ _ hp) (by decide), nvz_mask _ _ _ _ _ hp]
theorem addD_mask (a m p : Nat) (hp : p < 256) : (addD a m p).2 &&& 60 = p &&& 60 := by
  show sf _ 1 _ &&& 60 = _
  rw [mask60 _ _ _ (nvz_lt _ _ _ _ hp) (by decide), nvz_mask _ _ _ _ _ hp]
theorem adc_mask (a m p : Nat) (hp : p < 256) : (adc a m p).2 &&& 60 = p &&& 60 := by
  unfold adc; split
  · exact addD_mask a m p hp
  · exact addB_mask a m p hp
theorem sbc_mask (a m p : Nat) (hp : p < 256) : (sbc a m p).2 &&& 60 = p &&& 60 := by
  unfold sbc; split
  · exact addB_mask _ _ p hp
  · exact addB_mask _ _ p hp
theorem addB_lt (a m p : Nat) (hp : p < 256) : (addB a m p).1 < 256 ∧ (addB a m p).2 < 256 := ⟨Nat.mod_lt _ (by omega), sf_in _ _ (by decide) (nvz_lt _ _ _ _ hp)⟩
theorem addD_lt (a m p : Nat) (hp : p < 256) : (addD a m p).1 < 256 ∧ (addD a m p).2 < 256 := ⟨Nat.mod_lt _ (by omega), sf_in _ _ (by decide) (nvz_lt _ _ _ _ hp)⟩
theorem adc_lt (a m p : Nat) (hp : p < 256) : (adc a m p).1 < 256 ∧ (adc a m p).2 < 256 := by
  unfold adc; split
  · exact addD_lt a m p hp
  · exact addB_lt a m p hp
theorem sbc_lt (a m p : Nat) (hp : p < 256) : (sbc a m p).1 < 256 ∧ (sbc a m p).2 < 256 := by
  unfold sbc; split
  · refine ⟨?_, (addB_lt _ _ p hp).2⟩
    show (_ % 256 : Int).toNat < 256
    omega
  · exact addB_lt _ _ p hp
theorem arr_mask (a m p : Nat) (hp : p < 256) : (arr a m p).2 &&& 60 = p &&& 60 ∧ (arr a m p).2 < 256 := by
  unfold arr; split
  · constructor
    · show sf _ 1 _ &&& 60 = _
      rw [mask60 _ _ _ (sf_in _ _ (by decide) (nz_lt hp _)) (by decide), mask60 _ _ _ (nz_lt hp _) (by decide), nz_mask _ _ hp]
    · exact sf_in _ _ (by decide) (sf_in _ _ (by decide) (nz_lt hp _))
  · constructor
    · show sf _ 64 _ &&& 60 = _
      rw [mask60 _ _ _ (sf_in _ _ (by decide) (nz_lt hp _)) (by decide), mask60 _ _ _ (nz_lt hp _) (by decide), nz_mask _ _ hp]
    · exact sf_in _ _ (by decide) (sf_in _ _ (by decide) (nz_lt hp _))
theorem cmp_lt (r m p : Nat) (hp : p < 256) : cmp r m p < 256 := nz_lt (sf_in _ _ (by decide) hp) _
theorem cmp_mask (r m p : Nat) (hp : p < 256) : cmp r m p &&& 60 = p &&& 60 := by
  unfold cmp
  rw [nz_mask _ _ (sf_in _ _ (by decide) hp), mask60 _ _ _ hp (by decide)]
theorem upP_mask (m i p : Nat) (hp : p < 256) : upP m i p &&& 60 = p &&& 60 := by
  unfold upP
  rw [nz_mask _ _ (sf_in _ _ (by decide) hp), mask60 _ _ _ hp (by decide)]
theorem downP_mask (m i p : Nat) (hp : p < 256) : downP m i p &&& 60 = p &&& 60 := by
  unfold downP
  rw [nz_mask _ _ (sf_in _ _ (by decide) hp), mask60 _ _ _ hp (by decide)]
theorem bit_lt (a m p : Nat) (hp : p < 256) : bit a m p < 256 := sf_in _ _ (by decide) (sf_in _ _ (by decide) (sf_in _ _ (by decide) hp))
theorem bit_mask (a m p : Nat) (hp : p < 256) : bit a m p &&& 60 = p &&& 60 := by
  unfold bit
  rw [mask60 _ _ _ (sf_in _ _ (by decide) (sf_in _ _ (by decide) hp)) (by decide), mask60 _ _ _ (sf_in _ _ (by decide) hp) (by decide), mask60 _ _ _ hp (by decide)]
/-- other masks -/
theorem mask1' : ∀ f ∈ [2, 64, 128], ∀ p, p < 256 → ∀ on, sf p f on &&& 1 = p &&& 1 := by decide +kernel
theorem mask64 : ∀ f ∈ [1, 2, 128], ∀ p, p < 256 → ∀ on, sf p f on &&& 64 = p &&& 64 := by decide +kernel
theorem mask65 : ∀ f ∈ [2, 128], ∀ p, p < 256 → ∀ on, sf p f on &&& 65 = p &&& 65 := by decide +kernel
theorem mask124 : ∀ f ∈ [1, 2, 128], ∀ p, p < 256 → ∀ on, sf p f on &&& 124 = p &&& 124 := by decide +kernel
theorem bit_mask1 (a m p : Nat) (hp : p < 256) : bit a m p &&& 1 = p &&& 1 := by
  unfold bit
  rw [mask1' _ (by decide) _ (sf_in _ _ (by decide) (sf_in _ _ (by decide) hp)), mask1' _ (by decide) _ (sf_in _ _ (by decide) hp), mask1' _ (by decide) _ hp]
theorem nz_mask65 (p v : Nat) (hp : p < 256) : nz p v &&& 65 = p &&& 65 := by
  unfold nz
  rw [mask65 _ (by decide) _ (sf_in _ _ (by decide) hp), mask65 _ (by decide) _ hp]
theorem downP_mask64 (m i p : Nat) (hp : p < 256) : downP m i p &&& 64 = p &&& 64 := by
  unfold downP nz
  rw [mask64 _ (by decide) _ (sf_in _ _ (by decide) (sf_in _ _ (by decide) hp)), mask64 _ (by decide) _ (sf_in _ _ (by decide) hp), mask64 _ (by decide) _ hp]
theorem cmp_mask124 (r m p : Nat) (hp : p < 256) : cmp r m p &&& 124 = p &&& 124 := by
  unfold cmp nz
  rw [mask124 _ (by decide) _ (sf_in _ _ (by decide) (sf_in _ _ (by decide) hp)), mask124 _ (by decide) _ (sf_in _ _ (by decide) hp), mask124 _ (by decide) _ hp]
theorem xor_mask (x p k : Nat) (h : x &&& k = p &&& k) : (x ^^^ p) &&& k = 0 := by rw [Nat.and_xor_distrib_right, h, Nat.xor_self]
theorem or_mask (x y k : Nat) (h : x &&& k = 0) (h2 : y &&& k = 0) : (x ||| y) &&& k = 0 := by rw [Nat.and_or_distrib_right, h, h2]; rfl
/-- C of a sum -/
theorem get1 (p : Nat) (on : Bool) (hp : p < 256) : sf p 1 on % 2 = if on then 1 else 0 := by
  have h := sf_get 1 (by decide) p hp on
  rwa [Nat.div_one] at h
theorem else1 (p f : Nat) (on : Bool) (hp : p < 256) (hf : f ∈ FL) (h1 : f ≠ 1) : sf p f on % 2 = p % 2 := by
  have h := sf_else f hf 1 (by decide) h1 p hp on
  rwa [Nat.div_one, Nat.div_one] at h
theorem addB_carry (a m p : Nat) (hp : p < 256) : (addB a m p).2 % 2 = if 256 ≤ a + m + p % 2 then 1 else 0 := by
  show sf _ 1 _ % 2 = _
  rw [get1 _ _ (nvz_lt _ _ _ _ hp)]
  simp
theorem addD_carry (a m p : Nat) (hp : p < 256) : (addD a m p).2 % 2 = if 256 ≤ fin (midA a m (p % 2)) then 1 else 0 := by
  show sf _ 1 _ % 2 = _
  rw [get1 _ _ (nvz_lt _ _ _ _ hp)]
  simp
theorem nz_carry (p v : Nat) (hp : p < 256) : nz p v % 2 = p % 2 := by
  unfold nz
  rw [else1 _ _ _ (sf_in _ _ (by decide) hp) (by decide) (by decide), else1 _ _ _ hp (by decide) (by decide)]
theorem upP_carry (m i p : Nat) (hp : p < 256) : upP m i p % 2 = if 127 < m then 1 else 0 := by
  unfold upP
  rw [nz_carry _ _ (sf_in _ _ (by decide) hp), get1 _ _ hp]; simp
theorem downP_carry (m i p : Nat) (hp : p < 256) : downP m i p % 2 = if m % 2 = 1 then 1 else 0 := by
  unfold downP
  rw [nz_carry _ _ (sf_in _ _ (by decide) hp), get1 _ _ hp]; simp
theorem cmp_carry (r m p : Nat) (hp : p < 256) : cmp r m p % 2 = if m ≤ r then 1 else 0 := by
  unfold cmp
  rw [nz_carry _ _ (sf_in _ _ (by decide) hp), get1 _ _ hp]; simp
theorem nz_zero (p v : Nat) (hp : p < 256) : nz p v / 2 % 2 = if v = 0 then 1 else 0 := by
  unfold nz
  rw [sf_get 2 (by decide) _ (sf_in _ _ (by decide) hp)]; simp
theorem nz_neg (p v : Nat) (hp : p < 256) : nz p v / 128 % 2 = if 127 < v then 1 else 0 := by
  unfold nz
  rw [sf_else 2 (by decide) 128 (by decide) (by decide) _ (sf_in _ _ (by decide) hp), sf_get 128 (by decide) _ hp]; simp
theorem addB_zero (a m p : Nat) (hp : p < 256) : (addB a m p).2 / 2 % 2 = if (a + m + p % 2) % 256 = 0 then 1 else 0 := by
  show sf _ 1 _ / 2 % 2 = _
  rw [sf_else 1 (by decide) 2 (by decide) (by decide) _ (nvz_lt _ _ _ _ hp)]
  unfold nvz
  rw [sf_get 2 (by decide) _ (sf_in _ _ (by decide) (sf_in _ _ (by decide) hp))]; simp
theorem addB_neg (a m p : Nat) (hp : p < 256) : (addB a m p).2 / 128 % 2 = if (a + m + p % 2) / 128 % 2 = 1 then 1 else 0 := by
  show sf _ 1 _ / 128 % 2 = _
  rw [sf_else 1 (by decide) 128 (by decide) (by decide) _ (nvz_lt _ _ _ _ hp)]
  unfold nvz
  rw [sf_else 2 (by decide) 128 (by decide) (by decide) _ (sf_in _ _ (by decide) (sf_in _ _ (by decide) hp)), sf_else 64 (by decide) 128 (by decide) (by decide) _ (sf_in _ _ (by decide) hp), sf_get 128 (by decide) _ hp]; simp
/-- nine turns of nine bits -/
def r9 (n : Nat) : Nat := n * 2 % 512 + n / 256
theorem r9_nine : ∀ n, n < 512 → r9 (r9 (r9 (r9 (r9 (r9 (r9 (r9 (r9 n)))))))) = n := by decide +kernel
theorem r9_rol (x q : Nat) (hx : x < 256) (hq : q < 256) : upV x (q % 2) + 256 * (upP x (q % 2) q % 2) = r9 (x + 256 * (q % 2)) := by
  rw [upP_carry _ _ _ hq]
  unfold upV r9
  split <;> omega
/-- numbers of two decimal digits -/
def bcd (x : Nat) : Nat := x / 10 * 16 + x % 10
theorem tens_add : ∀ x, x < 100 → ∀ y, y < 100 → ∀ c, c < 2 → fin (midA (bcd x) (bcd y) c) % 256 = bcd ((x + y + c) % 100) ∧ (256 ≤ fin (midA (bcd x) (bcd y) c) ↔ 100 ≤ x + y + c) := by decide +kernel
theorem tens_sub : ∀ x : Nat, x < 100 → ∀ y : Nat, y < 100 → ∀ c : Nat, c < 2 → (finS (midS (bcd x : Nat) (bcd y : Nat) (c : Nat)) % 256).toNat = bcd (if y + 1 ≤ x + c then x + c - y - 1 else x + c + 99 - y) ∧ (256 ≤ bcd x + (255 - bcd y) + c ↔ y + 1 ≤ x + c) := by decide +kernel
end Go.Proofs.Ytpcfakdddfgkgaa
