/-
  ARITHMETIC ON BYTES AS VALUES: flags, sums, differences, shifts, turns.
-/
import Derived.Laws.BitsAllLaws
namespace Go.Proofs.Ytpcfakdddfgkgaa

/-- the flags that are set -/
abbrev FL : List Nat := [1, 2, 8, 64, 128]
/-- a byte of flags with one of them as it is told -/
def sf (p f : Nat) (on : Bool) : Nat := p - p / f % 2 * f + (if on then f else 0)
theorem sf_lt : ∀ f ∈ FL, ∀ p, p < 256 → ∀ on, sf p f on < 256 := by decide +kernel
theorem sf_or : ∀ f ∈ FL, ∀ p, p < 256 → p ||| f = sf p f true := by decide +kernel
theorem sf_not : ∀ f ∈ FL, ∀ p, p < 256 → p &&& (255 - f) = sf p f false := by decide +kernel
theorem sf_comm : ∀ f ∈ FL, ∀ g ∈ FL, f ≠ g → ∀ p, p < 256 → ∀ x y, sf (sf p f x) g y = sf (sf p g y) f x := by decide +kernel
theorem sf_two : ∀ f ∈ FL, ∀ p, p < 256 → ∀ x y, sf (sf p f x) f y = sf p f y := by decide +kernel
theorem sf_get : ∀ f ∈ FL, ∀ p, p < 256 → ∀ on, sf p f on / f % 2 = (if on then 1 else 0) := by decide +kernel
theorem sf_else : ∀ f ∈ FL, ∀ g ∈ [1, 2, 4, 8, 16, 32, 64, 128], f ≠ g → ∀ p, p < 256 → ∀ on, sf p f on / g % 2 = p / g % 2 := by decide +kernel
theorem sf_same : ∀ f ∈ FL, ∀ p, p < 256 → sf p f (decide (p / f % 2 = 1)) = p := by decide +kernel
/-- what a mask leaves of a byte of flags hangs on no flag outside -/
theorem sf_mask : ∀ f ∈ [1, 2, 64, 128], ∀ p, p < 256 → ∀ on, sf p f on &&& 60 = p &&& 60 := by decide +kernel
theorem and_128 : ∀ v, v < 256 → (v &&& 128 = 0 ↔ ¬ 127 < v) := by decide +kernel
theorem and_64 : ∀ v, v < 256 → (v &&& 64 = v / 64 % 2 * 64) := by decide +kernel
theorem and_16 : ∀ v, v < 256 → (v &&& 16 = v / 16 % 2 * 16) := by decide +kernel
theorem and_8 : ∀ v, v < 256 → (v &&& 8 = v / 8 % 2 * 8) := by decide +kernel
theorem and_2 : ∀ v, v < 256 → (v &&& 2 = v / 2 % 2 * 2) := by decide +kernel
theorem and_1 : ∀ v, v < 256 → (v &&& 1 = v % 2) := by decide +kernel
theorem and_131 : ∀ v, v < 256 → (v &&& 131 = v % 2 + v / 2 % 2 * 2 + v / 128 % 2 * 128) := by decide +kernel
theorem or_low : ∀ v, v < 128 → ∀ i, i < 2 → v * 2 ||| i = v * 2 + i := by decide +kernel
theorem or_high : ∀ v, v < 128 → ∀ i, i < 2 → v ||| i * 128 = v + i * 128 := by decide +kernel
/-- a bit of what is held against each other -/
theorem xor_bit (x y k : Nat) : (x ^^^ y) / 2 ^ k % 2 = (x / 2 ^ k + y / 2 ^ k) % 2 := by
  have h := Nat.testBit_xor x y k
  simp only [Nat.testBit_eq_decide_div_mod_eq] at h
  have h1 : (x ^^^ y) / 2 ^ k % 2 < 2 := Nat.mod_lt _ (by omega)
  by_cases a : x / 2 ^ k % 2 = 1 <;> by_cases b : y / 2 ^ k % 2 = 1 <;> simp [a, b] at h <;> omega
theorem and_bit (x y k : Nat) : (x &&& y) / 2 ^ k % 2 = (x / 2 ^ k % 2) * (y / 2 ^ k % 2) := by
  have h := Nat.testBit_and x y k
  simp only [Nat.testBit_eq_decide_div_mod_eq] at h
  have h1 : (x &&& y) / 2 ^ k % 2 < 2 := Nat.mod_lt _ (by omega)
  by_cases a : x / 2 ^ k % 2 = 1
  · by_cases b : y / 2 ^ k % 2 = 1
    · simp [a, b] at h; rw [a, b]; omega
    · simp [a, b] at h; rw [a, show y / 2 ^ k % 2 = 0 by omega]; omega
  · simp [a] at h; rw [show x / 2 ^ k % 2 = 0 by omega, Nat.zero_mul]; omega

/-- N and Z by a byte -/
def nz (p v : Nat) : Nat := sf (sf p 128 (decide (127 < v))) 2 (decide (v = 0))
theorem nz_lt {p : Nat} (hp : p < 256) (v : Nat) : nz p v < 256 := sf_lt _ (by decide) _ (sf_lt _ (by decide) _ hp _) _
def cmp (r m p : Nat) : Nat := nz (sf p 1 (decide (m ≤ r))) ((r + 256 - m) % 256)
def bit (a m p : Nat) : Nat := sf (sf (sf p 128 (decide (127 < m))) 64 (decide (m / 64 % 2 = 1))) 2 (decide (a &&& m = 0))
/-- with a bit that comes in: the byte, and the flags -/
def upV (m i : Nat) : Nat := m * 2 % 256 + i
def upP (m i p : Nat) : Nat := nz (sf p 1 (decide (127 < m))) (upV m i)
def downV (m i : Nat) : Nat := m / 2 + 128 * i
def downP (m i p : Nat) : Nat := nz (sf p 1 (decide (m % 2 = 1))) (downV m i)
theorem upV_lt {m i : Nat} (hi : i < 2) : upV m i < 256 := by unfold upV; omega
theorem downV_lt {m i : Nat} (hm : m < 256) (hi : i < 2) : downV m i < 256 := by unfold downV; omega
theorem upP_lt {p : Nat} (hp : p < 256) (m i : Nat) : upP m i p < 256 := nz_lt (sf_lt _ (by decide) _ hp _) _
theorem downP_lt {p : Nat} (hp : p < 256) (m i : Nat) : downP m i p < 256 := nz_lt (sf_lt _ (by decide) _ hp _) _
/-- decimal? -/
def dec (p : Nat) : Bool := decide (p / 8 % 2 = 1)
def lowA (a m c : Nat) : Nat := if 10 ≤ a % 16 + m % 16 + c then (a % 16 + m % 16 + c + 6) % 16 + 16 else a % 16 + m % 16 + c
def midA (a m c : Nat) : Nat := (a - a % 16) + (m - m % 16) + lowA a m c
/-- N, V and Z by what was reckoned, and by the sum -/
def nvz (a m p mid sum : Nat) : Nat :=
  sf (sf (sf p 128 (decide (mid / 128 % 2 = 1))) 64 (decide (a / 128 = m / 128) && decide (a / 128 ≠ mid / 128 % 2))) 2 (decide (sum % 256 = 0))
def addB (a m p : Nat) : Nat × Nat := ((a + m + p % 2) % 256, sf (nvz a m p (a + m + p % 2) (a + m + p % 2)) 1 (decide (256 ≤ a + m + p % 2)))
def fin (mid : Nat) : Nat := if 160 ≤ mid then mid + 96 else mid
def addD (a m p : Nat) : Nat × Nat := (fin (midA a m (p % 2)) % 256, sf (nvz a m p (midA a m (p % 2)) (a + m + p % 2)) 1 (decide (256 ≤ fin (midA a m (p % 2)))))
def adc (a m p : Nat) : Nat × Nat := if dec p then addD a m p else addB a m p
/-- what is taken away, in decimal -/
def lowS (a m c : Int) : Int := if a % 16 - m % 16 - 1 + c < 0 then (a % 16 - m % 16 - 1 + c - 6) % 16 - 16 else a % 16 - m % 16 - 1 + c
def midS (a m c : Int) : Int := (a - a % 16) - (m - m % 16) + lowS a m c
def finS (mid : Int) : Int := if mid < 0 then mid - 96 else mid
def subD (a m p : Nat) : Nat × Nat := ((finS (midS a m (p % 2 : Nat)) % 256).toNat, (addB a (255 - m) p).2)
def sbc (a m p : Nat) : Nat × Nat := if dec p then subD a m p else addB a (255 - m) p
/-- Arr -/
def arrB (t p : Nat) : Nat × Nat :=
  (downV t (p % 2), sf (sf (nz p (downV t (p % 2))) 1 (decide (downV t (p % 2) / 64 % 2 = 1))) 64 (decide (downV t (p % 2) / 64 % 2 ≠ downV t (p % 2) / 32 % 2)))
def arrL (t v : Nat) : Nat := if 5 < t % 16 + t % 2 then v - v % 16 + (v % 16 + 6) % 16 else v
def arrH (t : Nat) : Bool := decide (80 < t - t % 16 + 16 * (t / 16 % 2))
def arrD (t p : Nat) : Nat × Nat :=
  (if arrH t then (arrL t (downV t (p % 2)) + 96) % 256 else arrL t (downV t (p % 2)), sf (sf (nz p (downV t (p % 2))) 64 (decide (t / 64 % 2 ≠ downV t (p % 2) / 64 % 2))) 1 (arrH t))
def arr (a m p : Nat) : Nat × Nat := if dec p then arrD (a &&& m) p else arrB (a &&& m) p
end Go.Proofs.Ytpcfakdddfgkgaa
