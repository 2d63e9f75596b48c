/-
  THE PLAIN MATHEMATICS OF NUMBERS LAID AS BYTES, the lowest first, and of a check sum behind what it is of. No program, no walk.
-/
import Derived.Test.YtpbhkkcboppdmaaDoorHBits
namespace Ks

/-- k bytes of a number -/
def le (k : Nat) (n : Int) : List Int := (List.range k).map fun j => n / 256 ^ j % 256
theorem le_zero (n : Int) : le 0 n = [] := rfl
theorem le_succ (k : Nat) (n : Int) : le (k + 1) n = le k n ++ [n / 256 ^ k % 256] := by
  unfold le; rw [List.range_succ, List.map_append]; rfl
theorem pow_step (n : Int) (j : Nat) : n / 256 ^ (j + 1) = n / 256 / 256 ^ j := by
  rw [Int.ediv_ediv_of_nonneg (by decide), Int.pow_succ, Int.mul_comm]
theorem le_cons (k : Nat) (n : Int) : le (k + 1) n = n % 256 :: le k (n / 256) := by
  unfold le
  rw [List.range_succ_eq_map, List.map_cons, List.map_map]
  congr 1
  · simp
  · apply List.map_congr_left
    intro j _
    show n / 256 ^ (j + 1) % 256 = _
    rw [pow_step]
theorem le_len (k : Nat) (n : Int) : (le k n).length = k := by simp [le]
theorem le_in (k : Nat) (n : Int) : ∀ v ∈ le k n, 0 ≤ v ∧ v ≤ 255 := by
  intro v hv
  simp only [le, List.mem_map] at hv
  obtain ⟨j, _, rfl⟩ := hv
  omega
/-- the number of bytes -/
def num : List Int → Int
  | [] => 0
  | x :: r => x + 256 * num r
theorem num_le (k : Nat) (n : Int) (h0 : 0 ≤ n) (h1 : n < 256 ^ k) : num (le k n) = n := by
  induction k generalizing n with
  | zero => have : n = 0 := by simp at h1; omega
            subst this; rfl
  | succ k ih =>
    rw [le_cons, num, ih (n / 256) (by omega) (by rw [Int.pow_succ] at h1; omega)]
    omega
theorem le_num (l : List Int) (h : ∀ v ∈ l, 0 ≤ v ∧ v ≤ 255) : le l.length (num l) = l := by
  induction l with
  | nil => rfl
  | cons x r ih =>
    have hx := h x (by simp)
    rw [List.length_cons, le_cons, num, show (x + 256 * num r) % 256 = x by omega, show (x + 256 * num r) / 256 = num r by omega, ih (fun v hv => h v (by simp [hv]))]
theorem num_in (l : List Int) (h : ∀ v ∈ l, 0 ≤ v ∧ v ≤ 255) : 0 ≤ num l ∧ num l < 256 ^ l.length := by
  induction l with
  | nil => exact ⟨Int.le_refl _, by decide⟩
  | cons x r ih =>
    have hx := h x (by simp)
    obtain ⟨h1, h2⟩ := ih (fun v hv => h v (by simp [hv]))
    rw [List.length_cons, Int.pow_succ, num]
    omega
theorem num_drop (l : List Int) (m : Nat) (h : m < l.length) : num (l.drop m) = l.getD m 0 + 256 * num (l.drop (m + 1)) := by
  rw [List.drop_eq_getElem_cons h, num]
  simp [List.getD, h]
theorem num_end (l : List Int) : num (l.drop l.length) = 0 := by rw [List.drop_length]; rfl
/-- one part of a list -/
def part (l : List Int) (o k : Nat) : List Int := (l.drop o).take k
theorem part_len (l : List Int) (o k : Nat) (h : o + k ≤ l.length) : (part l o k).length = k := by simp [part]; omega
theorem part_in (l : List Int) (h : ∀ v ∈ l, 0 ≤ v ∧ v ≤ 255) (o k : Nat) : ∀ v ∈ part l o k, 0 ≤ v ∧ v ≤ 255 := fun v hv => h v (List.mem_of_mem_drop (List.mem_of_mem_take hv))
theorem part_getD (l : List Int) (o k j : Nat) (h : j < k) : (part l o k).getD j 0 = l.getD (o + j) 0 := by
  simp [part, List.getD, List.getElem?_drop, h]
theorem part_next (l : List Int) (o k : Nat) : l.take (o + k) = l.take o ++ part l o k := by
  unfold part; rw [List.take_add]
theorem part_one (l : List Int) (o : Nat) (h : o < l.length) : part l o 1 = [l.getD o 0] := by
  unfold part
  rw [List.drop_eq_getElem_cons h, List.take_succ_cons, List.take_zero]
  simp [List.getD, h]
theorem le_part (l : List Int) (h : ∀ v ∈ l, 0 ≤ v ∧ v ≤ 255) (o k : Nat) (hk : o + k ≤ l.length) : le k (num (part l o k)) = part l o k := by
  have := le_num (part l o k) (part_in l h o k)
  rwa [part_len l o k hk] at this
theorem le_one (x : Int) (h : 0 ≤ x ∧ x ≤ 255) : le 1 x = [x] := by
  rw [le_cons, le_zero, show x % 256 = x by omega]
theorem getD_in (l : List Int) (h : ∀ v ∈ l, 0 ≤ v ∧ v ≤ 255) (j : Nat) : 0 ≤ l.getD j 0 ∧ l.getD j 0 ≤ 255 := by
  by_cases hj : j < l.length
  · simpa [List.getD, hj] using h l[j] (List.getElem_mem hj)
  · rw [List.getD, List.getElem?_eq_none (by omega)]; simp

/-- a text's check sum -/
def sumOf (l : List Int) : Int := U (more 0#32 (l.map Bv))
theorem sumOf_in (l : List Int) : 0 ≤ sumOf l ∧ sumOf l < 4294967296 := ⟨U_ge _, U_lt _⟩
theorem le4 (a : Int) (h0 : 0 ≤ a) (h1 : a ≤ 4294967295) : le 4 a = [a % 256, a / 256 % 256, a / 65536 % 256, a / 16777216] := by
  rw [le_cons, le_cons, le_cons, le_cons, le_zero]
  have e1 : a / 256 / 256 = a / 65536 := by omega
  have e2 : a / 65536 / 256 = a / 16777216 := by omega
  rw [e1, e2, show a / 16777216 % 256 = a / 16777216 by omega]
/-- with its check sum behind it each text has one sum -/
theorem sealed (t s : List Int) (hs : s.length = 4) (vs : ∀ v ∈ s, 0 ≤ v ∧ v ≤ 255) (h : num s = sumOf t) : more 0#32 ((t ++ s).map Bv) = ~~~ Xn 32 (~~~ 0#32) := by
  have hn := num_in s vs
  rw [hs] at hn
  have e := le_num s vs
  rw [hs, le4 _ hn.1 (by have := hn.2; omega)] at e
  have hb : Bv (num s) = more 0#32 (t.map Bv) := by rw [h]; exact Bv_U _
  suffices H : run (~~~ 0#32) ((t ++ s).map Bv) = Xn 32 (~~~ 0#32) by
    unfold more; exact congrArg (fun x => ~~~ x) H
  rw [List.map_append, run_append]
  have hr : run (~~~ 0#32) (t.map Bv) = ~~~ more 0#32 (t.map Bv) := by unfold more; rw [BitVec.not_not]
  rw [hr]
  have h2 := run_split (~~~ more 0#32 (t.map Bv)) 0#32 (s.map Bv)
  rw [BitVec.xor_zero, List.length_map, hs] at h2
  have h3 : run 0#32 (s.map Bv) = Xn 32 (Bv (num s)) := by
    conv => lhs; rw [← e]
    exact four_bytes (num s) hn.1 (by have := hn.2; omega)
  rw [h2, h3, hb, ← Xn_xor]
  generalize more 0#32 (t.map Bv) = x
  have hx : ~~~ x ^^^ x = ~~~ 0#32 := by rw [not_eq x, BitVec.xor_comm x, BitVec.xor_assoc, BitVec.xor_self, BitVec.xor_zero]
  rw [hx]
end Ks
