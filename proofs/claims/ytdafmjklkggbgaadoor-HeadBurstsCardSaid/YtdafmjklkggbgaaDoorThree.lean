/-
  THE PLAIN MATHEMATICS OF THREE TEXTS, put together bit by bit.
-/
import Derived.Test.YtdafmjklkggbgaaDoorWords
namespace Ks
open Go
/-- a byte of three -/
def x3 (a b c : Int) : Int := bits .xor .u8 (bits .xor .u8 a b) c
def xs3 (a b c : List Int) (k : Nat) : List Int := (List.range k).map fun i => x3 (a.getD i 0) (b.getD i 0) (c.getD i 0)
theorem xs3_succ (a b c : List Int) (k : Nat) : xs3 a b c (k + 1) = xs3 a b c k ++ [x3 (a.getD k 0) (b.getD k 0) (c.getD k 0)] := by
  unfold xs3; rw [List.range_succ, List.map_append]; rfl
theorem xor8 (a b : Int) (ha : 0 ≤ a ∧ a ≤ 255) (hb : 0 ≤ b ∧ b ≤ 255) : 0 ≤ bits .xor .u8 a b ∧ bits .xor .u8 a b ≤ 255 ∧ Bv (bits .xor .u8 a b) = Bv a ^^^ Bv b := by
  rw [u8_xor a b ha.1 (by omega) hb.1 (by omega)]
  have : a.toNat ^^^ b.toNat < 2 ^ 8 := Nat.xor_lt_two_pow (by omega) (by omega)
  refine ⟨by omega, by omega, ?_⟩
  obtain ⟨i, rfl⟩ := Int.eq_ofNat_of_zero_le ha.1
  obtain ⟨j, rfl⟩ := Int.eq_ofNat_of_zero_le hb.1
  unfold Bv
  rw [BitVec.ofInt_natCast, BitVec.ofInt_natCast, BitVec.ofInt_natCast]
  exact BitVec.ofNat_xor
theorem x3_in (a b c : Int) (ha : 0 ≤ a ∧ a ≤ 255) (hb : 0 ≤ b ∧ b ≤ 255) (hc : 0 ≤ c ∧ c ≤ 255) : (0 ≤ x3 a b c ∧ x3 a b c ≤ 255) ∧ Bv (x3 a b c) = Bv a ^^^ Bv b ^^^ Bv c := by
  obtain ⟨h1, h2, h3⟩ := xor8 a b ha hb
  obtain ⟨h4, h5, h6⟩ := xor8 _ c ⟨h1, h2⟩ hc
  exact ⟨⟨h4, h5⟩, by unfold x3; rw [h6, h3]⟩
theorem run3 : ∀ (a b c d : List (BitVec 32)) (s t u : BitVec 32), b.length = a.length → c.length = a.length → d.length = a.length → (∀ i, i < a.length → d.getD i 0#32 = a.getD i 0#32 ^^^ b.getD i 0#32 ^^^ c.getD i 0#32) →
    run (s ^^^ t ^^^ u) d = run s a ^^^ run t b ^^^ run u c := by
  intro a
  induction a with
  | nil =>
    intro b c d s t u hb hc hd _
    obtain rfl := List.length_eq_zero_iff.1 hb
    obtain rfl := List.length_eq_zero_iff.1 hc
    obtain rfl := List.length_eq_zero_iff.1 hd
    rfl
  | cons x a ih =>
    intro b c d s t u hb hc hd h
    match b, c, d, hb, hc, hd with
    | y :: b, z :: c, v :: d, hb, hc, hd =>
      have h0 : v = x ^^^ y ^^^ z := by simpa using h 0 (by simp)
      show run (step (s ^^^ t ^^^ u) v) d = run (step s x) a ^^^ run (step t y) b ^^^ run (step u z) c
      rw [h0, step_xor, step_xor]
      exact ih b c d _ _ _ (by simpa using hb) (by simpa using hc) (by simpa using hd) (fun i hi => by simpa using h (i + 1) (by simp; omega))
theorem xors (a b c : List Int) (n : Nat) (ha : a.length = n) (hb : b.length = n) (hc : c.length = n) (va : ∀ v ∈ a, 0 ≤ v ∧ v ≤ 255) (vb : ∀ v ∈ b, 0 ≤ v ∧ v ≤ 255) (vc : ∀ v ∈ c, 0 ≤ v ∧ v ≤ 255) :
    (∀ v ∈ xs3 a b c n, 0 ≤ v ∧ v ≤ 255) ∧ more 0#32 ((xs3 a b c n).map Bv) = more 0#32 (a.map Bv) ^^^ more 0#32 (b.map Bv) ^^^ more 0#32 (c.map Bv) := by
  have g : ∀ (l : List Int), l.length = n → (∀ v ∈ l, 0 ≤ v ∧ v ≤ 255) → ∀ i, i < n → 0 ≤ l.getD i 0 ∧ l.getD i 0 ≤ 255 := fun l hl hv i hi => by
    have : i < l.length := by omega
    simpa [List.getD, this] using hv l[i] (List.getElem_mem this)
  have ga := g a ha va
  have gb := g b hb vb
  have gc := g c hc vc
  constructor
  · intro v hv
    simp only [xs3, List.mem_map, List.mem_range] at hv
    obtain ⟨i, hi, rfl⟩ := hv
    exact (x3_in _ _ _ (ga i hi) (gb i hi) (gc i hi)).1
  · have m : ∀ (l : List Int) (i : Nat), i < l.length → (l.map Bv).getD i 0#32 = Bv (l.getD i 0) := fun l i h => by simp [List.getD, h]
    have r := run3 (a.map Bv) (b.map Bv) (c.map Bv) ((xs3 a b c n).map Bv) (~~~ 0#32) (~~~ 0#32) (~~~ 0#32) (by simp [ha, hb]) (by simp [ha, hc]) (by simp [xs3, ha]) (by
      intro i hi
      have hi : i < n := by simpa [ha] using hi
      rw [m _ _ (by simp [xs3, hi]), m _ _ (by omega), m _ _ (by omega), m _ _ (by omega), ← (x3_in _ _ _ (ga i hi) (gb i hi) (gc i hi)).2]
      congr 1
      simp [xs3, List.getD, hi])
    rw [BitVec.xor_self, BitVec.zero_xor] at r
    unfold more
    rw [r, not_xor, not_eq (run _ (a.map Bv)), not_eq (run _ (b.map Bv)), xor_swap, BitVec.xor_self, BitVec.xor_zero]
end Ks
