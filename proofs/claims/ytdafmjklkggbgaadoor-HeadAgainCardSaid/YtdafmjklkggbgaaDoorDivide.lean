/-
  THE PLAIN MATHEMATICS OF DIVIDING BIT BY BIT: a window of 32 bits that goes along.
-/
import Derived.Test.YtdafmjklkggbgaaDoorBits
namespace Ks

/-- the first k bits of f as a number -/
def winB (f : Nat → Bool) : Nat → BitVec 32
  | 0 => 0#32
  | k + 1 => winB f k ^^^ (if f k then 1#32 <<< k else 0#32)
theorem one_shl (k t : Nat) (ht : t < 32) : (1#32 <<< k).getLsbD t = decide (t = k) := by
  rw [BitVec.getLsbD_shiftLeft]
  by_cases h : t < k
  · simp [h]; omega
  · rw [BitVec.getLsbD_one]
    have : (t - k = 0) = (t = k) := by simp; omega
    simp [ht, h, this]
theorem winB_bit (f : Nat → Bool) (k t : Nat) (ht : t < 32) : (winB f k).getLsbD t = (decide (t < k) && f t) := by
  induction k with
  | zero => simp [winB]
  | succ k ih =>
    rw [winB, BitVec.getLsbD_xor, ih]
    by_cases e : t = k
    · subst e
      cases h : f t
      · simp
      · simp [one_shl t t ht]
    · have e2 : decide (t < k + 1) = decide (t < k) := by simp; omega
      rw [e2]
      cases h : f k
      · simp
      · simp [one_shl k t ht, e]
/-- 32 bits from m on -/
def win (f : Nat → Bool) (m : Nat) : BitVec 32 := winB (fun t => f (m + t)) 32
theorem win_bit (f : Nat → Bool) (m t : Nat) (ht : t < 32) : (win f m).getLsbD t = f (m + t) := by
  unfold win; rw [winB_bit _ _ _ ht]; simp [ht]
theorem win_congr {f g : Nat → Bool} {m : Nat} (h : ∀ t, t < 32 → f (m + t) = g (m + t)) : win f m = win g m := by
  apply BitVec.eq_of_getLsbD_eq
  intro t ht
  rw [win_bit _ _ _ ht, win_bit _ _ _ ht, h t ht]

def ob (b : Bool) : BitVec 32 := if b then one else 0#32
theorem ob_bit (b : Bool) (t : Nat) (ht : t < 32) : (ob b).getLsbD t = (b && decide (t = 31)) := by
  have h : ∀ t, t < 32 → one.getLsbD t = decide (t = 31) := by decide
  cases b
  · simp [ob]
  · simp [ob, h t ht]
/-- what the window holds behind m steps -/
def Sf (f : Nat → Bool) : Nat → BitVec 32
  | 0 => win f 0
  | m + 1 => X (Sf f m) ^^^ ob (f (m + 32))
theorem X_bit (w : BitVec 32) (t : Nat) (_ht : t < 32) : (X w).getLsbD t = (w.getLsbD (t + 1) ^^ (w.getLsbD 0 && D.getLsbD t)) := by
  unfold X
  cases h : w.getLsbD 0
  · simp only [Bool.false_eq_true, if_false, BitVec.getLsbD_ushiftRight, Bool.false_and, Bool.xor_false]; rw [Nat.add_comm]
  · simp only [if_true, BitVec.getLsbD_xor, BitVec.getLsbD_ushiftRight, Bool.true_and]; rw [Nat.add_comm]
theorem win_next (w : Nat → Bool) (m : Nat) (f : Nat → Bool) (h : ∀ t, t < 32 → f (m + 1 + t) = (w (m + 1 + t) ^^ (w m && D.getLsbD t))) : win f (m + 1) = X (win w m) ^^^ ob (w (m + 32)) := by
  apply BitVec.eq_of_getLsbD_eq
  intro t ht
  rw [win_bit _ _ _ ht, h t ht, BitVec.getLsbD_xor, X_bit _ _ ht, ob_bit _ _ ht, win_bit w m 0 (by omega), show m + 0 = m by omega]
  by_cases e : t = 31
  · subst e
    have e0 : (win w m).getLsbD (31 + 1) = false := BitVec.getLsbD_of_ge _ _ (by omega)
    rw [e0, show m + 1 + 31 = m + 32 by omega]
    cases w (m + 32) <;> cases w m <;> simp
  · rw [win_bit w m (t + 1) (by omega), show m + (t + 1) = m + 1 + t by omega, decide_eq_false e, Bool.and_false, Bool.xor_false]
theorem Sf_eq (f : Nat → Bool) (m : Nat) : Sf f m = GF m f ^^^ win f m := by
  induction m with
  | zero => simp [Sf, GF]
  | succ m ih =>
    have hd : ∀ b : Bool, X (bt b) = (if b then D else 0#32) := by decide
    have e : X (win f m) ^^^ ob (f (m + 32)) = X (bt (f m)) ^^^ win f (m + 1) := by
      -- the window moved on, what the lowest bit leaves beside it
      have h := win_next f m (fun j => f j ^^ (f m && D.getLsbD (j - (m + 1)))) (fun t _ => by
        rw [show m + 1 + t - (m + 1) = t by omega])
      rw [← h, hd]
      apply BitVec.eq_of_getLsbD_eq
      intro t ht
      rw [BitVec.getLsbD_xor, win_bit _ _ _ ht, win_bit _ _ _ ht, show m + 1 + t - (m + 1) = t by omega, Bool.xor_comm]
      congr 1
      cases f m <;> simp
    rw [Sf, ih, X_xor, GF, X_xor, BitVec.xor_assoc, e, BitVec.xor_assoc]

/-- how far below the highest each power of the divisor lies -/
def dl : List Nat := [0, 6, 9, 10, 16, 20, 21, 22, 24, 25, 27, 28, 30, 31, 32]
theorem dl_D : ∀ t, t < 32 → dl.contains (t + 1) = D.getLsbD t := by decide
theorem dl_le : ∀ k, k < 15 → dl.getD k 0 ≤ 32 := by decide
theorem dl_new : ∀ k, k < 15 → (dl.take k).contains (dl.getD k 0) = false := by decide
theorem dl_take : ∀ k, k < 15 → dl.take (k + 1) = dl.take k ++ [dl.getD k 0] := by decide

/-- bits of a list -/
def bl (l : List Bool) (j : Nat) : Bool := l.getD j false
theorem bl_set (l : List Bool) (q : Nat) (hq : q < l.length) (b : Bool) (j : Nat) : bl (l.set q b) j = if j = q then b else bl l j := by
  unfold bl
  by_cases e : j = q
  · subst e; simp [List.getD, hq]
  · simp [List.getD, Ne.symm e, e]
/-- what is turned over behind k powers -/
def Flipped (i k : Nat) (c c' : List Bool) : Prop := c'.length = c.length ∧ ∀ j, j < c.length → bl c' j = (bl c j ^^ (decide (i ≤ j) && (dl.take k).contains (j - i)))
theorem flipped_zero (i : Nat) (c : List Bool) : Flipped i 0 c c := ⟨rfl, fun j _ => by simp⟩
theorem flipped_succ {i k : Nat} {c c' : List Bool} (h : Flipped i k c c') (hk : k < 15) (hi : i + 32 < c.length) :
    Flipped i (k + 1) c (c'.set (i + dl.getD k 0) (!(bl c' (i + dl.getD k 0)))) := by
  have hd := dl_le k hk
  refine ⟨by simp [h.1], fun j hj => ?_⟩
  rw [bl_set _ _ (by have := h.1; omega), dl_take k hk, List.contains_append, h.2 (i + dl.getD k 0) (by omega)]
  have e0 : i + dl.getD k 0 - i = dl.getD k 0 := by omega
  by_cases e : j = i + dl.getD k 0
  · subst e
    rw [if_pos rfl, e0, dl_new k hk]
    simp
  · rw [if_neg e, h.2 j hj]
    by_cases hij : i ≤ j
    · have : [dl.getD k 0].contains (j - i) = false := by
        generalize dl.getD k 0 = d at *
        simp; omega
      rw [this, Bool.or_false]
    · simp [hij]
/-- where the division stands behind i steps -/
def DivAt (l : List Bool) (i : Nat) (c : List Bool) : Prop := c.length = l.length ∧ win (bl c) i = Sf (bl l) i ∧ ∀ j, i + 32 ≤ j → bl c j = bl l j
theorem divAt_zero (l : List Bool) : DivAt l 0 l := ⟨rfl, rfl, fun _ _ => rfl⟩
theorem divAt_no {l c : List Bool} {i : Nat} (h : DivAt l i c) (hb : bl c i = false) : DivAt l (i + 1) c := by
  obtain ⟨h1, h2, h3⟩ := h
  refine ⟨h1, ?_, fun j hj => h3 j (by omega)⟩
  rw [win_next (bl c) i (bl c) (fun t _ => by rw [hb]; simp), h2, h3 (i + 32) (by omega), Sf]
theorem divAt_yes {l c c' : List Bool} {i : Nat} (h : DivAt l i c) (hb : bl c i = true) (hf : Flipped i 15 c c') (hi : i + 32 < l.length) : DivAt l (i + 1) c' := by
  obtain ⟨h1, h2, h3⟩ := h
  obtain ⟨f1, f2⟩ := hf
  have hall : dl.take 15 = dl := by decide
  rw [hall] at f2
  refine ⟨by omega, ?_, fun j hj => ?_⟩
  · rw [win_next (bl c) i (bl c') (fun t ht => ?_), h2, h3 (i + 32) (by omega), Sf]
    rw [f2 _ (by omega), hb, Bool.true_and, show i + 1 + t - i = t + 1 by omega, dl_D t ht]
    simp [show i ≤ i + 1 + t by omega]
  · rw [← h3 j (by omega)]
    by_cases hj2 : j < c.length
    · rw [f2 j hj2]
      have : dl.contains (j - i) = false := by
        have : ∀ d ∈ dl, d ≤ 32 := by decide
        cases hc : dl.contains (j - i)
        · rfl
        · have := this _ (List.contains_iff_mem.1 hc); omega
      rw [this]; simp
    · unfold bl
      rw [List.getD, List.getD, List.getElem?_eq_none (by omega), List.getElem?_eq_none (by omega)]

/-- a number out of its bits, from the highest on -/
theorem win_shr (f : Nat → Bool) (m k : Nat) (hk : k < 32) : 2 * U (win f m >>> (k + 1)) + (if f (m + k) then 1 else 0) = U (win f m >>> k) := by
  have hb := win_bit f m k hk
  rw [BitVec.getLsbD, Nat.testBit_eq_decide_div_mod_eq] at hb
  unfold U
  rw [BitVec.toNat_ushiftRight, BitVec.toNat_ushiftRight, Nat.shiftRight_eq_div_pow, Nat.shiftRight_eq_div_pow, Nat.pow_succ, ← Nat.div_div_eq_div_mul]
  generalize (win f m).toNat / 2 ^ k = q at *
  cases h : f (m + k)
  · rw [h] at hb
    have : ¬ q % 2 = 1 := by simpa using hb
    simp; omega
  · rw [h] at hb
    have : q % 2 = 1 := by simpa using hb
    simp; omega
theorem win_shr32 (f : Nat → Bool) (m : Nat) : U (win f m >>> 32) = 0 := by
  unfold U; rw [BitVec.toNat_ushiftRight, Nat.shiftRight_eq_div_pow]
  have := (win f m).isLt
  omega
theorem win_shr0 (f : Nat → Bool) (m : Nat) : U (win f m >>> 0) = U (win f m) := by simp

/-- zeros behind a number's bits: it is moved on -/
theorem Sf_zeros (f : Nat → Bool) (h : ∀ j, 32 ≤ j → f j = false) (m : Nat) : Sf f m = Xn m (win f 0) := by
  induction m with
  | zero => rfl
  | succ m ih =>
    rw [Sf, ih, h (m + 32) (by omega), ← Xn_X, Xn]
    simp [ob]
/-- a text's bits with 32 zeros behind them, its first 32 turned over -/
theorem Sf_text (g f : Nat → Bool) (n : Nat) (h : ∀ j, n ≤ j → f j = false) (hg : ∀ j, g j = (f j ^^ decide (j < 32))) : Sf g n = Xn n (~~~ 0#32) ^^^ GF n f := by
  have hS : ∀ m, Sf g m = Xn m (~~~ 0#32) ^^^ Sf f m := by
    intro m
    induction m with
    | zero =>
      apply BitVec.eq_of_getLsbD_eq
      intro t ht
      show (win g 0).getLsbD t = (~~~ 0#32 ^^^ win f 0).getLsbD t
      rw [BitVec.getLsbD_xor, win_bit _ _ _ ht, win_bit _ _ _ ht, hg, BitVec.getLsbD_not]
      simp [ht, Bool.xor_comm]
    | succ m ih =>
      rw [Sf, Sf, ih, X_xor, hg (m + 32), Xn, Xn_X]
      have : decide (m + 32 < 32) = false := by simp
      rw [this, Bool.xor_false, BitVec.xor_assoc]
  rw [hS, Sf_eq]
  have : win f n = 0#32 := by
    apply BitVec.eq_of_getLsbD_eq
    intro t ht
    rw [win_bit _ _ _ ht, h _ (by omega)]; simp
  rw [this, BitVec.xor_zero]
theorem not_win (f g : Nat → Bool) (m : Nat) (h : ∀ t, t < 32 → g (m + t) = !f (m + t)) : win g m = ~~~ win f m := by
  apply BitVec.eq_of_getLsbD_eq
  intro t ht
  rw [win_bit _ _ _ ht, h t ht, BitVec.getLsbD_not, win_bit _ _ _ ht]
  simp [ht]
theorem win_num (a : BitVec 32) (f : Nat → Bool) (h : ∀ t, t < 32 → f t = a.getLsbD t) : win f 0 = a := by
  apply BitVec.eq_of_getLsbD_eq
  intro t ht
  rw [win_bit _ _ _ ht, Nat.zero_add, h t ht]
end Ks
