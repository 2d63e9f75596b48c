/-
  THE PLAIN MATHEMATICS OF LAYER 1: polynomials below x^32 as 32 bits, the lowest bit that of x^31. No program, no walk.
-/
namespace Ks

def D : BitVec 32 := 0xedb88320#32
def one : BitVec 32 := 0x80000000#32

/-- times x -/
def X (p : BitVec 32) : BitVec 32 := if p.getLsbD 0 then (p >>> 1) ^^^ D else p >>> 1

theorem xor_lc (a b c : BitVec 32) : a ^^^ (b ^^^ c) = b ^^^ (a ^^^ c) := by
  rw [← BitVec.xor_assoc, BitVec.xor_comm a b, BitVec.xor_assoc]
theorem xor_swap (a b c d : BitVec 32) : (a ^^^ b) ^^^ (c ^^^ d) = (a ^^^ c) ^^^ (b ^^^ d) := by
  rw [BitVec.xor_assoc, BitVec.xor_assoc, xor_lc b c d]
theorem shr_xor (a b : BitVec 32) (n : Nat) : (a ^^^ b) >>> n = (a >>> n) ^^^ (b >>> n) := by
  apply BitVec.eq_of_getLsbD_eq; intro i _; simp

theorem X_xor (a b : BitVec 32) : X (a ^^^ b) = X a ^^^ X b := by
  unfold X
  rw [BitVec.getLsbD_xor, shr_xor]
  cases ha : a.getLsbD 0 <;> cases hb : b.getLsbD 0
  · simp
  · simp [BitVec.xor_assoc]
  · simp [BitVec.xor_assoc, BitVec.xor_comm D]
  · simp only [bne_self_eq_false, Bool.false_eq_true, if_false, if_true]
    rw [xor_swap, BitVec.xor_self, BitVec.xor_zero]

theorem X_zero : X 0#32 = 0#32 := by decide

def Xn : Nat → BitVec 32 → BitVec 32
  | 0, p => p
  | n + 1, p => Xn n (X p)

theorem Xn_zero (n : Nat) : Xn n 0#32 = 0#32 := by
  induction n with
  | zero => rfl
  | succ n ih => rw [Xn, X_zero, ih]
theorem Xn_xor (n : Nat) (a b : BitVec 32) : Xn n (a ^^^ b) = Xn n a ^^^ Xn n b := by
  induction n generalizing a b with
  | zero => rfl
  | succ n ih => rw [Xn, X_xor, ih, Xn, Xn]
theorem Xn_X (n : Nat) (p : BitVec 32) : Xn n (X p) = X (Xn n p) := by
  induction n generalizing p with
  | zero => rfl
  | succ n ih => rw [Xn, ih, Xn]
theorem Xn_add (m n : Nat) (p : BitVec 32) : Xn (m + n) p = Xn n (Xn m p) := by
  induction m generalizing p with
  | zero => simp [Xn]
  | succ m ih => rw [Nat.succ_add, Xn, ih, Xn]
theorem Xn_comm (m n : Nat) (p : BitVec 32) : Xn m (Xn n p) = Xn n (Xn m p) := by
  rw [← Xn_add, ← Xn_add, Nat.add_comm]

theorem D31 : D.getLsbD 31 = true := by decide
theorem X_top (p : BitVec 32) : (X p).getLsbD 31 = p.getLsbD 0 := by
  unfold X
  cases h : p.getLsbD 0
  · simp
  · simp only [if_true, BitVec.getLsbD_xor, D31]; simp

theorem X_eq_zero {p : BitVec 32} (h : X p = 0#32) : p = 0#32 := by
  have h0 : p.getLsbD 0 = false := by rw [← X_top, h]; simp
  have h1 : p >>> 1 = 0#32 := by unfold X at h; rw [h0] at h; simpa using h
  apply BitVec.eq_of_getLsbD_eq
  intro i hi
  cases i with
  | zero => simpa using h0
  | succ i =>
    have := congrArg (fun q => q.getLsbD i) h1
    simp only [BitVec.getLsbD_ushiftRight, BitVec.getLsbD_zero] at this
    rw [Nat.add_comm] at this
    simpa using this
theorem Xn_eq_zero {n : Nat} {p : BitVec 32} (h : Xn n p = 0#32) : p = 0#32 := by
  induction n generalizing p with
  | zero => exact h
  | succ n ih => exact X_eq_zero (ih h)
theorem xor_eq_zero {a b : BitVec 32} (h : a ^^^ b = 0#32) : a = b := by
  have : (a ^^^ b) ^^^ b = 0#32 ^^^ b := by rw [h]
  simpa [BitVec.xor_assoc] using this
theorem Xn_inj {n : Nat} {p q : BitVec 32} (h : Xn n p = Xn n q) : p = q := by
  apply xor_eq_zero
  apply Xn_eq_zero (n := n)
  rw [Xn_xor, h, BitVec.xor_self]

/-- the table, and four steps at once -/
def nib : List Nat := [0, 498536548, 997073096, 651767980, 1994146192, 1802195444, 1303535960, 1342533948, 3988292384, 4027552580, 3604390888, 3412177804, 2607071920, 2262029012, 2685067896, 3183342108]
def four (p : BitVec 32) : BitVec 32 := (p >>> 4) ^^^ BitVec.ofNat 32 (nib.getD (p.toNat % 16) 0)

theorem lo4 : ∀ i, i < 16 → Xn 4 (BitVec.ofNat 32 i) = BitVec.ofNat 32 (nib.getD i 0) := by decide
theorem X_even {p : BitVec 32} (h : p.getLsbD 0 = false) : X p = p >>> 1 := by unfold X; rw [h]; simp
theorem hi4 {p : BitVec 32} (h : ∀ i, i < 4 → p.getLsbD i = false) : Xn 4 p = p >>> 4 := by
  have e1 : X p = p >>> 1 := X_even (h 0 (by omega))
  have e2 : X (p >>> 1) = p >>> 1 >>> 1 := X_even (by simpa using h 1 (by omega))
  have e3 : X (p >>> 1 >>> 1) = p >>> 1 >>> 1 >>> 1 := X_even (by simpa using h 2 (by omega))
  have e4 : X (p >>> 1 >>> 1 >>> 1) = p >>> 1 >>> 1 >>> 1 >>> 1 := X_even (by simpa using h 3 (by omega))
  show X (X (X (X p))) = _
  rw [e1, e2, e3, e4]
  simp only [← BitVec.shiftRight_add]
theorem split4 (p : BitVec 32) : p = (p >>> 4 <<< 4) ^^^ BitVec.ofNat 32 (p.toNat % 16) := by
  apply BitVec.eq_of_getLsbD_eq
  intro i hi
  have e : p.toNat % 16 = p.toNat % 2 ^ 4 := rfl
  rw [BitVec.getLsbD_xor, BitVec.getLsbD_shiftLeft, BitVec.getLsbD_ushiftRight, BitVec.getLsbD_ofNat, e, Nat.testBit_mod_two_pow]
  by_cases h4 : i < 4
  · simp [hi, h4, BitVec.getLsbD]
  · have : 4 + (i - 4) = i := by omega
    simp [hi, h4, this]
theorem four_eq (p : BitVec 32) : four p = Xn 4 p := by
  conv => rhs; rw [split4 p]
  rw [Xn_xor, lo4 _ (Nat.mod_lt _ (by decide)), hi4 (p := p >>> 4 <<< 4)]
  · unfold four
    congr 1
    apply BitVec.eq_of_getLsbD_eq
    intro i hi
    simp only [BitVec.getLsbD_ushiftRight, BitVec.getLsbD_shiftLeft]
    by_cases h : 4 + i < 32
    · have e : 4 + (4 + i - 4) = 4 + i := by omega
      simp [h]
    · simp [h]
      exact BitVec.getLsbD_of_ge _ _ (by omega)
  · intro i hi
    simp [hi]

/-- a byte more -/
def step (s v : BitVec 32) : BitVec 32 := Xn 8 (s ^^^ v)
theorem step_four (s v : BitVec 32) : four (four (s ^^^ v)) = step s v := by
  rw [four_eq, four_eq, ← Xn_add]; rfl
def run (s : BitVec 32) (l : List (BitVec 32)) : BitVec 32 := l.foldl step s
def more (sum : BitVec 32) (l : List (BitVec 32)) : BitVec 32 := ~~~ run (~~~ sum) l

theorem run_append (s : BitVec 32) (l r : List (BitVec 32)) : run s (l ++ r) = run (run s l) r := by
  unfold run; rw [List.foldl_append]
theorem run_snoc (s : BitVec 32) (l : List (BitVec 32)) (v : BitVec 32) : run s (l ++ [v]) = step (run s l) v := by
  rw [run_append]; rfl
theorem step_xor (s t u v : BitVec 32) : step (s ^^^ t) (u ^^^ v) = step s u ^^^ step t v := by
  unfold step; rw [← Xn_xor, xor_swap]
/-- what is ahead of a text and the text itself: two parts -/
theorem run_split (s t : BitVec 32) (l : List (BitVec 32)) : run (s ^^^ t) l = Xn (8 * l.length) s ^^^ run t l := by
  induction l generalizing s t with
  | nil => rfl
  | cons v l ih =>
    show run (step (s ^^^ t) v) l = Xn (8 * (l.length + 1)) s ^^^ run (step t v) l
    have e : step (s ^^^ t) v = step s 0#32 ^^^ step t v := by rw [← step_xor]; simp
    have e2 : step s 0#32 = Xn 8 s := by unfold step; simp
    rw [e, ih, e2, ← Xn_add, show 8 + 8 * l.length = 8 * (l.length + 1) by omega]
theorem not_xor (a b : BitVec 32) : ~~~ (a ^^^ b) = a ^^^ ~~~ b := by
  apply BitVec.eq_of_getLsbD_eq; intro i hi; simp only [BitVec.getLsbD_not, BitVec.getLsbD_xor, hi, decide_true, Bool.true_and]; cases a.getLsbD i <;> cases b.getLsbD i <;> rfl
theorem not_eq (a : BitVec 32) : ~~~ a = a ^^^ ~~~ 0#32 := by
  rw [← not_xor, BitVec.xor_zero]
theorem more_append (s : BitVec 32) (l r : List (BitVec 32)) : more (more s l) r = more s (l ++ r) := by
  unfold more; rw [BitVec.not_not, run_append]
theorem more_nil (s : BitVec 32) : more s [] = s := by unfold more run; simp

/-- two sums joined -/
def join (a b : BitVec 32) (n : Nat) : BitVec 32 := Xn (8 * n) a ^^^ b
theorem join_sum (s : BitVec 32) (r : List (BitVec 32)) : join s (more 0#32 r) r.length = more s r := by
  unfold join more
  have h1 : run (~~~ s) r = Xn (8 * r.length) s ^^^ run (~~~ 0#32) r := by
    rw [← run_split, ← not_eq]
  rw [h1, not_xor]

/-- products -/
def tloop : Nat → BitVec 32 → BitVec 32 → BitVec 32 → BitVec 32
  | 0, _, _, acc => acc
  | n + 1, p, q, acc => tloop n (p >>> 1) q (if p.getLsbD 0 then X acc ^^^ q else X acc)
def times (p q : BitVec 32) : BitVec 32 := tloop 32 p q 0#32
theorem tloop_X (n : Nat) (p q acc : BitVec 32) : tloop n p (X q) (X acc) = X (tloop n p q acc) := by
  induction n generalizing p acc with
  | zero => rfl
  | succ n ih =>
    simp only [tloop]
    cases p.getLsbD 0
    · exact ih (p >>> 1) (X acc)
    · simp only [if_true]
      rw [← X_xor]; exact ih (p >>> 1) (X acc ^^^ q)
theorem times_X (p q : BitVec 32) : times p (X q) = X (times p q) := by
  unfold times; rw [← tloop_X, X_zero]
theorem times_Xn (k : Nat) (p q : BitVec 32) : times p (Xn k q) = Xn k (times p q) := by
  induction k generalizing q with
  | zero => rfl
  | succ k ih => rw [Xn, ih, times_X, Xn]
theorem tloop_one (n : Nat) (hn : n ≤ 32) (p : BitVec 32) : tloop n (p >>> (32 - n)) one (p <<< n) = p := by
  induction n with
  | zero => simp [tloop]
  | succ n ih =>
    have hb : (p <<< (n + 1)).getLsbD 0 = false := by simp
    have e : (if (p >>> (32 - (n + 1))).getLsbD 0 = true then X (p <<< (n + 1)) ^^^ one else X (p <<< (n + 1))) = p <<< n := by
      rw [X_even hb]
      apply BitVec.eq_of_getLsbD_eq
      intro i hi
      have o : one.getLsbD i = decide (i = 31) := by
        have : ∀ i, i < 32 → one.getLsbD i = decide (i = 31) := by decide
        exact this i hi
      rw [BitVec.getLsbD_ushiftRight]
      by_cases h31 : i = 31
      · subst h31
        have e31 : 32 - (n + 1) + 0 = 31 - n := by omega
        have r : (p <<< n).getLsbD 31 = p.getLsbD (31 - n) := by
          simp only [BitVec.getLsbD_shiftLeft, show ¬ 31 < n by omega]; simp
        have l : (p <<< (n + 1) >>> 1).getLsbD 31 = false := by
          simp only [BitVec.getLsbD_ushiftRight]; exact BitVec.getLsbD_of_ge _ _ (by omega)
        rw [e31, r]
        cases hq : p.getLsbD (31 - n)
        · simp only [Bool.false_eq_true, if_false, l]
        · simp only [if_true, BitVec.getLsbD_xor, l, o]; rfl
      · have r : (p <<< n).getLsbD i = (p <<< (n + 1) >>> 1).getLsbD i := by
          simp only [BitVec.getLsbD_shiftLeft, BitVec.getLsbD_ushiftRight, hi, show 1 + i < 32 by omega, show 1 + i - (n + 1) = i - n by omega, show (1 + i < n + 1) = (i < n) by simp; omega]
        rw [r]
        cases hq : p.getLsbD (32 - (n + 1) + 0)
        · simp only [Bool.false_eq_true, if_false]
        · simp only [if_true, BitVec.getLsbD_xor, o, h31]; simp
    rw [tloop, e, ← BitVec.shiftRight_add, show 32 - (n + 1) + 1 = 32 - n by omega]
    exact ih (by omega)
theorem times_one (p : BitVec 32) : times p one = p := by
  have := tloop_one 32 (by omega) p
  simpa [times] using this
theorem times_pow (k : Nat) (p : BitVec 32) : times p (Xn k one) = Xn k p := by
  rw [times_Xn, times_one]
def octet : BitVec 32 := 0x800000#32
theorem octet_eq : octet = Xn 8 one := by decide
/-- a power by squares -/
def pw (n : Nat) : BitVec 32 := Xn (8 * n) one
theorem pw_zero : pw 0 = one := rfl
theorem pw_even (n : Nat) (h : n % 2 = 0) : times (pw (n / 2)) (pw (n / 2)) = pw n := by
  unfold pw; rw [times_pow, ← Xn_add]; congr 1; omega
theorem pw_odd (n : Nat) (h : n % 2 = 1) : times (times (pw (n / 2)) (pw (n / 2))) octet = pw n := by
  rw [octet_eq, times_pow]; unfold pw; rw [times_pow, ← Xn_add, ← Xn_add]; congr 1; omega
theorem join_times (a b : BitVec 32) (n : Nat) : times a (pw n) ^^^ b = join a b n := by
  unfold pw join; rw [times_pow]

end Ks
