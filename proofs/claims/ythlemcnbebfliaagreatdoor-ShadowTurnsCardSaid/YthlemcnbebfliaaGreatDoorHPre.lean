/-
  THE PLAIN MATHEMATICS OF LAYER 1: polynomials below x^32 as 32 bits, the lowest bit that of x^31. No program, no walk.
  HOW THE WALK SPELLS 32-BIT NUMBERS: a value of kind u32 as 'U x', x of 32 bits.
  BOTH TABLES; THE WALKS OF crc.fourOn, More, Sum.
  THE WALKS OF geo.Right, geo.Total AND OF THE DOCUMENT's, with what stands below them.
  THE WALK OF keepsakeref01.Same.
  THE WALKS OF head.canBe AND keepsakeref04.can.
  THE PLAIN MATHEMATICS OF BITS IN A ROW: a text's bits one by one; what differs within 32 of them.
  THE PLAIN MATHEMATICS OF NUMBERS LAID AS BYTES, the lowest first, and of a check sum behind what it is of. No program, no walk.
  THE WALKS OF head.lay (of each type).
  THE WALKS OF head.take (of each type) AND OF keepsakeref04.Number.
-/
import Derived.Laws.BitsAllLaws
import GoSem.Claim
import Derived.Test.YthlemcnbebfliaaGreatDoorRows
import Derived.WalkKit
import Derived.WalkSpells
import Derived.WalkLawsBesides
import Derived.ProofKit
import Derived.Below
import Derived.Handy
import Derived.Lib.Hide
import Derived.Lib.QuietBelow
import Derived.BigQuiet
import Derived.OpenShut
import Derived.Laws.BitsLemmas
namespace Ks

def D : BitVec 32 := 0xedb88320#32
def one : BitVec 32 := 0x80000000#32

/-- times x -/
def X (p : BitVec 32) : BitVec 32 := if p.getLsbD 0 then (p >>> 1) ^^^ D else p >>> 1

theorem xor_lc (a b c : BitVec 32) : a ^^^ (b ^^^ c) = b ^^^ (a ^^^ c) := by
  rw [← BitVec.xor_assoc, BitVec.xor_comm a b, BitVec.xor_assoc]
theorem xor_swap (a b c d : BitVec 32) : (a ^^^ b) ^^^ (c ^^^ d) = (a ^^^ c) ^^^ (b ^^^ d) := by
  rw [BitVec.xor_assoc, BitVec.xor_assoc, xor_lc b c d]
theorem shr_xor (a b : BitVec 32) (n : Nat) : (a ^^^ b) >>> n = (a >>> n) ^^^ (b >>> n) := by
  apply BitVec.eq_of_getLsbD_eq; intro i _; simp

theorem X_xor (a b : BitVec 32) : X (a ^^^ b) = X a ^^^ X b := by
  unfold X
  rw [BitVec.getLsbD_xor, shr_xor]
  cases ha : a.getLsbD 0 <;> cases hb : b.getLsbD 0
  · simp
  · simp [BitVec.xor_assoc]
  · simp [BitVec.xor_assoc, BitVec.xor_comm D]
  · simp only [bne_self_eq_false, Bool.false_eq_true, if_false, if_true]
    rw [xor_swap, BitVec.xor_self, BitVec.xor_zero]

theorem X_zero : X 0#32 = 0#32 := by decide

def Xn : Nat → BitVec 32 → BitVec 32
  | 0, p => p
  | n + 1, p => Xn n (X p)

theorem Xn_zero (n : Nat) : Xn n 0#32 = 0#32 := by
  induction n with
  | zero => rfl
  | succ n ih => rw [Xn, X_zero, ih]
theorem Xn_xor (n : Nat) (a b : BitVec 32) : Xn n (a ^^^ b) = Xn n a ^^^ Xn n b := by
  induction n generalizing a b with
  | zero => rfl
  | succ n ih => rw [Xn, X_xor, ih, Xn, Xn]
theorem Xn_X (n : Nat) (p : BitVec 32) : Xn n (X p) = X (Xn n p) := by
  induction n generalizing p with
  | zero => rfl
  | succ n ih => rw [Xn, ih, Xn]
theorem Xn_add (m n : Nat) (p : BitVec 32) : Xn (m + n) p = Xn n (Xn m p) := by
  induction m generalizing p with
  | zero => simp [Xn]
  | succ m ih => rw [Nat.succ_add, Xn, ih, Xn]
theorem Xn_comm (m n : Nat) (p : BitVec 32) : Xn m (Xn n p) = Xn n (Xn m p) := by
  rw [← Xn_add, ← Xn_add, Nat.add_comm]

theorem D31 : D.getLsbD 31 = true := by decide
theorem X_top (p : BitVec 32) : (X p).getLsbD 31 = p.getLsbD 0 := by
  unfold X
  cases h : p.getLsbD 0
  · simp
  · simp only [if_true, BitVec.getLsbD_xor, D31]; simp

theorem X_eq_zero {p : BitVec 32} (h : X p = 0#32) : p = 0#32 := by
  have h0 : p.getLsbD 0 = false := by rw [← X_top, h]; simp
  have h1 : p >>> 1 = 0#32 := by unfold X at h; rw [h0] at h; simpa using h
  apply BitVec.eq_of_getLsbD_eq
  intro i hi
  cases i with
  | zero => simpa using h0
  | succ i =>
    have := congrArg (fun q => q.getLsbD i) h1
    simp only [BitVec.getLsbD_ushiftRight, BitVec.getLsbD_zero] at this
    rw [Nat.add_comm] at this
    simpa using this
theorem Xn_eq_zero {n : Nat} {p : BitVec 32} (h : Xn n p = 0#32) : p = 0#32 := by
  induction n generalizing p with
  | zero => exact h
  | succ n ih => exact X_eq_zero (ih h)
theorem xor_eq_zero {a b : BitVec 32} (h : a ^^^ b = 0#32) : a = b := by
  have : (a ^^^ b) ^^^ b = 0#32 ^^^ b := by rw [h]
  simpa [BitVec.xor_assoc] using this
theorem Xn_inj {n : Nat} {p q : BitVec 32} (h : Xn n p = Xn n q) : p = q := by
  apply xor_eq_zero
  apply Xn_eq_zero (n := n)
  rw [Xn_xor, h, BitVec.xor_self]

/-- the table, and four steps at once -/
def nib : List Nat := [0, 498536548, 997073096, 651767980, 1994146192, 1802195444, 1303535960, 1342533948, 3988292384, 4027552580, 3604390888, 3412177804, 2607071920, 2262029012, 2685067896, 3183342108]
def four (p : BitVec 32) : BitVec 32 := (p >>> 4) ^^^ BitVec.ofNat 32 (nib.getD (p.toNat % 16) 0)

theorem lo4 : ∀ i, i < 16 → Xn 4 (BitVec.ofNat 32 i) = BitVec.ofNat 32 (nib.getD i 0) := by decide
theorem X_even {p : BitVec 32} (h : p.getLsbD 0 = false) : X p = p >>> 1 := by unfold X; rw [h]; simp
theorem hi4 {p : BitVec 32} (h : ∀ i, i < 4 → p.getLsbD i = false) : Xn 4 p = p >>> 4 := by
  have e1 : X p = p >>> 1 := X_even (h 0 (by omega))
  have e2 : X (p >>> 1) = p >>> 1 >>> 1 := X_even (by simpa using h 1 (by omega))
  have e3 : X (p >>> 1 >>> 1) = p >>> 1 >>> 1 >>> 1 := X_even (by simpa using h 2 (by omega))
  have e4 : X (p >>> 1 >>> 1 >>> 1) = p >>> 1 >>> 1 >>> 1 >>> 1 := X_even (by simpa using h 3 (by omega))
  show X (X (X (X p))) = _
  rw [e1, e2, e3, e4]
  simp only [← BitVec.shiftRight_add]
theorem split4 (p : BitVec 32) : p = (p >>> 4 <<< 4) ^^^ BitVec.ofNat 32 (p.toNat % 16) := by
  apply BitVec.eq_of_getLsbD_eq
  intro i hi
  have e : p.toNat % 16 = p.toNat % 2 ^ 4 := rfl
  rw [BitVec.getLsbD_xor, BitVec.getLsbD_shiftLeft, BitVec.getLsbD_ushiftRight, BitVec.getLsbD_ofNat, e, Nat.testBit_mod_two_pow]
  by_cases h4 : i < 4
  · simp [hi, h4, BitVec.getLsbD]
  · have : 4 + (i - 4) = i := by omega
    simp [hi, h4, this]
theorem four_eq (p : BitVec 32) : four p = Xn 4 p := by
  conv => rhs; rw [split4 p]
  rw [Xn_xor, lo4 _ (Nat.mod_lt _ (by decide)), hi4 (p := p >>> 4 <<< 4)]
  · unfold four
    congr 1
    apply BitVec.eq_of_getLsbD_eq
    intro i hi
    simp only [BitVec.getLsbD_ushiftRight, BitVec.getLsbD_shiftLeft]
    by_cases h : 4 + i < 32
    · have e : 4 + (4 + i - 4) = 4 + i := by omega
      simp [h]
    · simp [h]
      exact BitVec.getLsbD_of_ge _ _ (by omega)
  · intro i hi
    simp [hi]

/-- a byte more -/
def step (s v : BitVec 32) : BitVec 32 := Xn 8 (s ^^^ v)
theorem step_four (s v : BitVec 32) : four (four (s ^^^ v)) = step s v := by
  rw [four_eq, four_eq, ← Xn_add]; rfl
def run (s : BitVec 32) (l : List (BitVec 32)) : BitVec 32 := l.foldl step s
def more (sum : BitVec 32) (l : List (BitVec 32)) : BitVec 32 := ~~~ run (~~~ sum) l

theorem run_append (s : BitVec 32) (l r : List (BitVec 32)) : run s (l ++ r) = run (run s l) r := by
  unfold run; rw [List.foldl_append]
theorem run_snoc (s : BitVec 32) (l : List (BitVec 32)) (v : BitVec 32) : run s (l ++ [v]) = step (run s l) v := by
  rw [run_append]; rfl
theorem step_xor (s t u v : BitVec 32) : step (s ^^^ t) (u ^^^ v) = step s u ^^^ step t v := by
  unfold step; rw [← Xn_xor, xor_swap]
/-- what is ahead of a text and the text itself: two parts -/
theorem run_split (s t : BitVec 32) (l : List (BitVec 32)) : run (s ^^^ t) l = Xn (8 * l.length) s ^^^ run t l := by
  induction l generalizing s t with
  | nil => rfl
  | cons v l ih =>
    show run (step (s ^^^ t) v) l = Xn (8 * (l.length + 1)) s ^^^ run (step t v) l
    have e : step (s ^^^ t) v = step s 0#32 ^^^ step t v := by rw [← step_xor]; simp
    have e2 : step s 0#32 = Xn 8 s := by unfold step; simp
    rw [e, ih, e2, ← Xn_add, show 8 + 8 * l.length = 8 * (l.length + 1) by omega]
theorem not_xor (a b : BitVec 32) : ~~~ (a ^^^ b) = a ^^^ ~~~ b := by
  apply BitVec.eq_of_getLsbD_eq; intro i hi; simp only [BitVec.getLsbD_not, BitVec.getLsbD_xor, hi, decide_true, Bool.true_and]; cases a.getLsbD i <;> cases b.getLsbD i <;> rfl
theorem not_eq (a : BitVec 32) : ~~~ a = a ^^^ ~~~ 0#32 := by
  rw [← not_xor, BitVec.xor_zero]
theorem more_append (s : BitVec 32) (l r : List (BitVec 32)) : more (more s l) r = more s (l ++ r) := by
  unfold more; rw [BitVec.not_not, run_append]
theorem more_nil (s : BitVec 32) : more s [] = s := by unfold more run; simp

/-- two sums joined -/
def join (a b : BitVec 32) (n : Nat) : BitVec 32 := Xn (8 * n) a ^^^ b
theorem join_sum (s : BitVec 32) (r : List (BitVec 32)) : join s (more 0#32 r) r.length = more s r := by
  unfold join more
  have h1 : run (~~~ s) r = Xn (8 * r.length) s ^^^ run (~~~ 0#32) r := by
    rw [← run_split, ← not_eq]
  rw [h1, not_xor]

/-- products -/
def tloop : Nat → BitVec 32 → BitVec 32 → BitVec 32 → BitVec 32
  | 0, _, _, acc => acc
  | n + 1, p, q, acc => tloop n (p >>> 1) q (if p.getLsbD 0 then X acc ^^^ q else X acc)
def times (p q : BitVec 32) : BitVec 32 := tloop 32 p q 0#32
theorem tloop_X (n : Nat) (p q acc : BitVec 32) : tloop n p (X q) (X acc) = X (tloop n p q acc) := by
  induction n generalizing p acc with
  | zero => rfl
  | succ n ih =>
    simp only [tloop]
    cases p.getLsbD 0
    · exact ih (p >>> 1) (X acc)
    · simp only [if_true]
      rw [← X_xor]; exact ih (p >>> 1) (X acc ^^^ q)
theorem times_X (p q : BitVec 32) : times p (X q) = X (times p q) := by
  unfold times; rw [← tloop_X, X_zero]
theorem times_Xn (k : Nat) (p q : BitVec 32) : times p (Xn k q) = Xn k (times p q) := by
  induction k generalizing q with
  | zero => rfl
  | succ k ih => rw [Xn, ih, times_X, Xn]
theorem tloop_one (n : Nat) (hn : n ≤ 32) (p : BitVec 32) : tloop n (p >>> (32 - n)) one (p <<< n) = p := by
  induction n with
  | zero => simp [tloop]
  | succ n ih =>
    have hb : (p <<< (n + 1)).getLsbD 0 = false := by simp
    have e : (if (p >>> (32 - (n + 1))).getLsbD 0 = true then X (p <<< (n + 1)) ^^^ one else X (p <<< (n + 1))) = p <<< n := by
      rw [X_even hb]
      apply BitVec.eq_of_getLsbD_eq
      intro i hi
      have o : one.getLsbD i = decide (i = 31) := by
        have : ∀ i, i < 32 → one.getLsbD i = decide (i = 31) := by decide
        exact this i hi
      rw [BitVec.getLsbD_ushiftRight]
      by_cases h31 : i = 31
      · subst h31
        have e31 : 32 - (n + 1) + 0 = 31 - n := by omega
        have r : (p <<< n).getLsbD 31 = p.getLsbD (31 - n) := by
          simp only [BitVec.getLsbD_shiftLeft, show ¬ 31 < n by omega]; simp
        have l : (p <<< (n + 1) >>> 1).getLsbD 31 = false := by
          simp only [BitVec.getLsbD_ushiftRight]; exact BitVec.getLsbD_of_ge _ _ (by omega)
        rw [e31, r]
        cases hq : p.getLsbD (31 - n)
        · simp only [Bool.false_eq_true, if_false, l]
        · simp only [if_true, BitVec.getLsbD_xor, l, o]; rfl
      · have r : (p <<< n).getLsbD i = (p <<< (n + 1) >>> 1).getLsbD i := by
          simp only [BitVec.getLsbD_shiftLeft, BitVec.getLsbD_ushiftRight, hi, show 1 + i < 32 by omega, show 1 + i - (n + 1) = i - n by omega, show (1 + i < n + 1) = (i < n) by simp; omega]
        rw [r]
        cases hq : p.getLsbD (32 - (n + 1) + 0)
        · simp only [Bool.false_eq_true, if_false]
        · simp only [if_true, BitVec.getLsbD_xor, o, h31]; simp
    rw [tloop, e, ← BitVec.shiftRight_add, show 32 - (n + 1) + 1 = 32 - n by omega]
    exact ih (by omega)
theorem times_one (p : BitVec 32) : times p one = p := by
  have := tloop_one 32 (by omega) p
  simpa [times] using this
theorem times_pow (k : Nat) (p : BitVec 32) : times p (Xn k one) = Xn k p := by
  rw [times_Xn, times_one]
def octet : BitVec 32 := 0x800000#32
theorem octet_eq : octet = Xn 8 one := by decide
/-- a power by squares -/
def pw (n : Nat) : BitVec 32 := Xn (8 * n) one
theorem pw_zero : pw 0 = one := rfl
theorem pw_even (n : Nat) (h : n % 2 = 0) : times (pw (n / 2)) (pw (n / 2)) = pw n := by
  unfold pw; rw [times_pow, ← Xn_add]; congr 1; omega
theorem pw_odd (n : Nat) (h : n % 2 = 1) : times (times (pw (n / 2)) (pw (n / 2))) octet = pw n := by
  rw [octet_eq, times_pow]; unfold pw; rw [times_pow, ← Xn_add, ← Xn_add]; congr 1; omega
theorem join_times (a b : BitVec 32) (n : Nat) : times a (pw n) ^^^ b = join a b n := by
  unfold pw join; rw [times_pow]

end Ks
namespace Ks
open Go
/-- the integer of 32 bits -/
def U (x : BitVec 32) : Int := (x.toNat : Int)
theorem U_ge (x : BitVec 32) : 0 ≤ U x := by unfold U; omega
theorem U_lt (x : BitVec 32) : U x < 4294967296 := by unfold U; have := x.isLt; omega
theorem U_wf (x : BitVec 32) : (Lit.int .u32 (U x)).wf = true := by
  have h1 := U_ge x
  have h2 := U_lt x
  simp [Lit.wf, IntKind.min, IntKind.max, IntKind.signed, IntKind.bits]; omega
/-- the 32 bits of an integer -/
def Bv (n : Int) : BitVec 32 := BitVec.ofInt 32 n
theorem Bv_U (x : BitVec 32) : Bv (U x) = x := by
  unfold Bv U; rw [BitVec.ofInt_natCast, BitVec.ofNat_toNat]; simp
theorem U_Bv (n : Int) (h0 : 0 ≤ n) (h1 : n < 4294967296) : U (Bv n) = n := by
  obtain ⟨k, rfl⟩ := Int.eq_ofNat_of_zero_le h0
  unfold U Bv
  rw [ofInt_u32 k (by omega)]
theorem U_inj {x y : BitVec 32} (h : U x = U y) : x = y := by rw [← Bv_U x, h, Bv_U]
theorem U_beq (x y : BitVec 32) : (U x == U y) = (x == y) := by
  rw [Bool.eq_iff_iff]; simp only [beq_iff_eq]; exact ⟨U_inj, fun h => by rw [h]⟩
theorem xor_any (x : BitVec 32) (n : Int) : bits .xor .u32 (U x) n = U (x ^^^ Bv n) := by
  show IntKind.u32.wrap ((BitVec.ofInt 32 (U x) ^^^ BitVec.ofInt 32 n).toNat : Int) = _
  have e : BitVec.ofInt 32 (U x) = x := Bv_U x
  rw [e, IntKind.wrap_u32']
  unfold U Bv
  have := (x ^^^ BitVec.ofInt 32 n).isLt
  omega
theorem xor_U (x y : BitVec 32) : bits .xor .u32 (U x) (U y) = U (x ^^^ y) := by rw [xor_any, Bv_U]
theorem xor_D (x : BitVec 32) : bits .xor .u32 (U x) 3988292384 = U (x ^^^ D) := by rw [xor_any]; rfl
theorem not_U (x : BitVec 32) : bits .xor .u32 IntKind.u32.max (U x) = U (~~~ x) := by
  show IntKind.u32.wrap ((BitVec.ofInt 32 IntKind.u32.max ^^^ BitVec.ofInt 32 (U x)).toNat : Int) = _
  have e : BitVec.ofInt 32 (U x) = x := Bv_U x
  have e2 : BitVec.ofInt 32 IntKind.u32.max = ~~~ 0#32 := by decide
  rw [e, e2, BitVec.xor_comm, ← not_eq, IntKind.wrap_u32']
  unfold U
  have := (~~~ x).isLt
  omega
theorem and_15 (x : BitVec 32) : bits .and .u32 (U x) 15 = ((x.toNat % 16 : Nat) : Int) := by
  unfold U; rw [show (15 : Int) = ((15 : Nat) : Int) from rfl, u32_and_nat _ _ x.isLt (by decide), nat_mask4]
theorem and_1 (x : BitVec 32) : bits .and .u32 (U x) 1 = ((x.toNat % 2 : Nat) : Int) := by
  unfold U; rw [show (1 : Int) = ((1 : Nat) : Int) from rfl, u32_and_nat _ _ x.isLt (by decide), nat_mask1]
theorem bit0 (x : BitVec 32) : (bits .and .u32 (U x) 1 == 1) = x.getLsbD 0 := by
  rw [and_1]
  have h : x.getLsbD 0 = decide (x.toNat % 2 = 1) := by
    rw [BitVec.getLsbD, Nat.testBit_zero]
  rw [h, Bool.eq_iff_iff]; simp only [beq_iff_eq, decide_eq_true_eq]; omega
theorem shr_U (x : BitVec 32) (n : Nat) : U x / 2 ^ n = U (x >>> n) := by
  unfold U
  rw [BitVec.toNat_ushiftRight, Nat.shiftRight_eq_div_pow]
  simp
theorem shr1 (x : BitVec 32) : U x / (2 : Int) = U (x >>> 1) := by rw [← shr_U]; rfl
theorem shr4 (x : BitVec 32) : U x / (16 : Int) = U (x >>> 4) := by rw [← shr_U]; rfl
end Ks
namespace Go.Proofs.YthlemcnbebfliaaGreatDoor
open Ks Go.RowKit
set_option maxRecDepth 20000

theorem ret_int {k : IntKind} {a b : Int} (h : a = b) : Ending.returned (.int k a) = .returned (.int k b) := by rw [h]
theorem ret_bool {a b : Bool} (h : a = b) : Ending.returned (.bool a) = .returned (.bool b) := by rw [h]

/-- the table, row by row -/
def tab : List (List Int) := [[0, 0, 0, 0], [128, 8, 1, 0], [256, 8, 1, 0], [512, 16, 1, 1], [1024, 16, 1, 2], [2048, 16, 1, 3], [4096, 32, 2, 0], [8192, 32, 2, 0], [16384, 64, 2, 0], [32768, 64, 2, 0], [65536, 128, 2, 0]]
/-- what stands in column j of kind k -/
def col (k : Int) (j : Nat) : Int := if 0 ≤ k ∧ k ≤ 10 then (tab.getD k.toNat []).getD j 0 else 0
/-- the tables lie in memory -/
def Nib (w : World) : Prop := ∀ k, k < 16 → w.cell? ⟨1, k, none⟩ = some (.int .u32 (nib.getD k 0 : Nat))
def Eep (w : World) : Prop := ∀ k j, k < 11 → j < 4 → w.cell? ⟨0, 4 * k + j, none⟩ = some (.int .i64 ((tab.getD k []).getD j 0))
def Tab (w : World) : Prop := Nib w ∧ Eep w
theorem tab_below {w w' : World} {B : Nat} (h : Tab w) (hb : Below B w w') (h0 : 1 < B) : Tab w' :=
  ⟨fun k hk => (hb.cell (p := ⟨1, k, none⟩) (by show 1 < B; omega)).trans (h.1 k hk), fun k j hk hj => (hb.cell (p := ⟨0, 4 * k + j, none⟩) (by show 0 < B; omega)).trans (h.2 k j hk hj)⟩
theorem tab_pos {w : World} (h : Tab w) : 1 < w.heap.size := by
  have h1 := block_lt_of_cell (h.1 0 (by omega))
  have h2 := block_lt_of_cell (h.2 0 0 (by omega) (by omega))
  omega

theorem fourOn_any (x : BitVec 32) (w : World) (hT : Tab w) : Calls Tryz.prog 153 #[.int .u32 (U x)] w fun e w' => e = .returned (.int .u32 (U (four x))) ∧ w = w' := by
  have h4 := U_ge x
  have h5 := U_lt x
  have ha := and_15 x
  have hk : x.toNat % 16 < 16 := Nat.mod_lt _ (by decide)
  have HX := Lib.hid (show bits .xor .u32 (U x / 16) ((nib.getD (x.toNat % 16) 0 : Nat) : Int) = U (four x) by
    rw [shr4, xor_any]; unfold four Bv; rw [BitVec.ofInt_natCast])
  generalize x.toNat % 16 = k at *
  have hc := hT.1 k hk
  generalize nib.getD k 0 = z at *
  clear hT
  go_enter Tryz.func153, Tryz.ntmps153
  go_wp2
  go_ret
  exact ⟨ret_int HX.out, rfl⟩



/-- a slice of bytes that reads as the list l, all of it below block B -/
def Bytes (w : World) (B : Nat) (A : Option Addr) (n : Nat) (l : List Int) : Prop :=
  l.length = n ∧ (∀ v ∈ l, 0 ≤ v ∧ v ≤ 255) ∧ (0 < n → ∃ b o, A = some ⟨b, o, none⟩ ∧ b < B ∧ ∀ k, k < n → w.cell? ⟨b, o + k, none⟩ = some (.int .u8 (l.getD k 0)))

/-- what is left of the first k bytes -/
def leftAt (s : BitVec 32) (l : List Int) (k : Nat) : BitVec 32 := run (~~~ s) ((l.take k).map Bv)
theorem leftAt_zero (s : BitVec 32) (l : List Int) : leftAt s l 0 = ~~~ s := rfl
theorem leftAt_succ (s : BitVec 32) (l : List Int) (k : Nat) (h : k < l.length) : four (four (leftAt s l k ^^^ Bv (l.getD k 0))) = leftAt s l (k + 1) := by
  unfold leftAt
  rw [step_four, List.take_succ_eq_append_getElem h, List.map_append, List.map_cons, List.map_nil, run_snoc]
  simp [List.getD, h]
theorem leftAt_end (s : BitVec 32) (l : List Int) (k : Nat) (h : l.length ≤ k) : ~~~ leftAt s l k = more s (l.map Bv) := by
  unfold leftAt more
  rw [List.take_of_length_le h]

theorem more_any (s : BitVec 32) (A : Option Addr) (n c B : Nat) (l : List Int) (w : World) (hT : Tab w) (hn : n ≤ maxLen) (hl : Bytes w B A n l) :
    Calls Tryz.prog 137 #[.int .u32 (U s), .slice A n c] w fun e w' => e = .returned (.int .u32 (U (more s (l.map Bv)))) ∧ w = w' := by
  unfold maxLen at hn
  have HT := Lib.hid hT
  have HL := Lib.hid hl
  clear hT hl
  go_enter Tryz.func137, Tryz.ntmps137
  go_wp2_with fail
  go_loop [5, 7, 12] (fun a v i => ∃ k : Nat, k ≤ n ∧ i = .int .i64 k ∧ a = .int .u32 (U (leftAt s l k))) (fun _ _ i => n - (intOf i).toNat)
  case atStart => exact ⟨0, Nat.zero_le _, rfl, by rw [not_U, leftAt_zero]⟩
  case round =>
    obtain ⟨k, hk, rfl, rfl⟩ := hrel
    by_cases hlt : k < n
    · obtain ⟨hlen, hbd, hcs⟩ := HL.out
      obtain ⟨b, o, rfl, _, hcell⟩ := hcs (by omega)
      have hc := hcell k hlt
      have hvb := hbd (l.getD k 0) (by simp [List.getD, hlen, hlt])
      have HN := Lib.hid (leftAt_succ s l k (by omega))
      generalize l.getD k 0 = v at *
      obtain ⟨hv0, hv1⟩ := hvb
      clear hcell hcs hlen hbd
      go_wp2_with fail
      rw [xor_any]
      refine (fourOn_any _ _ HT.out).mono ?_
      rintro e w' ⟨rfl, rfl⟩
      go_wp2_with fail
      refine (fourOn_any _ _ HT.out).mono ?_
      rintro e w' ⟨rfl, rfl⟩
      rw [HN.out]
      go_wp2_with fail
      go_round
      case rel => exact ⟨k + 1, by omega, by go_num, rfl⟩
      case measure => simp [intOf]; omega
    · have HE := Lib.hid (leftAt_end s l k (by have := HL.out.1; omega))
      go_wp2_with fail
      go_ret
      exact ⟨ret_int (by rw [not_U, HE.out]), rfl⟩

theorem sum_any (A : Option Addr) (n c B : Nat) (l : List Int) (w : World) (hT : Tab w) (hn : n ≤ maxLen) (hl : Bytes w B A n l) :
    Calls Tryz.prog 119 #[.slice A n c] w fun e w' => e = .returned (.int .u32 (U (more 0#32 (l.map Bv)))) ∧ w = w' := by
  have HT := Lib.hid hT
  have HL := Lib.hid hl
  clear hT hl
  go_enter Tryz.func119, Tryz.ntmps119
  go_wp2_with fail
  rw [show (0 : Int) = U 0#32 from rfl]
  refine (more_any _ _ _ _ B l _ HT.out hn HL.out).mono ?_
  rintro e w' ⟨rfl, rfl⟩
  go_wp2_with fail
  go_ret
  exact ⟨rfl, rfl⟩

theorem bytes_below {w w' : World} {B n : Nat} {A : Option Addr} {l : List Int} (h : Bytes w B A n l) (hb : Below B w w') : Bytes w' B A n l := by
  obtain ⟨h1, h2, h3⟩ := h
  refine ⟨h1, h2, fun hn => ?_⟩
  obtain ⟨b, o, e, hB, hc⟩ := h3 hn
  exact ⟨b, o, e, hB, fun k hk => (hb.cell (p := ⟨b, o + k, none⟩) hB).trans (hc k hk)⟩

/-- a world of the class that a region's walk goes through -/
abbrev In (W : World) (p : Regrown) : World := Go.Sort.grow (redrawn W p.d) p.os
theorem in_below (W : World) (p : Regrown) : Below W.heap.size W (In W p) := below_regrown W p.d p.os
/-- nil, or a row of 'cap' cells, the numbers 'zs': the first 'len' are its elements -/
def IsRow (k : IntKind) (w : World) (a : Option Addr) (len cap : Nat) (zs : List Int) : Prop :=
  (a = none ∧ len = 0 ∧ cap = 0 ∧ zs = []) ∨
  ∃ x, a = some x ∧ len ≤ cap ∧ cap ≤ maxLen ∧ zs.length = cap ∧ (∀ i, i < zs.length → w.cell? (x.add i) = some (.int k (zs.getD i 0))) ∧ ∀ n ∈ zs, (Lit.int k n).wf = true
theorem IsRow.len_le {k : IntKind} {w : World} {a : Option Addr} {len cap : Nat} {zs : List Int} (h : IsRow k w a len cap zs) : len ≤ cap ∧ len ≤ maxLen := by
  rcases h with ⟨_, rfl, rfl, _⟩ | ⟨x, _, h1, h2, _⟩
  · exact ⟨Nat.le_refl _, Nat.zero_le _⟩
  · exact ⟨h1, Nat.le_trans h1 h2⟩
theorem IsRow.bytes {w : World} {a : Option Addr} {len cap : Nat} {zs : List Int} (h : IsRow .u8 w a len cap zs) : Bytes w w.heap.size a len (zs.take len) := by
  rcases h with ⟨rfl, rfl, rfl, rfl⟩ | ⟨x, rfl, h1, h2, h3, h4, h5⟩
  · exact ⟨rfl, by simp, fun h => absurd h (by omega)⟩
  · refine ⟨by simp; omega, fun v hv => ?_, fun hn => ?_⟩
    · have := h5 v (List.mem_of_mem_take hv)
      simpa [Lit.wf, IntKind.min, IntKind.max, IntKind.signed, IntKind.bits] using this
    · obtain ⟨b, off, rfl, hc⟩ := ints_at h4 (by omega)
      refine ⟨b, off, rfl, block_lt_of_cell (hc 0 (by omega)), fun k hk => ?_⟩
      rw [hc k (by omega)]
      simp [List.getD, hk]

/-- a world that came of w0, the tables as they were -/
structure On (w0 w : World) : Prop where
  tab : Tab w
  bel : Below w0.heap.size w0 w
theorem On.start {w : World} (h : Tab w) : On w w := ⟨h, Below.refl _ _⟩
theorem On.next {w0 w w' : World} (h : On w0 w) (hb : Below w.heap.size w w') : On w0 w' := ⟨tab_below h.tab hb (tab_pos h.tab), h.bel.trans (hb.mono h.bel.size)⟩
theorem On.next_at {w0 w w' : World} {B : Nat} (h : On w0 w) (hb : Below B w w') (h0 : w0.heap.size ≤ B) (h1 : 1 < w0.heap.size) : On w0 w' := ⟨tab_below h.tab hb (Nat.lt_of_lt_of_le h1 h0), h.bel.trans (hb.mono h0)⟩
theorem below_box (w : World) (o : Obj) : Below w.heap.size w (w.alloc o) := (Below.refl _ _).alloc (Nat.le_refl _) _
theorem on_in {W : World} (h : Tab W) (p : Regrown) : On (In W p) (In W p) := On.start (tab_below h (in_below W p) (tab_pos h))
end Go.Proofs.YthlemcnbebfliaaGreatDoor
namespace Go.Proofs.YthlemcnbebfliaaGreatDoor
open Ks Go.RowKit
set_option maxRecDepth 20000

theorem mayBe_any (n m : Int) (w : World) : Calls Tryz.prog 108 #[.int .i64 n, .int .i64 m] w fun e w' => e = .returned (.bool (decide (0 ≤ n ∧ n ≤ m))) ∧ w' = w := by
  by_cases h0 : (0 : Int) ≤ n
  · by_cases h1 : n ≤ m
    · go_enter Tryz.func108, Tryz.ntmps108
      go_wp2_with fail
      go_ret
      exact ⟨by simp [h0, h1], rfl⟩
    · go_enter Tryz.func108, Tryz.ntmps108
      go_wp2_with fail
      go_ret
      exact ⟨by simp [h1], rfl⟩
  · go_enter Tryz.func108, Tryz.ntmps108
    go_wp2_with fail
    go_ret
    exact ⟨by rw [decide_eq_false (by omega)]; rfl, rfl⟩

theorem tab_at {w : World} (hT : Tab w) (o : Obj) (k : Int) (j : Nat) (h0 : 0 ≤ k) (h1 : k ≤ 10) (hj : j < 4) : (w.alloc o).cell? ⟨0, k.toNat * 4 + j, none⟩ = some (.int .i64 (col k j)) := by
  have h := tab_below hT ((Below.refl w.heap.size w).alloc (Nat.le_refl _) o) (tab_pos hT)
  have h := h.2 k.toNat j (by omega) hj
  rw [Nat.mul_comm k.toNat 4, h]
  simp [col, h0, h1]
theorem tab_at0 {w : World} (hT : Tab w) (o : Obj) (k : Int) (h0 : 0 ≤ k) (h1 : k ≤ 10) : (w.alloc o).cell? ⟨0, k.toNat * 4, none⟩ = some (.int .i64 (col k 0)) := tab_at hT o k 0 h0 h1 (by omega)
theorem col_out (k : Int) (j : Nat) (h : ¬ (0 ≤ k ∧ k ≤ 10)) : col k j = 0 := by unfold col; rw [if_neg h]
theorem row_any (k : Int) (w : World) (hT : Tab w) : Calls Tryz.prog 114 #[.int .i64 k] w fun e w' => e = .returned (.agg #[.int .i64 (col k 0), .int .i64 (col k 1), .int .i64 (col k 2), .int .i64 (col k 3)]) ∧ Below w.heap.size w w' := by
  have HT := Lib.hid hT
  clear hT
  by_cases hk : 0 ≤ k ∧ k ≤ 10
  · have hd : decide (0 ≤ k ∧ k ≤ 10) = true := decide_eq_true hk
    obtain ⟨hk0, hk1⟩ := hk
    have c0 := fun o => tab_at0 HT.out o k hk0 hk1
    have c1 := fun o => tab_at HT.out o k 1 hk0 hk1 (by omega)
    have c2 := fun o => tab_at HT.out o k 2 hk0 hk1 (by omega)
    have c3 := fun o => tab_at HT.out o k 3 hk0 hk1 (by omega)
    generalize col k 0 = v0 at *
    generalize col k 1 = v1 at *
    generalize col k 2 = v2 at *
    generalize col k 3 = v3 at *
    go_enter Tryz.func114, Tryz.ntmps114
    go_wp2_with fail
    refine (mayBe_any k 10 _).mono ?_
    rintro e w1 ⟨rfl, rfl⟩
    rw [hd]
    go_wp2_with fail
    go_returns
    exact ⟨rfl, (Below.refl _ _).alloc (Nat.le_refl _) _⟩
  · rw [col_out k 0 hk, col_out k 1 hk, col_out k 2 hk, col_out k 3 hk]
    go_enter Tryz.func114, Tryz.ntmps114
    go_wp2_with fail
    refine (mayBe_any k 10 _).mono ?_
    rintro e w1 ⟨rfl, rfl⟩
    rw [decide_eq_false hk]
    go_wp2_with fail
    go_returns
    exact ⟨rfl, (Below.refl _ _).alloc (Nat.le_refl _) _⟩

theorem field0 (a b c d : Value) (w : World) : (Instr.field 146 (.agg #[a, b, c, d]) 0).run Tryz.prog w = .ok a w := by kernel_rfl
theorem eeprom_any (k v : Int) (w0 w : World) (H : On w0 w) (hv : col k 0 = v) : Calls Tryz.prog 88 #[.int .i64 k] w fun e w' => e = .returned (.int .i64 v) ∧ On w0 w' := by
  subst hv
  have HT := Lib.hid H
  clear H
  have hf := field0
  go_enter Tryz.func88, Tryz.ntmps88
  go_wp2_with fail
  refine (row_any k _ HT.out.tab).mono ?_
  rintro e w1 ⟨rfl, hw1⟩
  have HW := Lib.hid hw1
  clear hw1
  go_wp2_with fail
  go_ret
  exact ⟨rfl, HT.out.next HW.out⟩
/-- so many, of so many bytes each; none where there are more than there may be -/
def bytesOf (n most each : Int) : Int := if 0 ≤ n ∧ n ≤ most then each * n else 0
theorem bytesOf_any (n most each : Int) (hm : most ≤ 128) (he0 : 0 ≤ each) (he1 : each ≤ 256) (w : World) :
    Calls Tryz.prog 115 #[.int .i64 n, .int .i64 most, .int .i64 each] w fun e w' => e = .returned (.int .i64 (bytesOf n most each)) ∧ w' = w := by
  by_cases hk : 0 ≤ n ∧ n ≤ most
  · have hd : decide (0 ≤ n ∧ n ≤ most) = true := decide_eq_true hk
    have hv : wrap64 (n * each) = bytesOf n most each := by
      unfold bytesOf
      rw [if_pos hk, Int.mul_comm each n]
      have h1 : n * each ≤ 128 * 256 := Int.mul_le_mul (by omega) he1 he0 (by omega)
      have h2 : 0 ≤ n * each := Int.mul_nonneg hk.1 he0
      unfold wrap64; omega
    generalize bytesOf n most each = v at *
    have HV := Lib.hid hv
    clear hv
    go_enter Tryz.func115, Tryz.ntmps115
    go_wp2_with fail
    refine (mayBe_any n most _).mono ?_
    rintro e w1 ⟨rfl, rfl⟩
    rw [hd]
    go_wp2_with fail
    go_ret
    exact ⟨congrArg (fun x => Ending.returned (.int .i64 x)) HV.out, rfl⟩
  · have hv : bytesOf n most each = 0 := by unfold bytesOf; rw [if_neg hk]
    rw [hv]
    go_enter Tryz.func115, Tryz.ntmps115
    go_wp2_with fail
    refine (mayBe_any n most _).mono ?_
    rintro e w1 ⟨rfl, rfl⟩
    rw [decide_eq_false hk]
    go_wp2_with fail
    go_ret
    exact ⟨rfl, rfl⟩
theorem flash_any (n v : Int) (w : World) (hv : bytesOf n 64 256 = v) : Calls Tryz.prog 89 #[.int .i64 n] w fun e w' => e = .returned (.int .i64 v) ∧ w' = w := by
  subst hv
  go_enter Tryz.func89, Tryz.ntmps89
  go_wp2_with fail
  refine (bytesOf_any n 64 256 (by omega) (by omega) (by omega) _).mono ?_
  rintro e w1 ⟨rfl, rfl⟩
  go_wp2_with fail
  go_ret
  exact ⟨rfl, rfl⟩
theorem sram_any (n v : Int) (w : World) (hv : bytesOf n 128 64 = v) : Calls Tryz.prog 93 #[.int .i64 n] w fun e w' => e = .returned (.int .i64 v) ∧ w' = w := by
  subst hv
  go_enter Tryz.func93, Tryz.ntmps93
  go_wp2_with fail
  refine (bytesOf_any n 128 64 (by omega) (by omega) (by omega) _).mono ?_
  rintro e w1 ⟨rfl, rfl⟩
  go_wp2_with fail
  go_ret
  exact ⟨rfl, rfl⟩

/-- the three numbers of a geometry, as a value -/
abbrev geoV (a b c : Int) : Value := .agg #[.int .i64 a, .int .i64 b, .int .i64 c]
def right (a b c : Int) : Bool := decide (0 ≤ a ∧ a ≤ 10) && (decide (0 ≤ b ∧ b ≤ 64) && decide (0 ≤ c ∧ c ≤ 128))
def total (a b c : Int) : Int := if right a b c then col a 0 + bytesOf b 64 256 + bytesOf c 128 64 else 0
theorem mayBe_at (n m : Int) (r : Bool) (w : World) (hr : decide (0 ≤ n ∧ n ≤ m) = r) : Calls Tryz.prog 108 #[.int .i64 n, .int .i64 m] w fun e w' => e = .returned (.bool r) ∧ w' = w := hr ▸ mayBe_any n m w
theorem right_any (a b c : Int) (r : Bool) (w0 w : World) (H : On w0 w) (hr : right a b c = r) : Calls Tryz.prog 81 #[geoV a b c] w fun e w' => e = .returned (.bool r) ∧ On w0 w' := by
  subst hr
  unfold right
  have HT := Lib.hid (fun o => H.next (below_box w o))
  clear H
  obtain ⟨p, hp⟩ : ∃ p, decide (0 ≤ a ∧ a ≤ 10) = p := ⟨_, rfl⟩
  obtain ⟨q, hq⟩ : ∃ p, decide (0 ≤ b ∧ b ≤ 64) = p := ⟨_, rfl⟩
  obtain ⟨r, hr⟩ : ∃ p, decide (0 ≤ c ∧ c ≤ 128) = p := ⟨_, rfl⟩
  rw [hp, hq, hr]
  have HP := Lib.hid hp
  have HQ := Lib.hid hq
  have HR := Lib.hid hr
  clear hp hq hr
  cases p
  · go_enter Tryz.func81, Tryz.ntmps81
    go_wp2_with fail
    refine (mayBe_at a 10 false _ HP.out).mono ?_
    rintro e w1 ⟨rfl, rfl⟩
    go_wp2_with fail
    go_ret
    exact ⟨rfl, HT.out _⟩
  · cases q
    · go_enter Tryz.func81, Tryz.ntmps81
      go_wp2_with fail
      refine (mayBe_at a 10 true _ HP.out).mono ?_
      rintro e w1 ⟨rfl, rfl⟩
      go_wp2_with fail
      refine (mayBe_at b 64 false _ HQ.out).mono ?_
      rintro e w1 ⟨rfl, rfl⟩
      go_wp2_with fail
      go_ret
      exact ⟨rfl, HT.out _⟩
    · cases r <;>
      · go_enter Tryz.func81, Tryz.ntmps81
        go_wp2_with fail
        refine (mayBe_at a 10 true _ HP.out).mono ?_
        rintro e w1 ⟨rfl, rfl⟩
        go_wp2_with fail
        refine (mayBe_at b 64 true _ HQ.out).mono ?_
        rintro e w1 ⟨rfl, rfl⟩
        go_wp2_with fail
        refine (mayBe_at c 128 _ _ HR.out).mono ?_
        rintro e w1 ⟨rfl, rfl⟩
        go_wp2_with fail
        go_ret
        exact ⟨rfl, HT.out _⟩
theorem boxed (w : World) (a b c : Value) (t : TypeId) : (w.alloc (.cells #[a, b, c] t)).cell? ⟨w.heap.size, 0, none⟩ = some a ∧ (w.alloc (.cells #[a, b, c] t)).cell? ⟨w.heap.size, 1, none⟩ = some b ∧ (w.alloc (.cells #[a, b, c] t)).cell? ⟨w.heap.size, 2, none⟩ = some c := by
  refine ⟨?_, ?_, ?_⟩ <;> simp [go_sem]

theorem eeprom_in (W : World) (p : Regrown) (k v : Int) (hT : Tab W) (hv : col k 0 = v) : Calls Tryz.prog 88 #[.int .i64 k] (In W p) fun e w'' => e = .returned (.int .i64 v) ∧ ∃ q : Regrown, w'' = In W q := by
  apply Calls.regrown_of
  exact (eeprom_any k v _ _ (on_in hT p) hv).mono fun _ _ h => ⟨h.1, h.2.bel⟩
theorem flash_in (W : World) (p : Regrown) (n v : Int) (hv : bytesOf n 64 256 = v) : Calls Tryz.prog 89 #[.int .i64 n] (In W p) fun e w'' => e = .returned (.int .i64 v) ∧ ∃ q : Regrown, w'' = In W q :=
  (flash_any n v _ hv).mono fun _ _ h => ⟨h.1, p, h.2⟩
theorem sram_in (W : World) (p : Regrown) (n v : Int) (hv : bytesOf n 128 64 = v) : Calls Tryz.prog 93 #[.int .i64 n] (In W p) fun e w'' => e = .returned (.int .i64 v) ∧ ∃ q : Regrown, w'' = In W q :=
  (sram_any n v _ hv).mono fun _ _ h => ⟨h.1, p, h.2⟩
theorem col0_bounds (k : Int) : 0 ≤ col k 0 ∧ col k 0 ≤ 65536 := by
  unfold col
  split
  · rename_i h
    obtain ⟨n, rfl⟩ := Int.eq_ofNat_of_zero_le h.1
    have : ∀ n : Nat, n < 11 → 0 ≤ (tab.getD n []).getD 0 0 ∧ (tab.getD n []).getD 0 0 ≤ 65536 := by decide
    exact this n (by omega)
  · omega
theorem bytesOf_bounds (n most each : Int) (hm : most ≤ 128) (he0 : 0 ≤ each) (he1 : each ≤ 256) : 0 ≤ bytesOf n most each ∧ bytesOf n most each ≤ 32768 := by
  unfold bytesOf
  split
  · rename_i h
    have h1 : each * n ≤ 256 * 128 := Int.mul_le_mul he1 (by omega) h.1 (by omega)
    exact ⟨Int.mul_nonneg he0 h.1, by omega⟩
  · omega

theorem total_any (a b c v : Int) (w0 w : World) (H : On w0 w) (hv : total a b c = v) : Calls Tryz.prog 58 #[geoV a b c] w fun e w' => e = .returned (.int .i64 v) ∧ On w0 w' := by
  subst hv
  have HT := Lib.hid (fun o => H.next (below_box w o))
  clear H
  cases hr : right a b c
  · have HR := Lib.hid hr
    have HV := Lib.hid (show total a b c = 0 by simp [total, hr])
    rw [HV.out]
    clear hr
    go_enter Tryz.func58, Tryz.ntmps58
    go_wp2_with fail
    refine (right_any a b c false _ _ (HT.out _) HR.out).mono ?_
    rintro e w1 ⟨rfl, hw1⟩
    have HW1 := Lib.hid hw1
    clear hw1
    go_wp2_with fail
    go_ret
    exact ⟨rfl, HW1.out⟩
  · have HR := Lib.hid hr
    have HV := Lib.hid (show total a b c = col a 0 + bytesOf b 64 256 + bytesOf c 128 64 by simp [total, hr])
    rw [HV.out]
    clear hr
    obtain ⟨x, hx⟩ : ∃ x, col a 0 = x := ⟨_, rfl⟩
    obtain ⟨y, hy⟩ : ∃ x, bytesOf b 64 256 = x := ⟨_, rfl⟩
    obtain ⟨z, hz⟩ : ∃ x, bytesOf c 128 64 = x := ⟨_, rfl⟩
    obtain ⟨hx0, hx1⟩ := hx ▸ col0_bounds a
    obtain ⟨hy0, hy1⟩ := hy ▸ bytesOf_bounds b 64 256 (by omega) (by omega) (by omega)
    obtain ⟨hz0, hz1⟩ := hz ▸ bytesOf_bounds c 128 64 (by omega) (by omega) (by omega)
    rw [hx, hy, hz]
    have HX := Lib.hid hx
    have HY := Lib.hid hy
    have HZ := Lib.hid hz
    clear hx hy hz HV
    go_enter Tryz.func58, Tryz.ntmps58
    go_wp2_with fail
    refine (right_any a b c true _ _ (On.start (HT.out _).tab) HR.out).mono ?_
    rintro e w1 ⟨rfl, hw1⟩
    have hc0 := (hw1.bel.cell (p := ⟨w.heap.size, 0, none⟩) (by simp)).trans (boxed w _ _ _ _).1
    have hc1 := (hw1.bel.cell (p := ⟨w.heap.size, 1, none⟩) (by simp)).trans (boxed w _ _ _ _).2.1
    have hc2 := (hw1.bel.cell (p := ⟨w.heap.size, 2, none⟩) (by simp)).trans (boxed w _ _ _ _).2.2
    have HT1 := Lib.hid hw1.tab
    have HW1 := Lib.hid ((HT.out _).next hw1.bel)
    clear hw1
    go_wp2_with fail
    have hr0 := fun d os => cell_regrown hc0 d os
    have hr1 := fun d os => cell_regrown hc1 d os
    have hr2 := fun d os => cell_regrown hc2 d os
    clear hc0 hc1 hc2
    refine wp_region_quiet_below (by kernel_rfl) (by kernel_rfl) ?_
    iterate 2 go_big_quiet_step (fail)
    go_big_quiet_step ((refine eeprom_in w1 _ a x HT1.out HX.out))
    iterate 2 go_big_quiet_step (fail)
    go_big_quiet_step ((refine flash_in w1 _ b y HY.out))
    iterate 3 go_big_quiet_step (fail)
    go_big_quiet_step ((refine sram_in w1 _ c z HZ.out))
    repeat (go_big_quiet_step (fail))
    refine wpQuiet_nil ?_
    rintro w' ⟨q, rfl⟩
    have HQ := Lib.hid (HW1.out.next (in_below w1 q))
    go_wp2_with fail
    go_ret
    exact ⟨rfl, HQ.out⟩

def atOf (l : List Int) (k : Int) : Int := if 1 ≤ k ∧ k ≤ 10 then l.getD (k - 1).toNat 0 else 0
theorem at_any (b : Nat) (l : List Int) (k : Int) (w : World) (hl : ∀ i, i < 10 → w.cell? ⟨b, i, none⟩ = some (.int .i64 (l.getD i 0))) :
    Calls Tryz.prog 92 #[.slice (some ⟨b, 0, none⟩) 10 10, .int .i64 k] w fun e w' => e = .returned (.int .i64 (atOf l k)) ∧ w' = w := by
  by_cases h0 : k < 1
  · have hv : atOf l k = 0 := by unfold atOf; rw [if_neg (by omega)]
    rw [hv]
    clear hl hv
    go_enter Tryz.func92, Tryz.ntmps92
    go_wp2_with fail
    go_ret
    exact ⟨rfl, rfl⟩
  · by_cases h1 : 10 < k
    · have hv : atOf l k = 0 := by unfold atOf; rw [if_neg (by omega)]
      rw [hv]
      clear hl hv
      go_enter Tryz.func92, Tryz.ntmps92
      go_wp2_with fail
      go_ret
      exact ⟨rfl, rfl⟩
    · have hv : atOf l k = l.getD (k - 1).toNat 0 := by unfold atOf; rw [if_pos (by omega)]
      rw [hv]
      clear hv
      obtain ⟨n, hn⟩ : ∃ n : Int, k - 1 = n := ⟨_, rfl⟩
      obtain rfl : k = n + 1 := by omega
      have hn0 : 0 ≤ n := by omega
      have hn1 : n < 10 := by omega
      have hc := hl n.toNat (by omega)
      rw [hn]
      generalize l.getD n.toNat 0 = v at *
      clear hl hn h0 h1
      go_enter Tryz.func92, Tryz.ntmps92
      go_wp2_with fail
      go_ret
      exact ⟨rfl, rfl⟩

theorem atOf_col (l : List Int) (j : Nat) (h : ∀ n : Nat, n < 10 → l.getD n 0 = (tab.getD (n + 1) []).getD j 0) (h0 : (tab.getD 0 []).getD j 0 = 0) (k : Int) : atOf l k = col k j := by
  unfold atOf col
  by_cases hk : 1 ≤ k ∧ k ≤ 10
  · rw [if_pos hk, if_pos (by omega), h (k - 1).toNat (by omega), show (k - 1).toNat + 1 = k.toNat by omega]
  · rw [if_neg hk]
    by_cases hz : k = 0
    · subst hz; rw [if_pos (by omega)]; exact h0.symm
    · rw [if_neg (by omega)]
theorem ten (w : World) (t : TypeId) (a0 a1 a2 a3 a4 a5 a6 a7 a8 a9 : Int) (i : Nat) (hi : i < 10) :
    (w.alloc (.cells #[.int .i64 a0, .int .i64 a1, .int .i64 a2, .int .i64 a3, .int .i64 a4, .int .i64 a5, .int .i64 a6, .int .i64 a7, .int .i64 a8, .int .i64 a9] t)).cell? ⟨w.heap.size, i, none⟩ = some (.int .i64 ([a0, a1, a2, a3, a4, a5, a6, a7, a8, a9].getD i 0)) := by
  rw [cell_of_row _ _ _ _ _ _ (heap_alloc_new w _)]
  match i, hi with
  | 0, _ | 1, _ | 2, _ | 3, _ | 4, _ | 5, _ | 6, _ | 7, _ | 8, _ | 9, _ => rfl
theorem refEeprom_any (k v : Int) (w0 w : World) (H : On w0 w) (hv : col k 0 = v) : Calls Tryz.prog 55 #[.int .i64 k] w fun e w' => e = .returned (.int .i64 v) ∧ On w0 w' := by
  have HV := Lib.hid ((atOf_col [128, 256, 512, 1024, 2048, 4096, 8192, 16384, 32768, 65536] 0 (by decide) (by decide) k).trans hv)
  have HB := Lib.hid (fun o => H.next (below_box w o))
  clear hv H
  go_enter Tryz.func55, Tryz.ntmps55
  go_wp2_with fail
  refine (at_any _ [128, 256, 512, 1024, 2048, 4096, 8192, 16384, 32768, 65536] k _ (ten w _ _ _ _ _ _ _ _ _ _ _)).mono ?_
  rintro e w1 ⟨rfl, rfl⟩
  rw [HV.out]
  go_wp2_with fail
  go_ret
  exact ⟨rfl, HB.out _⟩
theorem refFlash_any (n v : Int) (w : World) (hv : bytesOf n 64 256 = v) : Calls Tryz.prog 56 #[.int .i64 n] w fun e w' => e = .returned (.int .i64 v) ∧ w' = w := by
  subst hv
  by_cases h0 : n < 0
  · have hv : bytesOf n 64 256 = 0 := by unfold bytesOf; rw [if_neg (by omega)]
    rw [hv]
    clear hv
    go_enter Tryz.func56, Tryz.ntmps56
    go_wp2_with fail
    go_ret
    exact ⟨rfl, rfl⟩
  · by_cases h1 : 64 < n
    · have hv : bytesOf n 64 256 = 0 := by unfold bytesOf; rw [if_neg (by omega)]
      rw [hv]
      clear hv
      go_enter Tryz.func56, Tryz.ntmps56
      go_wp2_with fail
      go_ret
      exact ⟨rfl, rfl⟩
    · have hv : bytesOf n 64 256 = 256 * n := by unfold bytesOf; rw [if_pos (by omega)]
      rw [hv]
      clear hv
      go_enter Tryz.func56, Tryz.ntmps56
      go_wp2_with fail
      go_ret
      exact ⟨rfl, rfl⟩
theorem refSram_any (n v : Int) (w : World) (hv : bytesOf n 128 64 = v) : Calls Tryz.prog 77 #[.int .i64 n] w fun e w' => e = .returned (.int .i64 v) ∧ w' = w := by
  subst hv
  by_cases h0 : n < 0
  · have hv : bytesOf n 128 64 = 0 := by unfold bytesOf; rw [if_neg (by omega)]
    rw [hv]
    clear hv
    go_enter Tryz.func77, Tryz.ntmps77
    go_wp2_with fail
    go_ret
    exact ⟨rfl, rfl⟩
  · by_cases h1 : 128 < n
    · have hv : bytesOf n 128 64 = 0 := by unfold bytesOf; rw [if_neg (by omega)]
      rw [hv]
      clear hv
      go_enter Tryz.func77, Tryz.ntmps77
      go_wp2_with fail
      go_ret
      exact ⟨rfl, rfl⟩
    · have hv : bytesOf n 128 64 = 64 * n := by unfold bytesOf; rw [if_pos (by omega)]
      rw [hv]
      clear hv
      go_enter Tryz.func77, Tryz.ntmps77
      go_wp2_with fail
      go_ret
      exact ⟨rfl, rfl⟩

theorem refRight_any (a b c : Int) (r : Bool) (w0 w : World) (H : On w0 w) (hr : right a b c = r) : Calls Tryz.prog 13 #[geoV a b c] w fun e w' => e = .returned (.bool r) ∧ On w0 w' := by
  subst hr
  have HT := Lib.hid (fun o => H.next (below_box w o))
  clear H
  by_cases a0 : 0 ≤ a
  · by_cases a1 : a ≤ 10
    · by_cases b0 : 0 ≤ b
      · by_cases b1 : b ≤ 64
        · by_cases c0 : 0 ≤ c
          · by_cases c1 : c ≤ 128
            · have hv : right a b c = true := by simp [right, *]
              rw [hv]; clear hv
              go_enter Tryz.func13, Tryz.ntmps13
              go_wp2_with fail
              go_ret
              exact ⟨rfl, HT.out _⟩
            · have hv : right a b c = false := by simp [right]; omega
              rw [hv]; clear hv
              go_enter Tryz.func13, Tryz.ntmps13
              go_wp2_with fail
              go_ret
              exact ⟨rfl, HT.out _⟩
          · have hv : right a b c = false := by simp [right]; omega
            rw [hv]; clear hv
            go_enter Tryz.func13, Tryz.ntmps13
            go_wp2_with fail
            go_ret
            exact ⟨rfl, HT.out _⟩
        · have hv : right a b c = false := by simp [right]; omega
          rw [hv]; clear hv
          go_enter Tryz.func13, Tryz.ntmps13
          go_wp2_with fail
          go_ret
          exact ⟨rfl, HT.out _⟩
      · have hv : right a b c = false := by simp [right]; omega
        rw [hv]; clear hv
        go_enter Tryz.func13, Tryz.ntmps13
        go_wp2_with fail
        go_ret
        exact ⟨rfl, HT.out _⟩
    · have hv : right a b c = false := by simp [right]; omega
      rw [hv]; clear hv
      go_enter Tryz.func13, Tryz.ntmps13
      go_wp2_with fail
      go_ret
      exact ⟨rfl, HT.out _⟩
  · have hv : right a b c = false := by simp [right]; omega
    rw [hv]; clear hv
    go_enter Tryz.func13, Tryz.ntmps13
    go_wp2_with fail
    go_ret
    exact ⟨rfl, HT.out _⟩
theorem refEeprom_in (W : World) (p : Regrown) (k v : Int) (hT : Tab W) (hv : col k 0 = v) : Calls Tryz.prog 55 #[.int .i64 k] (In W p) fun e w'' => e = .returned (.int .i64 v) ∧ ∃ q : Regrown, w'' = In W q := by
  apply Calls.regrown_of
  exact (refEeprom_any k v _ _ (on_in hT p) hv).mono fun _ _ h => ⟨h.1, h.2.bel⟩
theorem refFlash_in (W : World) (p : Regrown) (n v : Int) (hv : bytesOf n 64 256 = v) : Calls Tryz.prog 56 #[.int .i64 n] (In W p) fun e w'' => e = .returned (.int .i64 v) ∧ ∃ q : Regrown, w'' = In W q :=
  (refFlash_any n v _ hv).mono fun _ _ h => ⟨h.1, p, h.2⟩
theorem refSram_in (W : World) (p : Regrown) (n v : Int) (hv : bytesOf n 128 64 = v) : Calls Tryz.prog 77 #[.int .i64 n] (In W p) fun e w'' => e = .returned (.int .i64 v) ∧ ∃ q : Regrown, w'' = In W q :=
  (refSram_any n v _ hv).mono fun _ _ h => ⟨h.1, p, h.2⟩
theorem refTotal_any (a b c v : Int) (w0 w : World) (H : On w0 w) (hv : total a b c = v) : Calls Tryz.prog 44 #[geoV a b c] w fun e w' => e = .returned (.int .i64 v) ∧ On w0 w' := by
  subst hv
  have HT := Lib.hid (fun o => H.next (below_box w o))
  clear H
  cases hr : right a b c
  · have HR := Lib.hid hr
    have HV := Lib.hid (show total a b c = 0 by simp [total, hr])
    rw [HV.out]
    clear hr
    go_enter Tryz.func44, Tryz.ntmps44
    go_wp2_with fail
    refine (refRight_any a b c false _ _ (HT.out _) HR.out).mono ?_
    rintro e w1 ⟨rfl, hw1⟩
    have HW1 := Lib.hid hw1
    clear hw1
    go_wp2_with fail
    go_ret
    exact ⟨rfl, HW1.out⟩
  · have HR := Lib.hid hr
    have HV := Lib.hid (show total a b c = col a 0 + bytesOf b 64 256 + bytesOf c 128 64 by simp [total, hr])
    rw [HV.out]
    clear hr
    obtain ⟨x, hx⟩ : ∃ x, col a 0 = x := ⟨_, rfl⟩
    obtain ⟨y, hy⟩ : ∃ x, bytesOf b 64 256 = x := ⟨_, rfl⟩
    obtain ⟨z, hz⟩ : ∃ x, bytesOf c 128 64 = x := ⟨_, rfl⟩
    obtain ⟨hx0, hx1⟩ := hx ▸ col0_bounds a
    obtain ⟨hy0, hy1⟩ := hy ▸ bytesOf_bounds b 64 256 (by omega) (by omega) (by omega)
    obtain ⟨hz0, hz1⟩ := hz ▸ bytesOf_bounds c 128 64 (by omega) (by omega) (by omega)
    rw [hx, hy, hz]
    have HX := Lib.hid hx
    have HY := Lib.hid hy
    have HZ := Lib.hid hz
    clear hx hy hz HV
    go_enter Tryz.func44, Tryz.ntmps44
    go_wp2_with fail
    refine (refRight_any a b c true _ _ (On.start (HT.out _).tab) HR.out).mono ?_
    rintro e w1 ⟨rfl, hw1⟩
    have hc0 := (hw1.bel.cell (p := ⟨w.heap.size, 0, none⟩) (by simp)).trans (boxed w _ _ _ _).1
    have hc1 := (hw1.bel.cell (p := ⟨w.heap.size, 1, none⟩) (by simp)).trans (boxed w _ _ _ _).2.1
    have hc2 := (hw1.bel.cell (p := ⟨w.heap.size, 2, none⟩) (by simp)).trans (boxed w _ _ _ _).2.2
    have HT1 := Lib.hid hw1.tab
    have HW1 := Lib.hid ((HT.out _).next hw1.bel)
    clear hw1
    go_wp2_with fail
    have hr0 := fun d os => cell_regrown hc0 d os
    have hr1 := fun d os => cell_regrown hc1 d os
    have hr2 := fun d os => cell_regrown hc2 d os
    clear hc0 hc1 hc2
    refine wp_region_quiet_below (by kernel_rfl) (by kernel_rfl) ?_
    iterate 2 go_big_quiet_step (fail)
    go_big_quiet_step ((refine refEeprom_in w1 _ a x HT1.out HX.out))
    iterate 2 go_big_quiet_step (fail)
    go_big_quiet_step ((refine refFlash_in w1 _ b y HY.out))
    iterate 3 go_big_quiet_step (fail)
    go_big_quiet_step ((refine refSram_in w1 _ c z HZ.out))
    repeat (go_big_quiet_step (fail))
    refine wpQuiet_nil ?_
    rintro w' ⟨q, rfl⟩
    have HQ := Lib.hid (HW1.out.next (in_below w1 q))
    go_wp2_with fail
    go_ret
    exact ⟨rfl, HQ.out⟩


end Go.Proofs.YthlemcnbebfliaaGreatDoor
namespace Go.Proofs.YthlemcnbebfliaaGreatDoor
open Ks Go.RowKit

theorem bytes_cell {w : World} {B n : Nat} {A : Option Addr} {l : List Int} (h : Bytes w B A n l) {w' : World} (hb : Below B w w') (k : Nat) (hk : k < n) : ∃ b o, A = some ⟨b, o, none⟩ ∧ w'.cell? ⟨b, o + k, none⟩ = some (.int .u8 (l.getD k 0)) := by
  obtain ⟨b, o, e, hB, hc⟩ := h.2.2 (by omega)
  exact ⟨b, o, e, (hb.cell (p := ⟨b, o + k, none⟩) hB).trans (hc k hk)⟩
theorem ext_getD {a b : List Int} (h : b.length = a.length) (he : ∀ j, j < a.length → a.getD j 0 = b.getD j 0) : a = b := by
  apply List.ext_getElem h.symm
  intro i h1 h2
  have := he i h1
  simpa [List.getD, h1, h2] using this
theorem below_drewN {B : Nat} {w w' : World} (h : Below B w w') (n : Nat) : Below B w (w'.drewN n) := ⟨h.os, h.tape, h.output, h.size, h.block⟩

theorem same_any (A1 A2 : Option Addr) (n c1 c2 B : Nat) (a b : List Int) (w : World) (hn : n ≤ maxLen) (ha : Bytes w B A1 n a) (hb : Bytes w B A2 n b) (hB : B ≤ w.heap.size) :
    Calls Tryz.prog 20 #[.slice A1 n c1, .slice A2 n c2] w fun e w' => e = .returned (.bool (decide (a = b))) ∧ Below w.heap.size w w' := by
  unfold maxLen at hn
  have HA := Lib.hid ha
  have HB := Lib.hid hb
  have HL := Lib.hid (show b.length = a.length by rw [ha.1, hb.1])
  have hne : ((n : Int) != (n : Int)) = false := by simp
  clear ha hb
  go_enter Tryz.func20, Tryz.ntmps20
  go_wp2_with fail
  go_loopw [5] (fun i wr => ∃ k : Nat, k ≤ n ∧ i = .int .i64 k ∧ (∀ j, j < k → a.getD j 0 = b.getD j 0) ∧ Below w.heap.size w wr) (fun i _ => n - (intOf i).toNat)
  case atStart => exact ⟨0, Nat.zero_le _, rfl, fun j hj => absurd hj (by omega), Below.refl _ _⟩
  case round =>
    obtain ⟨k, hk, rfl, heq, hbel⟩ := hrel
    have HE := Lib.hid heq
    have HBL := Lib.hid hbel
    clear heq hbel
    by_cases hlt : k < n
    · obtain ⟨b1, o1, rfl, hv1⟩ := bytes_cell HA.out (HBL.out.mono hB) k hlt
      obtain ⟨b2, o2, rfl, hv2⟩ := bytes_cell HB.out (HBL.out.mono hB) k hlt
      generalize hx : a.getD k 0 = x at *
      generalize hy : b.getD k 0 = y at *
      have HX := Lib.hid hx
      have HY := Lib.hid hy
      clear hx hy
      have hk0 : (0 : Int) ≤ (k : Int) := by omega
      have hk1 : (k : Int) < (n : Int) := by omega
      cases hxy : (x != y)
      · go_wp2_with fail
        go_quiet (fail)
        go_wp2_with fail
        go_roundw
        case rel =>
          refine ⟨k + 1, by omega, by go_num, ?_, below_drewN HBL.out _⟩
          intro j hj
          by_cases h : j = k
          · subst h; rw [HX.out, HY.out]; simpa using hxy
          · exact HE.out j (by omega)
        case measure => simp [intOf]; omega
      · go_wp2_with fail
        go_quiet (fail)
        go_wp2_with fail
        go_ret
        have hab : a ≠ b := fun e => by
          have : x = y := by rw [← HX.out, ← HY.out, e]
          simp [this] at hxy
        exact ⟨ret_bool (by simp [hab]), below_drewN HBL.out _⟩
    · have hab : a = b := ext_getD HL.out (fun j hj => HE.out j (by have := HA.out.1; omega))
      have HAB := Lib.hid hab
      clear hab
      go_wp2_with fail
      go_ret
      exact ⟨ret_bool (by simp [HAB.out]), HBL.out⟩
end Go.Proofs.YthlemcnbebfliaaGreatDoor
namespace Go.Proofs.YthlemcnbebfliaaGreatDoor
open Ks Go.RowKit
set_option maxRecDepth 20000

/-- a head, as a value -/
abbrev headV (a b c n q s : Int) : Value := .agg #[.int .i64 a, .int .i64 b, .int .i64 c, .int .i64 n, .int .u64 q, .int .u32 s]
def can (a b c n : Int) : Bool := right a b c && (n == total a b c)
theorem boxed6 (w : World) (a b c d e f : Value) (t : TypeId) : (w.alloc (.cells #[a, b, c, d, e, f] t)).cell? ⟨w.heap.size, 0, none⟩ = some a ∧ (w.alloc (.cells #[a, b, c, d, e, f] t)).cell? ⟨w.heap.size, 1, none⟩ = some b ∧
    (w.alloc (.cells #[a, b, c, d, e, f] t)).cell? ⟨w.heap.size, 2, none⟩ = some c ∧ (w.alloc (.cells #[a, b, c, d, e, f] t)).cell? ⟨w.heap.size, 3, none⟩ = some d ∧
    (w.alloc (.cells #[a, b, c, d, e, f] t)).cell? ⟨w.heap.size, 4, none⟩ = some e ∧ (w.alloc (.cells #[a, b, c, d, e, f] t)).cell? ⟨w.heap.size, 5, none⟩ = some f := by
  refine ⟨?_, ?_, ?_, ?_, ?_, ?_⟩ <;> simp [go_sem]
theorem right_in (W : World) (p : Regrown) (a b c : Int) (r : Bool) (hT : Tab W) (hr : right a b c = r) : Calls Tryz.prog 81 #[geoV a b c] (In W p) fun e w'' => e = .returned (.bool r) ∧ ∃ q : Regrown, w'' = In W q := by
  apply Calls.regrown_of
  exact (right_any a b c r _ _ (on_in hT p) hr).mono fun _ _ h => ⟨h.1, h.2.bel⟩
theorem total_in (W : World) (p : Regrown) (a b c v : Int) (hT : Tab W) (hv : total a b c = v) : Calls Tryz.prog 58 #[geoV a b c] (In W p) fun e w'' => e = .returned (.int .i64 v) ∧ ∃ q : Regrown, w'' = In W q := by
  apply Calls.regrown_of
  exact (total_any a b c v _ _ (on_in hT p) hv).mono fun _ _ h => ⟨h.1, h.2.bel⟩
theorem refTotal_in (W : World) (p : Regrown) (a b c v : Int) (hT : Tab W) (hv : total a b c = v) : Calls Tryz.prog 44 #[geoV a b c] (In W p) fun e w'' => e = .returned (.int .i64 v) ∧ ∃ q : Regrown, w'' = In W q := by
  apply Calls.regrown_of
  exact (refTotal_any a b c v _ _ (on_in hT p) hv).mono fun _ _ h => ⟨h.1, h.2.bel⟩

theorem canBe_any (a b c n q s : Int) (r : Bool) (w0 w : World) (H : On w0 w) (hr : can a b c n = r) : Calls Tryz.prog 133 #[headV a b c n q s] w fun e w' => e = .returned (.bool r) ∧ On w0 w' := by
  obtain ⟨v, hv⟩ : ∃ v, total a b c = v := ⟨_, rfl⟩
  obtain ⟨x, hx⟩ : ∃ x, right a b c = x := ⟨_, rfl⟩
  unfold can at hr
  rw [hx, hv] at hr
  have HT := Lib.hid (fun o => H.next (below_box w o))
  have HV := Lib.hid hv
  have HX := Lib.hid hx
  have HR := Lib.hid hr
  obtain ⟨b0, b1, b2, b3, _, _⟩ := boxed6 w (.int .i64 a) (.int .i64 b) (.int .i64 c) (.int .i64 n) (.int .u64 q) (.int .u32 s) 85
  clear hv hx hr H
  go_enter Tryz.func133, Tryz.ntmps133
  go_wp2_with fail
  have HW := Lib.hid (HT.out (.cells #[.int .i64 a, .int .i64 b, .int .i64 c, .int .i64 n, .int .u64 q, .int .u32 s] 85))
  generalize w.alloc (.cells #[.int .i64 a, .int .i64 b, .int .i64 c, .int .i64 n, .int .u64 q, .int .u32 s] 85) = W at *
  have r0 := fun d os => cell_regrown b0 d os
  have r1 := fun d os => cell_regrown b1 d os
  have r2 := fun d os => cell_regrown b2 d os
  have r3 := fun d os => cell_regrown b3 d os
  clear b0 b1 b2 b3
  cases x
  · refine wp_region_quiet_below (by kernel_rfl) (by kernel_rfl) ?_
    iterate 2 go_big_quiet_step (fail)
    go_big_quiet_step ((refine right_in W _ a b c false HW.out.tab HX.out))
    repeat (go_big_quiet_step (fail))
    refine wpQuiet_nil ?_
    rintro w' ⟨q, rfl⟩
    have HQ := Lib.hid (HW.out.next (in_below W q))
    go_wp2_with fail
    go_ret
    exact ⟨ret_bool HR.out, HQ.out⟩
  · refine wp_region_quiet_below (by kernel_rfl) (by kernel_rfl) ?_
    iterate 2 go_big_quiet_step (fail)
    go_big_quiet_step ((refine right_in W _ a b c true HW.out.tab HX.out))
    iterate 5 go_big_quiet_step (fail)
    go_big_quiet_step ((refine total_in W _ a b c v HW.out.tab HV.out))
    repeat (go_big_quiet_step (fail))
    refine wpQuiet_nil ?_
    rintro w' ⟨q, rfl⟩
    have HQ := Lib.hid (HW.out.next (in_below W q))
    go_wp2_with fail
    go_ret
    exact ⟨ret_bool HR.out, HQ.out⟩
theorem refCan_any (a b c n q s : Int) (r : Bool) (w0 w : World) (H : On w0 w) (hr : can a b c n = r) : Calls Tryz.prog 80 #[headV a b c n q s] w fun e w' => e = .returned (.bool r) ∧ On w0 w' := by
  obtain ⟨v, hv⟩ : ∃ v, total a b c = v := ⟨_, rfl⟩
  obtain ⟨x, hx⟩ : ∃ x, right a b c = x := ⟨_, rfl⟩
  unfold can at hr
  rw [hx, hv] at hr
  have HT := Lib.hid (fun o => H.next (below_box w o))
  have HV := Lib.hid hv
  have HX := Lib.hid hx
  have HR := Lib.hid hr
  obtain ⟨b0, b1, b2, b3, _, _⟩ := boxed6 w (.int .i64 a) (.int .i64 b) (.int .i64 c) (.int .i64 n) (.int .u64 q) (.int .u32 s) 85
  clear hv hx hr H
  go_enter Tryz.func80, Tryz.ntmps80
  go_wp2_with fail
  have HW := Lib.hid (HT.out (.cells #[.int .i64 a, .int .i64 b, .int .i64 c, .int .i64 n, .int .u64 q, .int .u32 s] 85))
  have HP := Lib.hid (show w.heap.size < (w.alloc (.cells #[.int .i64 a, .int .i64 b, .int .i64 c, .int .i64 n, .int .u64 q, .int .u32 s] 85)).heap.size by simp)
  generalize w.alloc (.cells #[.int .i64 a, .int .i64 b, .int .i64 c, .int .i64 n, .int .u64 q, .int .u32 s] 85) = W at *
  refine (refRight_any a b c x _ _ (On.start HW.out.tab) HX.out).mono ?_
  rintro e w1 ⟨rfl, hw1⟩
  have HW1 := Lib.hid (HW.out.next hw1.bel)
  have k0 := (hw1.bel.cell (p := ⟨w.heap.size, 0, none⟩) HP.out).trans b0
  have k1 := (hw1.bel.cell (p := ⟨w.heap.size, 1, none⟩) HP.out).trans b1
  have k2 := (hw1.bel.cell (p := ⟨w.heap.size, 2, none⟩) HP.out).trans b2
  have k3 := (hw1.bel.cell (p := ⟨w.heap.size, 3, none⟩) HP.out).trans b3
  clear b0 b1 b2 b3 hw1
  have r0 := fun d os => cell_regrown k0 d os
  have r1 := fun d os => cell_regrown k1 d os
  have r2 := fun d os => cell_regrown k2 d os
  have r3 := fun d os => cell_regrown k3 d os
  clear k0 k1 k2 k3
  go_wp2_with fail
  cases x
  · refine wp_region_quiet_below (by kernel_rfl) (by kernel_rfl) ?_
    repeat (go_big_quiet_step (fail))
    refine wpQuiet_nil ?_
    rintro w' ⟨q, rfl⟩
    have HQ := Lib.hid (HW1.out.next (in_below w1 q))
    go_wp2_with fail
    go_ret
    exact ⟨ret_bool HR.out, HQ.out⟩
  · refine wp_region_quiet_below (by kernel_rfl) (by kernel_rfl) ?_
    iterate 6 go_big_quiet_step (fail)
    go_big_quiet_step ((refine refTotal_in w1 _ a b c v HW1.out.tab HV.out))
    repeat (go_big_quiet_step (fail))
    refine wpQuiet_nil ?_
    rintro w' ⟨q, rfl⟩
    have HQ := Lib.hid (HW1.out.next (in_below w1 q))
    go_wp2_with fail
    go_ret
    exact ⟨ret_bool HR.out, HQ.out⟩
end Go.Proofs.YthlemcnbebfliaaGreatDoor
namespace Ks

def bt (b : Bool) : BitVec 32 := if b then 1#32 else 0#32
/-- the first m bits of f, one by one -/
def GF : Nat → (Nat → Bool) → BitVec 32
  | 0, _ => 0#32
  | m + 1, f => X (GF m f ^^^ bt (f m))

theorem byte0 : ∀ v, v < 256 → Xn 8 (BitVec.ofNat 32 v) = X (X (X (X (X (X (X (X (bt (v.testBit 0)) ^^^ bt (v.testBit 1)) ^^^ bt (v.testBit 2)) ^^^ bt (v.testBit 3)) ^^^ bt (v.testBit 4)) ^^^ bt (v.testBit 5)) ^^^ bt (v.testBit 6)) ^^^ bt (v.testBit 7)) := by
  decide +kernel
theorem byte_bits (S : BitVec 32) (v : Nat) (hv : v < 256) : Xn 8 (S ^^^ BitVec.ofNat 32 v) = X (X (X (X (X (X (X (X (S ^^^ bt (v.testBit 0)) ^^^ bt (v.testBit 1)) ^^^ bt (v.testBit 2)) ^^^ bt (v.testBit 3)) ^^^ bt (v.testBit 4)) ^^^ bt (v.testBit 5)) ^^^ bt (v.testBit 6)) ^^^ bt (v.testBit 7)) := by
  rw [Xn_xor, byte0 v hv]
  simp only [Xn, X_xor, BitVec.xor_assoc]
theorem GF_congr {m : Nat} {f g : Nat → Bool} (h : ∀ j, j < m → f j = g j) : GF m f = GF m g := by
  induction m with
  | zero => rfl
  | succ m ih => rw [GF, GF, ih (fun j hj => h j (by omega)), h m (by omega)]

/-- bit j of a text -/
def bitOf (l : List Int) (j : Nat) : Bool := (l.getD (j / 8) 0).toNat.testBit (j % 8)
theorem Bv_toNat (v : Int) (h : 0 ≤ v) : Bv v = BitVec.ofNat 32 v.toNat := by
  obtain ⟨k, rfl⟩ := Int.eq_ofNat_of_zero_le h
  unfold Bv; rw [BitVec.ofInt_natCast]; rfl
theorem run_take (l : List Int) (h : ∀ v ∈ l, 0 ≤ v ∧ v ≤ 255) (i : Nat) (hi : i ≤ l.length) : run 0#32 ((l.take i).map Bv) = GF (8 * i) (bitOf l) := by
  induction i with
  | zero => rfl
  | succ i ih =>
    have hlt : i < l.length := by omega
    have hv := h l[i] (List.getElem_mem hlt)
    rw [List.take_succ_eq_append_getElem hlt, List.map_append, List.map_cons, List.map_nil, run_snoc, ih (by omega)]
    unfold step
    rw [Bv_toNat _ hv.1, byte_bits _ _ (by omega)]
    have e : ∀ t, t < 8 → bitOf l (8 * i + t) = l[i].toNat.testBit t := by
      intro t ht
      unfold bitOf
      rw [show (8 * i + t) / 8 = i by omega, show (8 * i + t) % 8 = t by omega]
      simp [List.getD, hlt]
    show _ = GF (8 * i + 8) (bitOf l)
    simp only [GF]
    rw [← e 0 (by omega), ← e 1 (by omega), ← e 2 (by omega), ← e 3 (by omega), ← e 4 (by omega), ← e 5 (by omega), ← e 6 (by omega), ← e 7 (by omega)]
    rfl
theorem run_all (l : List Int) (h : ∀ v ∈ l, 0 ≤ v ∧ v ≤ 255) : run 0#32 (l.map Bv) = GF (8 * l.length) (bitOf l) := by
  have := run_take l h l.length (Nat.le_refl _)
  rwa [List.take_length] at this

/-- the lowest m bits -/
def low (y : BitVec 32) (m : Nat) : BitVec 32 := BitVec.ofNat 32 (y.toNat % 2 ^ m)
theorem low_bit (y : BitVec 32) (m i : Nat) (hi : i < 32) : (low y m).getLsbD i = (decide (i < m) && y.getLsbD i) := by
  unfold low
  rw [BitVec.getLsbD_ofNat, Nat.testBit_mod_two_pow]
  simp [hi, BitVec.getLsbD]
theorem X_shl : ∀ i, i < 32 → Xn i (1#32 <<< i) = 1#32 := by decide +kernel
theorem low_succ (y : BitVec 32) (m : Nat) : Xn m (low y m) ^^^ bt (y.getLsbD m) = Xn m (low y (m + 1)) := by
  by_cases hm : m < 32
  · have e : bt (y.getLsbD m) = Xn m (if y.getLsbD m then 1#32 <<< m else 0#32) := by
      cases h : y.getLsbD m
      · simp [bt, Xn_zero]
      · simp [bt, X_shl m hm]
    rw [e, ← Xn_xor]
    congr 1
    apply BitVec.eq_of_getLsbD_eq
    intro i hi
    rw [BitVec.getLsbD_xor, low_bit _ _ _ hi, low_bit _ _ _ hi]
    have e1 : (1#32 <<< m).getLsbD i = decide (i = m) := by
      rw [BitVec.getLsbD_shiftLeft]
      by_cases h : i < m
      · simp [h]; omega
      · rw [BitVec.getLsbD_one]
        have : (i - m = 0) = (i = m) := by simp; omega
        simp [hi, h, this]
    by_cases him : i = m
    · subst him
      cases h : y.getLsbD i
      · simp
      · simp [e1]
    · have e2 : (i < m + 1) = (i < m) := by simp; omega
      cases h : y.getLsbD m
      · simp [e2]
      · simp [e1, him, e2]
  · have h1 : y.getLsbD m = false := BitVec.getLsbD_of_ge _ _ (by omega)
    have h2 : ∀ k, 32 ≤ k → low y k = y := by
      intro k hk
      apply BitVec.eq_of_getLsbD_eq
      intro i hi
      rw [low_bit _ _ _ hi]; simp; omega
    rw [h1, h2 m (by omega), h2 (m + 1) (by omega)]
    simp [bt]
theorem GF_window (y : BitVec 32) (k m : Nat) (h : k ≤ m) : GF m (fun j => decide (k ≤ j) && y.getLsbD (j - k)) = Xn (m - k) (low y (m - k)) := by
  induction m with
  | zero =>
    obtain rfl : k = 0 := by omega
    simp [GF, low, Xn, Nat.mod_one]
  | succ m ih =>
    by_cases hk : k ≤ m
    · rw [GF, ih hk, show m + 1 - k = (m - k) + 1 by omega]
      simp only [hk, decide_true, Bool.true_and]
      rw [low_succ, ← Xn_X, Xn]
    · obtain rfl : k = m + 1 := by omega
      have z : GF (m + 1) (fun j => decide (m + 1 ≤ j) && y.getLsbD (j - (m + 1))) = GF (m + 1) (fun _ => false) := GF_congr fun j hj => by
        simp; intro; omega
      have z0 : ∀ n, GF n (fun _ => false) = 0#32 := by
        intro n
        induction n with
        | zero => rfl
        | succ n ih => rw [GF, ih]; decide
      rw [z, z0]
      simp [low, Xn, Nat.mod_one]

/-- two texts of one length, told apart bit by bit -/
theorem run_diff (s : BitVec 32) (b c d : List (BitVec 32)) (hc : c.length = b.length) (hd : d.length = b.length) (h : ∀ i, i < b.length → d.getD i 0#32 = b.getD i 0#32 ^^^ c.getD i 0#32) :
    run s b ^^^ run s c = run 0#32 d := by
  suffices H : ∀ (b c d : List (BitVec 32)) (s t : BitVec 32), c.length = b.length → d.length = b.length → (∀ i, i < b.length → d.getD i 0#32 = b.getD i 0#32 ^^^ c.getD i 0#32) → run s b ^^^ run t c = run (s ^^^ t) d by
    have := H b c d s s hc hd h
    rwa [BitVec.xor_self] at this
  intro b
  induction b with
  | nil =>
    intro c d s t hc hd _
    obtain rfl := List.length_eq_zero_iff.1 hc
    obtain rfl := List.length_eq_zero_iff.1 hd
    rfl
  | cons x b ih =>
    intro c d s t hc hd h
    match c, d, hc, hd with
    | y :: c, z :: d, hc, hd =>
      have h0 : z = x ^^^ y := by simpa using h 0 (by simp)
      show run (step s x) b ^^^ run (step t y) c = run (step (s ^^^ t) z) d
      rw [ih c d (step s x) (step t y) (by simpa using hc) (by simpa using hd) (fun i hi => by simpa using h (i + 1) (by simp; omega)), h0, step_xor]

/-- the sum of a text's bytes and another one's that are apart in y's bits from bit k on -/
theorem bursts (b c : List Int) (hb : ∀ v ∈ b, 0 ≤ v ∧ v ≤ 255) (hc : ∀ v ∈ c, 0 ≤ v ∧ v ≤ 255) (hl : c.length = b.length) (k : Nat) (y : BitVec 32) (hk : k ≤ 8 * b.length)
    (h : ∀ j, j < 8 * b.length → bitOf c j = (bitOf b j ^^ (decide (k ≤ j) && y.getLsbD (j - k)))) :
    more 0#32 (b.map Bv) = more 0#32 (c.map Bv) ↔ b = c := by
  constructor
  · intro e
    have e1 : run (~~~ 0#32) (b.map Bv) = run (~~~ 0#32) (c.map Bv) := by
      unfold more at e
      have := congrArg (fun x => ~~~ x) e
      simpa using this
    -- the text of what differs
    let d : List Int := (List.range b.length).map fun i => (((b.getD i 0).toNat ^^^ (c.getD i 0).toNat : Nat) : Int)
    have gb : ∀ i, i < b.length → 0 ≤ b.getD i 0 ∧ b.getD i 0 ≤ 255 := fun i hi => by simpa [List.getD, hi] using hb b[i] (List.getElem_mem hi)
    have gc : ∀ i, i < b.length → 0 ≤ c.getD i 0 ∧ c.getD i 0 ≤ 255 := fun i hi => by
      have hi' : i < c.length := by omega
      simpa [List.getD, hi'] using hc c[i] (List.getElem_mem hi')
    have dl : d.length = b.length := by simp [d]
    have dg : ∀ i, i < b.length → d.getD i 0 = (((b.getD i 0).toNat ^^^ (c.getD i 0).toNat : Nat) : Int) := fun i hi => by
      simp [d, List.getD, hi]
    have xl : ∀ x y : Nat, x < 256 → y < 256 → x ^^^ y < 256 := fun x y hx hy => Nat.xor_lt_two_pow (n := 8) hx hy
    have db : ∀ v ∈ d, 0 ≤ v ∧ v ≤ 255 := by
      intro v hv
      simp only [d, List.mem_map, List.mem_range] at hv
      obtain ⟨i, hi, rfl⟩ := hv
      have h1 := gb i hi
      have h2 := gc i hi
      have := xl (b.getD i 0).toNat (c.getD i 0).toNat (by omega) (by omega)
      omega
    have r := run_diff (~~~ 0#32) (b.map Bv) (c.map Bv) (d.map Bv) (by simp [hl]) (by simp [dl]) (by
      intro i hi
      have hi : i < b.length := by simpa using hi
      have m : ∀ l : List Int, i < l.length → (l.map Bv).getD i 0#32 = Bv (l.getD i 0) := fun l h => by simp [List.getD, h]
      rw [m d (by omega), m b hi, m c (by omega), dg i hi, Bv_toNat _ (gb i hi).1, Bv_toNat _ (gc i hi).1]
      unfold Bv
      rw [BitVec.ofInt_natCast, BitVec.ofNat_xor])
    rw [e1, BitVec.xor_self, run_all d db, dl] at r
    have bd : ∀ j, j < 8 * b.length → bitOf d j = (decide (k ≤ j) && y.getLsbD (j - k)) := by
      intro j hj
      have hi : j / 8 < b.length := by omega
      have := h j hj
      unfold bitOf at this ⊢
      rw [dg _ hi, Int.toNat_natCast, Nat.testBit_xor, this]
      cases (b.getD (j / 8) 0).toNat.testBit (j % 8) <;> simp
    rw [GF_congr bd, GF_window y k _ hk] at r
    have z := Xn_eq_zero r.symm
    have yz : ∀ i, i < 8 * b.length - k → y.getLsbD i = false := by
      intro i hi
      by_cases h32 : i < 32
      · have := congrArg (fun q => q.getLsbD i) z
        simp only [low_bit _ _ _ h32, hi, decide_true, Bool.true_and, BitVec.getLsbD_zero] at this
        exact this
      · exact BitVec.getLsbD_of_ge _ _ (by omega)
    apply List.ext_getElem hl.symm
    intro i h1 h2
    have q1 := gb i h1
    have q2 := gc i h1
    have e1 : b.getD i 0 = b[i] := by simp [List.getD, h1]
    have e2 : c.getD i 0 = c[i] := by simp [List.getD, h2]
    rw [e1] at q1; rw [e2] at q2
    have : b[i].toNat = c[i].toNat := by
      apply Nat.eq_of_testBit_eq
      intro t
      by_cases ht : t < 8
      · have hj := h (8 * i + t) (by omega)
        have e0 : (decide (k ≤ 8 * i + t) && y.getLsbD (8 * i + t - k)) = false := by
          by_cases hkj : k ≤ 8 * i + t
          · rw [yz _ (by omega), Bool.and_false]
          · simp [hkj]
        rw [e0, Bool.xor_false] at hj
        unfold bitOf at hj
        rw [show (8 * i + t) / 8 = i by omega, show (8 * i + t) % 8 = t by omega, e1, e2] at hj
        exact hj.symm
      · have p8 : 2 ^ 8 ≤ 2 ^ t := Nat.pow_le_pow_right (by omega) (by omega)
        rw [Nat.testBit_lt_two_pow (Nat.lt_of_lt_of_le (by omega : b[i].toNat < 2 ^ 8) p8), Nat.testBit_lt_two_pow (Nat.lt_of_lt_of_le (by omega : c[i].toNat < 2 ^ 8) p8)]
    omega
  · rintro rfl; rfl

/-- four bytes -/
theorem four_bytes (a : Int) (h0 : 0 ≤ a) (h1 : a ≤ 4294967295) : run 0#32 ([a % 256, a / 256 % 256, a / 65536 % 256, a / 16777216].map Bv) = Xn 32 (Bv a) := by
  have hb : ∀ v ∈ [a % 256, a / 256 % 256, a / 65536 % 256, a / 16777216], 0 ≤ v ∧ v ≤ 255 := by
    intro v hv
    simp only [List.mem_cons, List.not_mem_nil, or_false] at hv
    rcases hv with rfl | rfl | rfl | rfl <;> omega
  rw [run_all _ hb]
  have hg := GF_window (Bv a) 0 32 (by omega)
  have hlow : low (Bv a) 32 = Bv a := by
    apply BitVec.eq_of_getLsbD_eq
    intro i hi
    rw [low_bit _ _ _ hi]; simp [hi]
  rw [Nat.sub_zero, hlow] at hg
  rw [← hg]
  apply GF_congr
  intro j hj
  have hj32 : j < 32 := by simpa using hj
  obtain ⟨n, rfl⟩ := Int.eq_ofNat_of_zero_le h0
  have ea : (Bv (n : Int)).getLsbD j = n.testBit j := by
    unfold Bv; rw [BitVec.ofInt_natCast, BitVec.getLsbD_ofNat, decide_eq_true hj32, Bool.true_and]
  simp only [Nat.zero_le, decide_true, Bool.true_and, Nat.sub_zero, ea]
  have d8 : ∀ m t : Nat, t < 8 → (m % 256).testBit t = m.testBit t := fun m t ht => by
    rw [show 256 = 2 ^ 8 from rfl, Nat.testBit_mod_two_pow]; simp [ht]
  have sh : ∀ (m s t : Nat), (m / 2 ^ s).testBit t = m.testBit (s + t) := fun m s t => by rw [Nat.testBit_div_two_pow, Nat.add_comm]
  unfold bitOf
  have q : j / 8 = 0 ∨ j / 8 = 1 ∨ j / 8 = 2 ∨ j / 8 = 3 := by omega
  rcases q with q | q | q | q <;> rw [q]
  · have : ((n : Int) % 256).toNat = n % 256 := by omega
    simp only [List.getD_cons_zero, this]
    rw [d8 _ _ (by omega)]; congr 1; omega
  · have : ((n : Int) / 256 % 256).toNat = n / 2 ^ 8 % 256 := by omega
    simp only [List.getD_cons_succ, List.getD_cons_zero, this]
    rw [d8 _ _ (by omega), sh]; congr 1; omega
  · have : ((n : Int) / 65536 % 256).toNat = n / 2 ^ 16 % 256 := by omega
    simp only [List.getD_cons_succ, List.getD_cons_zero, this]
    rw [d8 _ _ (by omega), sh]; congr 1; omega
  · have : ((n : Int) / 16777216).toNat = n / 2 ^ 24 := by omega
    simp only [List.getD_cons_succ, List.getD_cons_zero, this]
    rw [sh]; congr 1; omega
theorem more4 (s a b : Int) (ha : 0 ≤ a ∧ a ≤ 4294967295) (hb : 0 ≤ b ∧ b ≤ 4294967295) :
    (more (Bv s) ([a % 256, a / 256 % 256, a / 65536 % 256, a / 16777216].map Bv) = more (Bv s) ([b % 256, b / 256 % 256, b / 65536 % 256, b / 16777216].map Bv)) ↔ a = b := by
  constructor
  · intro e
    unfold more at e
    have e := congrArg (fun x => ~~~ x) e
    simp only [BitVec.not_not] at e
    have r : ∀ l : List (BitVec 32), run (~~~ Bv s) l = Xn (8 * l.length) (~~~ Bv s) ^^^ run 0#32 l := fun l => by
      have := run_split (~~~ Bv s) 0#32 l
      rwa [BitVec.xor_zero] at this
    rw [r, r, four_bytes a ha.1 ha.2, four_bytes b hb.1 hb.2] at e
    have e2 : Xn 32 (Bv a) = Xn 32 (Bv b) := by
      have := congrArg (fun x => Xn 32 (~~~ Bv s) ^^^ x) e
      simpa [← BitVec.xor_assoc] using this
    have e3 := congrArg U (Xn_inj e2)
    rwa [U_Bv a ha.1 (by omega), U_Bv b hb.1 (by omega)] at e3
  · rintro rfl; rfl
end Ks
namespace Ks

/-- k bytes of a number -/
def le (k : Nat) (n : Int) : List Int := (List.range k).map fun j => n / 256 ^ j % 256
theorem le_zero (n : Int) : le 0 n = [] := rfl
theorem le_succ (k : Nat) (n : Int) : le (k + 1) n = le k n ++ [n / 256 ^ k % 256] := by
  unfold le; rw [List.range_succ, List.map_append]; rfl
theorem pow_step (n : Int) (j : Nat) : n / 256 ^ (j + 1) = n / 256 / 256 ^ j := by
  rw [Int.ediv_ediv_of_nonneg (by decide), Int.pow_succ, Int.mul_comm]
theorem le_cons (k : Nat) (n : Int) : le (k + 1) n = n % 256 :: le k (n / 256) := by
  unfold le
  rw [List.range_succ_eq_map, List.map_cons, List.map_map]
  congr 1
  · simp
  · apply List.map_congr_left
    intro j _
    show n / 256 ^ (j + 1) % 256 = _
    rw [pow_step]
theorem le_len (k : Nat) (n : Int) : (le k n).length = k := by simp [le]
theorem le_in (k : Nat) (n : Int) : ∀ v ∈ le k n, 0 ≤ v ∧ v ≤ 255 := by
  intro v hv
  simp only [le, List.mem_map] at hv
  obtain ⟨j, _, rfl⟩ := hv
  omega
/-- the number of bytes -/
def num : List Int → Int
  | [] => 0
  | x :: r => x + 256 * num r
theorem num_le (k : Nat) (n : Int) (h0 : 0 ≤ n) (h1 : n < 256 ^ k) : num (le k n) = n := by
  induction k generalizing n with
  | zero => have : n = 0 := by simp at h1; omega
            subst this; rfl
  | succ k ih =>
    rw [le_cons, num, ih (n / 256) (by omega) (by rw [Int.pow_succ] at h1; omega)]
    omega
theorem le_num (l : List Int) (h : ∀ v ∈ l, 0 ≤ v ∧ v ≤ 255) : le l.length (num l) = l := by
  induction l with
  | nil => rfl
  | cons x r ih =>
    have hx := h x (by simp)
    rw [List.length_cons, le_cons, num, show (x + 256 * num r) % 256 = x by omega, show (x + 256 * num r) / 256 = num r by omega, ih (fun v hv => h v (by simp [hv]))]
theorem num_in (l : List Int) (h : ∀ v ∈ l, 0 ≤ v ∧ v ≤ 255) : 0 ≤ num l ∧ num l < 256 ^ l.length := by
  induction l with
  | nil => exact ⟨Int.le_refl _, by decide⟩
  | cons x r ih =>
    have hx := h x (by simp)
    obtain ⟨h1, h2⟩ := ih (fun v hv => h v (by simp [hv]))
    rw [List.length_cons, Int.pow_succ, num]
    omega
theorem num_drop (l : List Int) (m : Nat) (h : m < l.length) : num (l.drop m) = l.getD m 0 + 256 * num (l.drop (m + 1)) := by
  rw [List.drop_eq_getElem_cons h, num]
  simp [List.getD, h]
theorem num_end (l : List Int) : num (l.drop l.length) = 0 := by rw [List.drop_length]; rfl
/-- one part of a list -/
def part (l : List Int) (o k : Nat) : List Int := (l.drop o).take k
theorem part_len (l : List Int) (o k : Nat) (h : o + k ≤ l.length) : (part l o k).length = k := by simp [part]; omega
theorem part_in (l : List Int) (h : ∀ v ∈ l, 0 ≤ v ∧ v ≤ 255) (o k : Nat) : ∀ v ∈ part l o k, 0 ≤ v ∧ v ≤ 255 := fun v hv => h v (List.mem_of_mem_drop (List.mem_of_mem_take hv))
theorem part_getD (l : List Int) (o k j : Nat) (h : j < k) : (part l o k).getD j 0 = l.getD (o + j) 0 := by
  simp [part, List.getD, List.getElem?_drop, h]
theorem part_next (l : List Int) (o k : Nat) : l.take (o + k) = l.take o ++ part l o k := by
  unfold part; rw [List.take_add]
theorem part_one (l : List Int) (o : Nat) (h : o < l.length) : part l o 1 = [l.getD o 0] := by
  unfold part
  rw [List.drop_eq_getElem_cons h, List.take_succ_cons, List.take_zero]
  simp [List.getD, h]
theorem le_part (l : List Int) (h : ∀ v ∈ l, 0 ≤ v ∧ v ≤ 255) (o k : Nat) (hk : o + k ≤ l.length) : le k (num (part l o k)) = part l o k := by
  have := le_num (part l o k) (part_in l h o k)
  rwa [part_len l o k hk] at this
theorem le_one (x : Int) (h : 0 ≤ x ∧ x ≤ 255) : le 1 x = [x] := by
  rw [le_cons, le_zero, show x % 256 = x by omega]
theorem getD_in (l : List Int) (h : ∀ v ∈ l, 0 ≤ v ∧ v ≤ 255) (j : Nat) : 0 ≤ l.getD j 0 ∧ l.getD j 0 ≤ 255 := by
  by_cases hj : j < l.length
  · simpa [List.getD, hj] using h l[j] (List.getElem_mem hj)
  · rw [List.getD, List.getElem?_eq_none (by omega)]; simp

/-- a text's check sum -/
def sumOf (l : List Int) : Int := U (more 0#32 (l.map Bv))
theorem sumOf_in (l : List Int) : 0 ≤ sumOf l ∧ sumOf l < 4294967296 := ⟨U_ge _, U_lt _⟩
theorem le4 (a : Int) (h0 : 0 ≤ a) (h1 : a ≤ 4294967295) : le 4 a = [a % 256, a / 256 % 256, a / 65536 % 256, a / 16777216] := by
  rw [le_cons, le_cons, le_cons, le_cons, le_zero]
  have e1 : a / 256 / 256 = a / 65536 := by omega
  have e2 : a / 65536 / 256 = a / 16777216 := by omega
  rw [e1, e2, show a / 16777216 % 256 = a / 16777216 by omega]
/-- with its check sum behind it each text has one sum -/
theorem sealed (t s : List Int) (hs : s.length = 4) (vs : ∀ v ∈ s, 0 ≤ v ∧ v ≤ 255) (h : num s = sumOf t) : more 0#32 ((t ++ s).map Bv) = ~~~ Xn 32 (~~~ 0#32) := by
  have hn := num_in s vs
  rw [hs] at hn
  have e := le_num s vs
  rw [hs, le4 _ hn.1 (by have := hn.2; omega)] at e
  have hb : Bv (num s) = more 0#32 (t.map Bv) := by rw [h]; exact Bv_U _
  suffices H : run (~~~ 0#32) ((t ++ s).map Bv) = Xn 32 (~~~ 0#32) by
    unfold more; exact congrArg (fun x => ~~~ x) H
  rw [List.map_append, run_append]
  have hr : run (~~~ 0#32) (t.map Bv) = ~~~ more 0#32 (t.map Bv) := by unfold more; rw [BitVec.not_not]
  rw [hr]
  have h2 := run_split (~~~ more 0#32 (t.map Bv)) 0#32 (s.map Bv)
  rw [BitVec.xor_zero, List.length_map, hs] at h2
  have h3 : run 0#32 (s.map Bv) = Xn 32 (Bv (num s)) := by
    conv => lhs; rw [← e]
    exact four_bytes (num s) hn.1 (by have := hn.2; omega)
  rw [h2, h3, hb, ← Xn_xor]
  generalize more 0#32 (t.map Bv) = x
  have hx : ~~~ x ^^^ x = ~~~ 0#32 := by rw [not_eq x, BitVec.xor_comm x, BitVec.xor_assoc, BitVec.xor_self, BitVec.xor_zero]
  rw [hx]
end Ks
namespace Go.Proofs.YthlemcnbebfliaaGreatDoor
open Ks Go.RowKit
set_option maxRecDepth 20000

/-- a block of bytes, known whole -/
def Row (w : World) (g : Nat) (l : List Int) : Prop := w.heap[g]? = some (.cells (l.map (Value.int .u8)).toArray 5 (0, 0))
/-- block g alone may be another one -/
structure Only (g : Nat) (w w' : World) : Prop where
  os : w'.os = w.os
  tape : w'.tape = w.tape
  output : w'.output = w.output
  size : w'.heap.size = w.heap.size
  block : ∀ k, k ≠ g → w'.heap[k]? = w.heap[k]?
theorem Only.refl (g : Nat) (w : World) : Only g w w := ⟨rfl, rfl, rfl, rfl, fun _ _ => rfl⟩
theorem Only.trans {g : Nat} {a b c : World} (h : Only g a b) (k : Only g b c) : Only g a c := ⟨k.os.trans h.os, k.tape.trans h.tape, k.output.trans h.output, k.size.trans h.size, fun i hi => (k.block i hi).trans (h.block i hi)⟩
theorem Only.below {g B : Nat} {w w' : World} (h : Only g w w') (hB : B ≤ g) : Below B w w' := ⟨h.os, h.tape, h.output, by rw [h.size]; exact Nat.le_refl _, fun k hk => h.block k (by omega)⟩
theorem Only.set_ {g : Nat} {w w' : World} (h : Only g w w') (o : Nat) (u : Value) : Only g w (w'.setCell ⟨g, o, none⟩ u) :=
  ⟨h.os, h.tape, h.output, by simpa using h.size, fun k hk => (Below.heap_setCell w' ⟨g, o, none⟩ u k hk).trans (h.block k hk)⟩
theorem Only.drew {g : Nat} {w w' : World} (h : Only g w w') : Only g w w'.drew := ⟨h.os, h.tape, h.output, h.size, h.block⟩
theorem Only.of_drew {g : Nat} {w w' : World} (h : Only g w.drew w') : Only g w w' := ⟨h.os, h.tape, h.output, h.size, h.block⟩
theorem Only.cell {g : Nat} {w w' : World} (h : Only g w w') {b o : Nat} (hb : b ≠ g) : w'.cell? ⟨b, o, none⟩ = w.cell? ⟨b, o, none⟩ := World.cell?_of_block (w := w) (h.block b hb)
theorem Row.lt {w : World} {g : Nat} {l : List Int} (h : Row w g l) : g < w.heap.size := (Array.getElem?_eq_some_iff.1 h).1
theorem Row.cell {w : World} {g : Nat} {l : List Int} (h : Row w g l) (i : Nat) (hi : i < l.length) : w.cell? ⟨g, i, none⟩ = some (.int .u8 (l.getD i 0)) ∧ w.frozen? ⟨g, i, none⟩ = false := by
  constructor
  · rw [cell_of_row w g i _ 5 (0, 0) h]
    simp [List.getD, hi]
  · unfold Row at h
    simp [World.frozen?, h]
theorem Row.set_ {w : World} {g : Nat} {l : List Int} (h : Row w g l) (i : Nat) (x : Int) : Row (w.setCell ⟨g, i, none⟩ (.int .u8 x)) g (l.set i x) := by
  unfold Row at h ⊢
  simp [World.setCell, Array.getElem?_modify, h, List.map_set]
theorem Row.bytes {w : World} {g : Nat} {l : List Int} (h : Row w g l) (hv : ∀ v ∈ l, 0 ≤ v ∧ v ≤ 255) {n : Nat} (hn : l.length = n) : Bytes w w.heap.size (some ⟨g, 0, none⟩) n l :=
  ⟨hn, hv, fun _ => ⟨g, 0, rfl, h.lt, fun k hk => by rw [Nat.zero_add]; exact (h.cell k (by omega)).1⟩⟩
theorem bytes_part {w : World} {B b o n : Nat} {l : List Int} (h : Bytes w B (some ⟨b, o, none⟩) n l) (i k : Nat) (hik : i + k ≤ n) : Bytes w B (some ⟨b, o + i, none⟩) k (Ks.part l i k) := by
  obtain ⟨h1, h2, h3⟩ := h
  refine ⟨part_len l i k (by omega), part_in l h2 i k, fun hk => ?_⟩
  obtain ⟨b', o', e, hb, hc⟩ := h3 (by omega)
  cases e
  exact ⟨b, o + i, rfl, hb, fun j hj => by rw [Nat.add_assoc, hc (i + j) (by omega), part_getD l i k j hj]⟩

theorem lay_step (pre post : List Int) (n v : Int) (i : Nat) (hi : i < post.length) (hv : v = n / 256 ^ i % 256) : (pre ++ le i n ++ post.drop i).set (pre.length + i) v = pre ++ le (i + 1) n ++ post.drop (i + 1) := by
  subst hv
  have hl : (pre ++ le i n).length = pre.length + i := by rw [List.length_append, le_len]
  rw [List.set_append_right _ _ (by omega), hl, Nat.sub_self, List.drop_eq_getElem_cons hi, List.set_cons_zero, le_succ]
  simp
theorem lay_in (pre post : List Int) (n : Int) (i : Nat) (hi : i < post.length) : pre.length + i < (pre ++ le i n ++ post.drop i).length := by
  simp [le_len]; omega
/-- where the loop stands behind i rounds -/
def LayAt (w : World) (g : Nat) (pre post : List Int) (n : Int) (i : Nat) (wr : World) : Prop := Row wr g (pre ++ le i n ++ post.drop i) ∧ Only g w wr
theorem layAt_zero {w : World} {g : Nat} {pre post : List Int} {n : Int} (h : Row w g (pre ++ post)) : LayAt w g pre post n 0 w := ⟨by rw [le_zero, List.append_nil]; exact h, Only.refl _ _⟩
theorem layAt_succ {w wr : World} {g o : Nat} {pre post : List Int} {n x : Int} {i : Nat} (h : LayAt w g pre post n i wr) (ho : pre.length = o) (hi : i < post.length) (hx : x = n / 256 ^ i % 256) :
    LayAt w g pre post n (i + 1) (wr.setCell ⟨g, o + i, none⟩ (.int .u8 x)) := by
  subst ho
  refine ⟨?_, h.2.set_ _ _⟩
  rw [← lay_step pre post n x i hi hx]
  exact h.1.set_ _ _
theorem layAt_cell {w wr : World} {g o : Nat} {pre post : List Int} {n : Int} {i : Nat} (h : LayAt w g pre post n i wr) (ho : pre.length = o) (hi : i < post.length) : ∃ u, wr.cell? ⟨g, o + i, none⟩ = some (.int .u8 u) ∧ wr.frozen? ⟨g, o + i, none⟩ = false := by
  subst ho
  exact ⟨_, h.1.cell _ (lay_in pre post n i hi)⟩
theorem halve (n : Int) (i : Nat) : n / 256 ^ i / 256 = n / 256 ^ (i + 1) := by
  rw [Int.pow_succ, Int.ediv_ediv_of_nonneg (Int.pow_nonneg (by decide))]
theorem div_in (n : Int) (i : Nat) (h : 0 ≤ n) : 0 ≤ n / 256 ^ i ∧ n / 256 ^ i ≤ n := ⟨Int.ediv_nonneg h (Int.pow_nonneg (by decide)), Int.ediv_le_self _ h⟩

theorem layInt_any (pre post : List Int) (k g o c : Nat) (n : Int) (w : World) (h0 : 0 ≤ n) (_h1 : n < 9223372036854775808) (hR : Row w g (pre ++ post)) (ho : pre.length = o) (hk : k ≤ post.length) (hk8 : k ≤ 8) :
    Calls Tryz.prog 134 #[.slice (some ⟨g, o, none⟩) k c, .int .i64 n] w fun e w' => e = .returned (.tuple #[]) ∧ LayAt w g pre post n k w' := by
  have HR := Lib.hid (layAt_zero (n := n) hR)
  have HO := Lib.hid ho
  have HK := Lib.hid hk
  clear hR ho hk
  go_enter Tryz.func134, Tryz.ntmps134
  go_wp2_with fail
  go_loopw [1, 4, 7] (fun y _ s wr => ∃ i : Nat, i ≤ k ∧ s = .int .i64 i ∧ y = .int .i64 (n / 256 ^ i) ∧ LayAt w g pre post n i wr) (fun _ _ s _ => k - (intOf s).toNat)
  case atStart => exact ⟨0, Nat.zero_le _, rfl, by simp, HR.out⟩
  case round =>
    obtain ⟨i, hi, rfl, rfl, hat⟩ := hrel
    have HAT := Lib.hid hat
    clear hat HR
    by_cases hlt : i < k
    · have hlt' : i < post.length := Nat.lt_of_lt_of_le hlt HK.out
      obtain ⟨u, hcv, hcf⟩ := layAt_cell HAT.out HO.out hlt'
      have R := Lib.hid (fun x hx => layAt_succ (x := x) HAT.out HO.out hlt' hx)
      have HH := Lib.hid (halve n i)
      obtain ⟨hy0, hy1⟩ := div_in n i h0
      have hi0 : (0 : Int) ≤ (i : Int) := by omega
      have hi1 : (i : Int) < (k : Int) := by omega
      generalize n / 256 ^ i = y at *
      go_wp2_with fail
      go_roundw
      case rel => exact ⟨i + 1, by omega, by go_num, congrArg (Value.int .i64) HH.out, R.out _ rfl⟩
      case measure => simp [intOf]; omega
    · obtain rfl : i = k := by omega
      go_wp2_with fail
      go_end0
      exact ⟨rfl, HAT.out⟩

theorem lay64_any (pre post : List Int) (k g o c : Nat) (n : Int) (w : World) (h0 : 0 ≤ n) (_h1 : n < 18446744073709551616) (hR : Row w g (pre ++ post)) (ho : pre.length = o) (hk : k ≤ post.length) (hk8 : k ≤ 8) :
    Calls Tryz.prog 135 #[.slice (some ⟨g, o, none⟩) k c, .int .u64 n] w fun e w' => e = .returned (.tuple #[]) ∧ LayAt w g pre post n k w' := by
  have HR := Lib.hid (layAt_zero (n := n) hR)
  have HO := Lib.hid ho
  have HK := Lib.hid hk
  clear hR ho hk
  go_enter Tryz.func135, Tryz.ntmps135
  go_wp2_with fail
  go_loopw [1, 4, 7] (fun y _ s wr => ∃ i : Nat, i ≤ k ∧ s = .int .i64 i ∧ y = .int .u64 (n / 256 ^ i) ∧ LayAt w g pre post n i wr) (fun _ _ s _ => k - (intOf s).toNat)
  case atStart => exact ⟨0, Nat.zero_le _, rfl, by simp, HR.out⟩
  case round =>
    obtain ⟨i, hi, rfl, rfl, hat⟩ := hrel
    have HAT := Lib.hid hat
    clear hat HR
    by_cases hlt : i < k
    · have hlt' : i < post.length := Nat.lt_of_lt_of_le hlt HK.out
      obtain ⟨u, hcv, hcf⟩ := layAt_cell HAT.out HO.out hlt'
      have R := Lib.hid (fun x hx => layAt_succ (x := x) HAT.out HO.out hlt' hx)
      have HH := Lib.hid (halve n i)
      obtain ⟨hy0, hy1⟩ := div_in n i h0
      have hi0 : (0 : Int) ≤ (i : Int) := by omega
      have hi1 : (i : Int) < (k : Int) := by omega
      generalize n / 256 ^ i = y at *
      go_wp2_with fail
      go_roundw
      case rel => exact ⟨i + 1, by omega, by go_num, congrArg (Value.int .u64) HH.out, R.out _ rfl⟩
      case measure => simp [intOf]; omega
    · obtain rfl : i = k := by omega
      go_wp2_with fail
      go_end0
      exact ⟨rfl, HAT.out⟩

theorem lay32_any (pre post : List Int) (k g o c : Nat) (n : Int) (w : World) (h0 : 0 ≤ n) (_h1 : n < 4294967296) (hR : Row w g (pre ++ post)) (ho : pre.length = o) (hk : k ≤ post.length) (hk8 : k ≤ 8) :
    Calls Tryz.prog 136 #[.slice (some ⟨g, o, none⟩) k c, .int .u32 n] w fun e w' => e = .returned (.tuple #[]) ∧ LayAt w g pre post n k w' := by
  have HR := Lib.hid (layAt_zero (n := n) hR)
  have HO := Lib.hid ho
  have HK := Lib.hid hk
  clear hR ho hk
  go_enter Tryz.func136, Tryz.ntmps136
  go_wp2_with fail
  go_loopw [1, 4, 7] (fun y _ s wr => ∃ i : Nat, i ≤ k ∧ s = .int .i64 i ∧ y = .int .u32 (n / 256 ^ i) ∧ LayAt w g pre post n i wr) (fun _ _ s _ => k - (intOf s).toNat)
  case atStart => exact ⟨0, Nat.zero_le _, rfl, by simp, HR.out⟩
  case round =>
    obtain ⟨i, hi, rfl, rfl, hat⟩ := hrel
    have HAT := Lib.hid hat
    clear hat HR
    by_cases hlt : i < k
    · have hlt' : i < post.length := Nat.lt_of_lt_of_le hlt HK.out
      obtain ⟨u, hcv, hcf⟩ := layAt_cell HAT.out HO.out hlt'
      have R := Lib.hid (fun x hx => layAt_succ (x := x) HAT.out HO.out hlt' hx)
      have HH := Lib.hid (halve n i)
      obtain ⟨hy0, hy1⟩ := div_in n i h0
      have hi0 : (0 : Int) ≤ (i : Int) := by omega
      have hi1 : (i : Int) < (k : Int) := by omega
      generalize n / 256 ^ i = y at *
      go_wp2_with fail
      go_roundw
      case rel => exact ⟨i + 1, by omega, by go_num, congrArg (Value.int .u32) HH.out, R.out _ rfl⟩
      case measure => simp [intOf]; omega
    · obtain rfl : i = k := by omega
      go_wp2_with fail
      go_end0
      exact ⟨rfl, HAT.out⟩
end Go.Proofs.YthlemcnbebfliaaGreatDoor
namespace Go.Proofs.YthlemcnbebfliaaGreatDoor
open Ks Go.RowKit
set_option maxRecDepth 20000

theorem pow256 (a b : Nat) (h : a ≤ b) : (256 : Int) ^ a ≤ 256 ^ b := by
  obtain ⟨d, rfl⟩ : ∃ d, b = a + d := ⟨b - a, by omega⟩
  clear h
  induction d with
  | zero => exact Int.le_refl _
  | succ d ih =>
    rw [← Nat.add_assoc, Int.pow_succ]
    have : (0 : Int) < 256 ^ a := Int.pow_pos (by decide)
    omega
theorem or_u32 (y x : Int) (h0 : 0 ≤ y) (h1 : y < 16777216) (hx : 0 ≤ x ∧ x ≤ 255) : bits .or .u32 (y * 256) x = x + 256 * y := by
  rw [u32_or _ _ (by omega) (by omega) hx.1 (by omega), nat_join8 _ _ (by omega) (by omega)]
  omega
theorem or_u64 (y x : Int) (h0 : 0 ≤ y) (h1 : y < 72057594037927936) (hx : 0 ≤ x ∧ x ≤ 255) : bits .or .u64 (y * 256) x = x + 256 * y := by
  rw [u64_or _ _ (by omega) (by omega) hx.1 (by omega), nat_join8 _ _ (by omega) (by omega)]
  omega
theorem or_i64 (y x : Int) (h0 : 0 ≤ y) (h1 : y < 16777216) (hx : 0 ≤ x ∧ x ≤ 255) : bits .or .i64 (y * 256) x = x + 256 * y := by
  obtain ⟨a, ha⟩ := Int.eq_ofNat_of_zero_le (show 0 ≤ y * 256 by omega)
  obtain ⟨b, hb⟩ := Int.eq_ofNat_of_zero_le hx.1
  rw [ha, hb]
  show IntKind.i64.wrap ((BitVec.ofInt 64 (a : Int) ||| BitVec.ofInt 64 (b : Int)).toNat : Int) = _
  rw [BitVec.toNat_or, ofInt_u64 a (by omega), ofInt_u64 b (by omega), nat_join8 _ _ (by omega) (by omega), IntKind.wrap_i64]
  omega
theorem add_u64 (y x : Int) : 256 * y + x = x + 256 * y := by omega

theorem take32_any (A : Option Addr) (n c B : Nat) (l : List Int) (v : Int) (w : World) (hn : n ≤ 4) (hl : Bytes w B A n l) (hv : num l = v) :
    Calls Tryz.prog 139 #[.slice A n c] w fun e w' => e = .returned (.int .u32 v) ∧ w' = w := by
  subst hv
  have HL := Lib.hid hl
  clear hl
  go_enter Tryz.func139, Tryz.ntmps139
  go_wp2_with fail
  go_loop [3, 4] (fun y i => ∃ k : Nat, k ≤ n ∧ i = .int .i64 ((k : Int) - 1) ∧ y = .int .u32 (num (l.drop k))) (fun _ i => (intOf i + 1).toNat)
  case atStart => exact ⟨n, by omega, rfl, by rw [← HL.out.1, num_end]⟩
  case round =>
    obtain ⟨k, hk, rfl, rfl⟩ := hrel
    by_cases h0 : k = 0
    · subst h0
      go_wp2_with fail
      go_ret
      exact ⟨rfl, rfl⟩
    · obtain ⟨m, rfl⟩ : ∃ m, k = m + 1 := ⟨k - 1, by omega⟩
      obtain ⟨b, o, rfl, hc⟩ := bytes_cell HL.out (Below.refl B w) m (by omega)
      have hs := num_drop l m (by have := HL.out.1; omega)
      have hx := getD_in l HL.out.2.1 m
      have hb := num_in (l.drop (m + 1)) (fun v hv => HL.out.2.1 v (List.mem_of_mem_drop hv))
      have hp := pow256 (l.drop (m + 1)).length 3 (by have := HL.out.1; simp; omega)
      have hm0 : (0 : Int) ≤ ((m + 1 : Nat) : Int) - 1 := by omega
      have hm1 : ((m + 1 : Nat) : Int) - 1 < (n : Int) := by omega
      have hmm : (((m + 1 : Nat) : Int) - 1).toNat = m := by omega
      obtain ⟨hb0, hb1⟩ := hb
      have hb2 : num (l.drop (m + 1)) < 16777216 := Int.lt_of_lt_of_le hb1 hp
      have HS := Lib.hid hs
      generalize num (l.drop (m + 1)) = y at *
      generalize l.getD m 0 = x at *
      clear h0 hp hb1 hs
      obtain ⟨hx0, hx1⟩ := hx
      go_wp2_with fail
      go_round
      case rel => exact ⟨m, by omega, rfl, congrArg (Value.int .u32) (by rw [HS.out]; exact or_u32 _ _ hb0 hb2 ⟨hx0, hx1⟩)⟩
      case measure => simp [intOf]

theorem takeInt_any (A : Option Addr) (n c B : Nat) (l : List Int) (v : Int) (w : World) (hn : n ≤ 4) (hl : Bytes w B A n l) (hv : num l = v) :
    Calls Tryz.prog 154 #[.slice A n c] w fun e w' => e = .returned (.int .i64 v) ∧ w' = w := by
  subst hv
  have HL := Lib.hid hl
  clear hl
  go_enter Tryz.func154, Tryz.ntmps154
  go_wp2_with fail
  go_loop [3, 4] (fun y i => ∃ k : Nat, k ≤ n ∧ i = .int .i64 ((k : Int) - 1) ∧ y = .int .i64 (num (l.drop k))) (fun _ i => (intOf i + 1).toNat)
  case atStart => exact ⟨n, by omega, rfl, by rw [← HL.out.1, num_end]⟩
  case round =>
    obtain ⟨k, hk, rfl, rfl⟩ := hrel
    by_cases h0 : k = 0
    · subst h0
      go_wp2_with fail
      go_ret
      exact ⟨rfl, rfl⟩
    · obtain ⟨m, rfl⟩ : ∃ m, k = m + 1 := ⟨k - 1, by omega⟩
      obtain ⟨b, o, rfl, hc⟩ := bytes_cell HL.out (Below.refl B w) m (by omega)
      have hs := num_drop l m (by have := HL.out.1; omega)
      have hx := getD_in l HL.out.2.1 m
      have hb := num_in (l.drop (m + 1)) (fun v hv => HL.out.2.1 v (List.mem_of_mem_drop hv))
      have hp := pow256 (l.drop (m + 1)).length 3 (by have := HL.out.1; simp; omega)
      have hm0 : (0 : Int) ≤ ((m + 1 : Nat) : Int) - 1 := by omega
      have hm1 : ((m + 1 : Nat) : Int) - 1 < (n : Int) := by omega
      have hmm : (((m + 1 : Nat) : Int) - 1).toNat = m := by omega
      obtain ⟨hb0, hb1⟩ := hb
      have hb2 : num (l.drop (m + 1)) < 16777216 := Int.lt_of_lt_of_le hb1 hp
      have HS := Lib.hid hs
      generalize num (l.drop (m + 1)) = y at *
      generalize l.getD m 0 = x at *
      clear h0 hp hb1 hs
      obtain ⟨hx0, hx1⟩ := hx
      go_wp2_with fail
      go_round
      case rel => exact ⟨m, by omega, rfl, congrArg (Value.int .i64) (by rw [HS.out]; exact or_i64 _ _ hb0 hb2 ⟨hx0, hx1⟩)⟩
      case measure => simp [intOf]

theorem take64_any (A : Option Addr) (n c B : Nat) (l : List Int) (v : Int) (w : World) (hn : n ≤ 8) (hl : Bytes w B A n l) (hv : num l = v) :
    Calls Tryz.prog 155 #[.slice A n c] w fun e w' => e = .returned (.int .u64 v) ∧ w' = w := by
  subst hv
  have HL := Lib.hid hl
  clear hl
  go_enter Tryz.func155, Tryz.ntmps155
  go_wp2_with fail
  go_loop [3, 4] (fun y i => ∃ k : Nat, k ≤ n ∧ i = .int .i64 ((k : Int) - 1) ∧ y = .int .u64 (num (l.drop k))) (fun _ i => (intOf i + 1).toNat)
  case atStart => exact ⟨n, by omega, rfl, by rw [← HL.out.1, num_end]⟩
  case round =>
    obtain ⟨k, hk, rfl, rfl⟩ := hrel
    by_cases h0 : k = 0
    · subst h0
      go_wp2_with fail
      go_ret
      exact ⟨rfl, rfl⟩
    · obtain ⟨m, rfl⟩ : ∃ m, k = m + 1 := ⟨k - 1, by omega⟩
      obtain ⟨b, o, rfl, hc⟩ := bytes_cell HL.out (Below.refl B w) m (by omega)
      have hs := num_drop l m (by have := HL.out.1; omega)
      have hx := getD_in l HL.out.2.1 m
      have hb := num_in (l.drop (m + 1)) (fun v hv => HL.out.2.1 v (List.mem_of_mem_drop hv))
      have hp := pow256 (l.drop (m + 1)).length 7 (by have := HL.out.1; simp; omega)
      have hm0 : (0 : Int) ≤ ((m + 1 : Nat) : Int) - 1 := by omega
      have hm1 : ((m + 1 : Nat) : Int) - 1 < (n : Int) := by omega
      have hmm : (((m + 1 : Nat) : Int) - 1).toNat = m := by omega
      obtain ⟨hb0, hb1⟩ := hb
      have hb2 : num (l.drop (m + 1)) < 72057594037927936 := Int.lt_of_lt_of_le hb1 hp
      have HS := Lib.hid hs
      generalize num (l.drop (m + 1)) = y at *
      generalize l.getD m 0 = x at *
      clear h0 hp hb1 hs
      obtain ⟨hx0, hx1⟩ := hx
      go_wp2_with fail
      go_round
      case rel => exact ⟨m, by omega, rfl, congrArg (Value.int .u64) (by rw [HS.out]; exact or_u64 _ _ hb0 hb2 ⟨hx0, hx1⟩)⟩
      case measure => simp [intOf]

theorem number_any (A : Option Addr) (n c B : Nat) (l : List Int) (v : Int) (w : World) (hn : n ≤ 8) (hl : Bytes w B A n l) (hv : num l = v) :
    Calls Tryz.prog 78 #[.slice A n c] w fun e w' => e = .returned (.int .u64 v) ∧ w' = w := by
  subst hv
  have HL := Lib.hid hl
  clear hl
  go_enter Tryz.func78, Tryz.ntmps78
  go_wp2_with fail
  go_loop [3, 4] (fun y i => ∃ k : Nat, k ≤ n ∧ i = .int .i64 ((k : Int) - 1) ∧ y = .int .u64 (num (l.drop k))) (fun _ i => (intOf i + 1).toNat)
  case atStart => exact ⟨n, by omega, rfl, by rw [← HL.out.1, num_end]⟩
  case round =>
    obtain ⟨k, hk, rfl, rfl⟩ := hrel
    by_cases h0 : k = 0
    · subst h0
      go_wp2_with fail
      go_ret
      exact ⟨rfl, rfl⟩
    · obtain ⟨m, rfl⟩ : ∃ m, k = m + 1 := ⟨k - 1, by omega⟩
      obtain ⟨b, o, rfl, hc⟩ := bytes_cell HL.out (Below.refl B w) m (by omega)
      have hs := num_drop l m (by have := HL.out.1; omega)
      have hx := getD_in l HL.out.2.1 m
      have hb := num_in (l.drop (m + 1)) (fun v hv => HL.out.2.1 v (List.mem_of_mem_drop hv))
      have hp := pow256 (l.drop (m + 1)).length 7 (by have := HL.out.1; simp; omega)
      have hm0 : (0 : Int) ≤ ((m + 1 : Nat) : Int) - 1 := by omega
      have hm1 : ((m + 1 : Nat) : Int) - 1 < (n : Int) := by omega
      have hmm : (((m + 1 : Nat) : Int) - 1).toNat = m := by omega
      obtain ⟨hb0, hb1⟩ := hb
      have hb2 : num (l.drop (m + 1)) < 72057594037927936 := Int.lt_of_lt_of_le hb1 hp
      have HS := Lib.hid hs
      generalize num (l.drop (m + 1)) = y at *
      generalize l.getD m 0 = x at *
      clear h0 hp hb1 hs
      obtain ⟨hx0, hx1⟩ := hx
      go_wp2_with fail
      go_round
      case rel => exact ⟨m, by omega, rfl, congrArg (Value.int .u64) (by rw [HS.out]; exact add_u64 _ _)⟩
      case measure => simp [intOf]
end Go.Proofs.YthlemcnbebfliaaGreatDoor
