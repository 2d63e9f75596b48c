/-
  THE PLAIN MATHEMATICS OF DIVIDING BIT BY BIT: a window of 32 bits that goes along.
  THE WALKS OF keepsakeref01.word, divisor, left.
  A LAW OF NO PROGRAM: append(s, make([]T, m)...) onto nil or onto a row of the call's own, T of one cell.
  THE WALKS OF keepsakeref01.Bits, Sum.
  THE WALK OF keepsakeref04.Decode.
-/
import Derived.Test.YtpbhkkcboppdmaaDoorHBits
import Derived.Test.YtpbhkkcboppdmaaDoorHBase
import Derived.StillTailTactics
import Derived.Deep.AppendLies
import Derived.Lib.AppendZerosOnto
import Derived.Test.YtpbhkkcboppdmaaDoorHSame
import Derived.Test.YtpbhkkcboppdmaaDoorHApp
namespace Ks

/-- the first k bits of f as a number -/
def winB (f : Nat → Bool) : Nat → BitVec 32
  | 0 => 0#32
  | k + 1 => winB f k ^^^ (if f k then 1#32 <<< k else 0#32)
theorem one_shl (k t : Nat) (ht : t < 32) : (1#32 <<< k).getLsbD t = decide (t = k) := by
  rw [BitVec.getLsbD_shiftLeft]
  by_cases h : t < k
  · simp [h]; omega
  · rw [BitVec.getLsbD_one]
    have : (t - k = 0) = (t = k) := by simp; omega
    simp [ht, h, this]
theorem winB_bit (f : Nat → Bool) (k t : Nat) (ht : t < 32) : (winB f k).getLsbD t = (decide (t < k) && f t) := by
  induction k with
  | zero => simp [winB]
  | succ k ih =>
    rw [winB, BitVec.getLsbD_xor, ih]
    by_cases e : t = k
    · subst e
      cases h : f t
      · simp
      · simp [one_shl t t ht]
    · have e2 : decide (t < k + 1) = decide (t < k) := by simp; omega
      rw [e2]
      cases h : f k
      · simp
      · simp [one_shl k t ht, e]
/-- 32 bits from m on -/
def win (f : Nat → Bool) (m : Nat) : BitVec 32 := winB (fun t => f (m + t)) 32
theorem win_bit (f : Nat → Bool) (m t : Nat) (ht : t < 32) : (win f m).getLsbD t = f (m + t) := by
  unfold win; rw [winB_bit _ _ _ ht]; simp [ht]
theorem win_congr {f g : Nat → Bool} {m : Nat} (h : ∀ t, t < 32 → f (m + t) = g (m + t)) : win f m = win g m := by
  apply BitVec.eq_of_getLsbD_eq
  intro t ht
  rw [win_bit _ _ _ ht, win_bit _ _ _ ht, h t ht]

def ob (b : Bool) : BitVec 32 := if b then one else 0#32
theorem ob_bit (b : Bool) (t : Nat) (ht : t < 32) : (ob b).getLsbD t = (b && decide (t = 31)) := by
  have h : ∀ t, t < 32 → one.getLsbD t = decide (t = 31) := by decide
  cases b
  · simp [ob]
  · simp [ob, h t ht]
/-- what the window holds behind m steps -/
def Sf (f : Nat → Bool) : Nat → BitVec 32
  | 0 => win f 0
  | m + 1 => X (Sf f m) ^^^ ob (f (m + 32))
theorem X_bit (w : BitVec 32) (t : Nat) (_ht : t < 32) : (X w).getLsbD t = (w.getLsbD (t + 1) ^^ (w.getLsbD 0 && D.getLsbD t)) := by
  unfold X
  cases h : w.getLsbD 0
  · simp only [Bool.false_eq_true, if_false, BitVec.getLsbD_ushiftRight, Bool.false_and, Bool.xor_false]; rw [Nat.add_comm]
  · simp only [if_true, BitVec.getLsbD_xor, BitVec.getLsbD_ushiftRight, Bool.true_and]; rw [Nat.add_comm]
theorem win_next (w : Nat → Bool) (m : Nat) (f : Nat → Bool) (h : ∀ t, t < 32 → f (m + 1 + t) = (w (m + 1 + t) ^^ (w m && D.getLsbD t))) : win f (m + 1) = X (win w m) ^^^ ob (w (m + 32)) := by
  apply BitVec.eq_of_getLsbD_eq
  intro t ht
  rw [win_bit _ _ _ ht, h t ht, BitVec.getLsbD_xor, X_bit _ _ ht, ob_bit _ _ ht, win_bit w m 0 (by omega), show m + 0 = m by omega]
  by_cases e : t = 31
  · subst e
    have e0 : (win w m).getLsbD (31 + 1) = false := BitVec.getLsbD_of_ge _ _ (by omega)
    rw [e0, show m + 1 + 31 = m + 32 by omega]
    cases w (m + 32) <;> cases w m <;> simp
  · rw [win_bit w m (t + 1) (by omega), show m + (t + 1) = m + 1 + t by omega, decide_eq_false e, Bool.and_false, Bool.xor_false]
theorem Sf_eq (f : Nat → Bool) (m : Nat) : Sf f m = GF m f ^^^ win f m := by
  induction m with
  | zero => simp [Sf, GF]
  | succ m ih =>
    have hd : ∀ b : Bool, X (bt b) = (if b then D else 0#32) := by decide
    have e : X (win f m) ^^^ ob (f (m + 32)) = X (bt (f m)) ^^^ win f (m + 1) := by
      -- the window moved on, what the lowest bit leaves beside it
      have h := win_next f m (fun j => f j ^^ (f m && D.getLsbD (j - (m + 1)))) (fun t _ => by
        rw [show m + 1 + t - (m + 1) = t by omega])
      rw [← h, hd]
      apply BitVec.eq_of_getLsbD_eq
      intro t ht
      rw [BitVec.getLsbD_xor, win_bit _ _ _ ht, win_bit _ _ _ ht, show m + 1 + t - (m + 1) = t by omega, Bool.xor_comm]
      congr 1
      cases f m <;> simp
    rw [Sf, ih, X_xor, GF, X_xor, BitVec.xor_assoc, e, BitVec.xor_assoc]

/-- how far below the highest each power of the divisor lies -/
def dl : List Nat := [0, 6, 9, 10, 16, 20, 21, 22, 24, 25, 27, 28, 30, 31, 32]
theorem dl_D : ∀ t, t < 32 → dl.contains (t + 1) = D.getLsbD t := by decide
theorem dl_le : ∀ k, k < 15 → dl.getD k 0 ≤ 32 := by decide
theorem dl_new : ∀ k, k < 15 → (dl.take k).contains (dl.getD k 0) = false := by decide
theorem dl_take : ∀ k, k < 15 → dl.take (k + 1) = dl.take k ++ [dl.getD k 0] := by decide

/-- bits of a list -/
def bl (l : List Bool) (j : Nat) : Bool := l.getD j false
theorem bl_set (l : List Bool) (q : Nat) (hq : q < l.length) (b : Bool) (j : Nat) : bl (l.set q b) j = if j = q then b else bl l j := by
  unfold bl
  by_cases e : j = q
  · subst e; simp [List.getD, hq]
  · simp [List.getD, Ne.symm e, e]
/-- what is turned over behind k powers -/
def Flipped (i k : Nat) (c c' : List Bool) : Prop := c'.length = c.length ∧ ∀ j, j < c.length → bl c' j = (bl c j ^^ (decide (i ≤ j) && (dl.take k).contains (j - i)))
theorem flipped_zero (i : Nat) (c : List Bool) : Flipped i 0 c c := ⟨rfl, fun j _ => by simp⟩
theorem flipped_succ {i k : Nat} {c c' : List Bool} (h : Flipped i k c c') (hk : k < 15) (hi : i + 32 < c.length) :
    Flipped i (k + 1) c (c'.set (i + dl.getD k 0) (!(bl c' (i + dl.getD k 0)))) := by
  have hd := dl_le k hk
  refine ⟨by simp [h.1], fun j hj => ?_⟩
  rw [bl_set _ _ (by have := h.1; omega), dl_take k hk, List.contains_append, h.2 (i + dl.getD k 0) (by omega)]
  have e0 : i + dl.getD k 0 - i = dl.getD k 0 := by omega
  by_cases e : j = i + dl.getD k 0
  · subst e
    rw [if_pos rfl, e0, dl_new k hk]
    simp
  · rw [if_neg e, h.2 j hj]
    by_cases hij : i ≤ j
    · have : [dl.getD k 0].contains (j - i) = false := by
        generalize dl.getD k 0 = d at *
        simp; omega
      rw [this, Bool.or_false]
    · simp [hij]
/-- where the division stands behind i steps -/
def DivAt (l : List Bool) (i : Nat) (c : List Bool) : Prop := c.length = l.length ∧ win (bl c) i = Sf (bl l) i ∧ ∀ j, i + 32 ≤ j → bl c j = bl l j
theorem divAt_zero (l : List Bool) : DivAt l 0 l := ⟨rfl, rfl, fun _ _ => rfl⟩
theorem divAt_no {l c : List Bool} {i : Nat} (h : DivAt l i c) (hb : bl c i = false) : DivAt l (i + 1) c := by
  obtain ⟨h1, h2, h3⟩ := h
  refine ⟨h1, ?_, fun j hj => h3 j (by omega)⟩
  rw [win_next (bl c) i (bl c) (fun t _ => by rw [hb]; simp), h2, h3 (i + 32) (by omega), Sf]
theorem divAt_yes {l c c' : List Bool} {i : Nat} (h : DivAt l i c) (hb : bl c i = true) (hf : Flipped i 15 c c') (hi : i + 32 < l.length) : DivAt l (i + 1) c' := by
  obtain ⟨h1, h2, h3⟩ := h
  obtain ⟨f1, f2⟩ := hf
  have hall : dl.take 15 = dl := by decide
  rw [hall] at f2
  refine ⟨by omega, ?_, fun j hj => ?_⟩
  · rw [win_next (bl c) i (bl c') (fun t ht => ?_), h2, h3 (i + 32) (by omega), Sf]
    rw [f2 _ (by omega), hb, Bool.true_and, show i + 1 + t - i = t + 1 by omega, dl_D t ht]
    simp [show i ≤ i + 1 + t by omega]
  · rw [← h3 j (by omega)]
    by_cases hj2 : j < c.length
    · rw [f2 j hj2]
      have : dl.contains (j - i) = false := by
        have : ∀ d ∈ dl, d ≤ 32 := by decide
        cases hc : dl.contains (j - i)
        · rfl
        · have := this _ (List.contains_iff_mem.1 hc); omega
      rw [this]; simp
    · unfold bl
      rw [List.getD, List.getD, List.getElem?_eq_none (by omega), List.getElem?_eq_none (by omega)]

/-- a number out of its bits, from the highest on -/
theorem win_shr (f : Nat → Bool) (m k : Nat) (hk : k < 32) : 2 * U (win f m >>> (k + 1)) + (if f (m + k) then 1 else 0) = U (win f m >>> k) := by
  have hb := win_bit f m k hk
  rw [BitVec.getLsbD, Nat.testBit_eq_decide_div_mod_eq] at hb
  unfold U
  rw [BitVec.toNat_ushiftRight, BitVec.toNat_ushiftRight, Nat.shiftRight_eq_div_pow, Nat.shiftRight_eq_div_pow, Nat.pow_succ, ← Nat.div_div_eq_div_mul]
  generalize (win f m).toNat / 2 ^ k = q at *
  cases h : f (m + k)
  · rw [h] at hb
    have : ¬ q % 2 = 1 := by simpa using hb
    simp; omega
  · rw [h] at hb
    have : q % 2 = 1 := by simpa using hb
    simp; omega
theorem win_shr32 (f : Nat → Bool) (m : Nat) : U (win f m >>> 32) = 0 := by
  unfold U; rw [BitVec.toNat_ushiftRight, Nat.shiftRight_eq_div_pow]
  have := (win f m).isLt
  omega
theorem win_shr0 (f : Nat → Bool) (m : Nat) : U (win f m >>> 0) = U (win f m) := by simp

/-- zeros behind a number's bits: it is moved on -/
theorem Sf_zeros (f : Nat → Bool) (h : ∀ j, 32 ≤ j → f j = false) (m : Nat) : Sf f m = Xn m (win f 0) := by
  induction m with
  | zero => rfl
  | succ m ih =>
    rw [Sf, ih, h (m + 32) (by omega), ← Xn_X, Xn]
    simp [ob]
/-- a text's bits with 32 zeros behind them, its first 32 turned over -/
theorem Sf_text (g f : Nat → Bool) (n : Nat) (h : ∀ j, n ≤ j → f j = false) (hg : ∀ j, g j = (f j ^^ decide (j < 32))) : Sf g n = Xn n (~~~ 0#32) ^^^ GF n f := by
  have hS : ∀ m, Sf g m = Xn m (~~~ 0#32) ^^^ Sf f m := by
    intro m
    induction m with
    | zero =>
      apply BitVec.eq_of_getLsbD_eq
      intro t ht
      show (win g 0).getLsbD t = (~~~ 0#32 ^^^ win f 0).getLsbD t
      rw [BitVec.getLsbD_xor, win_bit _ _ _ ht, win_bit _ _ _ ht, hg, BitVec.getLsbD_not]
      simp [ht, Bool.xor_comm]
    | succ m ih =>
      rw [Sf, Sf, ih, X_xor, hg (m + 32), Xn, Xn_X]
      have : decide (m + 32 < 32) = false := by simp
      rw [this, Bool.xor_false, BitVec.xor_assoc]
  rw [hS, Sf_eq]
  have : win f n = 0#32 := by
    apply BitVec.eq_of_getLsbD_eq
    intro t ht
    rw [win_bit _ _ _ ht, h _ (by omega)]; simp
  rw [this, BitVec.xor_zero]
theorem not_win (f g : Nat → Bool) (m : Nat) (h : ∀ t, t < 32 → g (m + t) = !f (m + t)) : win g m = ~~~ win f m := by
  apply BitVec.eq_of_getLsbD_eq
  intro t ht
  rw [win_bit _ _ _ ht, h t ht, BitVec.getLsbD_not, win_bit _ _ _ ht]
  simp [ht]
theorem win_num (a : BitVec 32) (f : Nat → Bool) (h : ∀ t, t < 32 → f t = a.getLsbD t) : win f 0 = a := by
  apply BitVec.eq_of_getLsbD_eq
  intro t ht
  rw [win_bit _ _ _ ht, Nat.zero_add, h t ht]
end Ks
namespace Go.Proofs.YtpbhkkcboppdmaaDoor
open Ks Go.RowKit

/-- a slice of 32 bits from o on in block g -/
def Bools (w : World) (g o : Nat) (f : Nat → Bool) : Prop := ∀ k, k < 32 → w.cell? ⟨g, o + k, none⟩ = some (.bool (f (o + k)))

theorem word_any (g o c : Nat) (f : Nat → Bool) (w : World) (hf : Bools w g o f) :
    Calls Tryd.prog 80 #[.slice (some ⟨g, o, none⟩) 32 c] w fun e w' => e = .returned (.int .u32 (U (win f o))) ∧ w = w' := by
  have HF := Lib.hid hf
  clear hf
  go_enter Tryd.func80, Tryd.ntmps80
  go_wp2_with fail
  go_loop [3, 4] (fun n i => ∃ k : Nat, k ≤ 32 ∧ i = .int .i64 ((k : Int) - 1) ∧ n = .int .u32 (U (win f o >>> k))) (fun _ i => (intOf i + 1).toNat)
  case atStart => exact ⟨32, by omega, rfl, by rw [win_shr32]⟩
  case round =>
    obtain ⟨k, hk, rfl, rfl⟩ := hrel
    by_cases h0 : k = 0
    · subst h0
      go_wp2_with fail
      go_ret
      exact ⟨ret_int (win_shr0 f o), rfl⟩
    · obtain ⟨m, rfl⟩ : ∃ m, k = m + 1 := ⟨k - 1, by omega⟩
      have hc := HF.out m (by omega)
      have hs := win_shr f o m (by omega)
      have hl := U_lt (win f o >>> m)
      have hg := U_ge (win f o >>> (m + 1))
      have hm0 : (0 : Int) ≤ ((m + 1 : Nat) : Int) - 1 := by omega
      have hm1 : ((m + 1 : Nat) : Int) - 1 < 32 := by omega
      have hmm : (((m + 1 : Nat) : Int) - 1).toNat = m := by omega
      clear h0
      cases hb : f (o + m)
      · rw [hb] at hc hs
        have HS := Lib.hid hs
        go_wp2_with fail
        go_round
        case rel => exact ⟨m, by omega, rfl, congrArg (Value.int .u32) (by have := HS.out; simpa using this)⟩
        case measure => simp [intOf]
      · rw [hb] at hc hs
        have HS := Lib.hid hs
        go_wp2_with fail
        go_round
        case rel => exact ⟨m, by omega, rfl, congrArg (Value.int .u32) (by have := HS.out; simpa using this)⟩
        case measure => simp [intOf]

/-- the powers, laid in a block of their own -/
def dcells : Array Value := #[.int .i64 0, .int .i64 6, .int .i64 9, .int .i64 10, .int .i64 16, .int .i64 20, .int .i64 21, .int .i64 22, .int .i64 24, .int .i64 25, .int .i64 27, .int .i64 28, .int .i64 30, .int .i64 31, .int .i64 32]
theorem dcells_at : ∀ k, k < 15 → dcells[k]? = some (.int .i64 ((dl.getD k 0 : Nat) : Int)) := by
  intro k hk
  match k, hk with
  | 0, _ | 1, _ | 2, _ | 3, _ | 4, _ | 5, _ | 6, _ | 7, _ | 8, _ | 9, _ | 10, _ | 11, _ | 12, _ | 13, _ | 14, _ => rfl
theorem divisor_any (w : World) : Calls Tryd.prog 95 #[] w fun e w' => e = .returned (.slice (some ⟨w.heap.size, 0, none⟩) 15 15) ∧ w.alloc (.cells dcells 3) = w' := by
  go_enter Tryd.func95, Tryd.ntmps95
  go_wp2_with fail
  go_ret
  exact ⟨rfl, rfl⟩

theorem own_set' {w : World} {base e n g cap q : Nat} {xs : List Value} {u : Value} (h : w.ownsRow base e 1 (.slice (some ⟨g, 0, none⟩) n cap) n xs) :
    (w.setCell ⟨g, q, none⟩ u).ownsRow base e 1 (.slice (some ⟨g, 0, none⟩) n cap) n (xs.set q u) := by
  refine ⟨by simp [h.1], .inr ?_⟩
  rcases h.2 with ⟨hh, _⟩ | ⟨g', cap', cur, hh, hb, hg, h4, h5, h6, h7⟩
  · cases hh
  · cases hh
    refine ⟨g, cap, cur.setIfInBounds q u, rfl, hb, ?_, h4, h5, by simp [h6], ?_⟩
    · simp [World.setCell, Array.getElem?_modify, hg]
    · rw [← h7, Array.toList_setIfInBounds, List.take_set]
theorem own_bool {w : World} {base n g cap : Nat} {c : List Bool} (h : w.ownsRow base 4 1 (.slice (some ⟨g, 0, none⟩) n cap) n (c.map Value.bool)) (q : Nat) (hq : q < n) :
    w.cell? ⟨g, q, none⟩ = some (.bool (bl c q)) ∧ w.frozen? ⟨g, q, none⟩ = false := by
  have hl : c.length = n := by have := h.1; simpa using this
  constructor
  · have := h.cells (g := g) rfl q (.bool (bl c q)) (by simp [bl, List.getD, hl, hq])
    rw [Go.WideShapes.add_plain, Nat.zero_add] at this
    exact this
  · rcases h.2 with ⟨hh, _⟩ | ⟨g', cap', cur, hh, _, hg, _⟩
    · cases hh
    · cases hh
      simp [World.frozen?, hg]
theorem grown_set {w w' : World} {g q : Nat} {u : Value} (h : w.grownBy w' (some g)) : w.grownBy (w'.setCell ⟨g, q, none⟩ u) (some g) :=
  ⟨h.os, h.tape, h.output, by simpa using h.size, fun k hk hne => (Below.heap_setCell w' ⟨g, q, none⟩ u k (fun e => hne (by rw [e]))).trans (h.block k hk hne)⟩
theorem grown_drew {w w' : World} {row : Option Nat} (h : w.grownBy w' row) : w.grownBy w'.drew row := ⟨h.os, h.tape, h.output, h.size, h.block⟩

/-- where the loops of left stand: the list c in memory -/
def LeftAt (w : World) (base g N cap : Nat) (c : List Bool) (wr : World) : Prop :=
  wr.ownsRow base 4 1 (.slice (some ⟨g, 0, none⟩) N cap) N (c.map Value.bool) ∧ w.grownBy wr (some g) ∧ wr.heap[w.heap.size]? = some (.cells dcells 3)
theorem leftAt_set {w wr : World} {base g N cap : Nat} {c : List Bool} (h : LeftAt w base g N cap c wr) (hg : g < w.heap.size) (q : Nat) (b : Bool) :
    LeftAt w base g N cap (c.set q b) (wr.setCell ⟨g, q, none⟩ (.bool b)).drew := by
  obtain ⟨h1, h2, h3⟩ := h
  refine ⟨?_, grown_drew (grown_set h2), ?_⟩
  · rw [List.map_set]; exact own_set' h1
  · show (wr.setCell ⟨g, q, none⟩ (.bool b)).heap[w.heap.size]? = _
    rw [Below.heap_setCell _ _ _ _ (by show w.heap.size ≠ g; omega)]; exact h3
def LeftPost (w : World) (base g N cap : Nat) (l : List Bool) (e : Ending) (w' : World) : Prop :=
  ∃ c : List Bool, e = .returned (.slice (some ⟨g, N - 32, none⟩) 32 (cap - (N - 32))) ∧ LeftAt w base g N cap c w' ∧ DivAt l (N - 32) c

theorem left_any (w : World) (base g N cap : Nat) (l : List Bool) (hown : w.ownsRow base 4 1 (.slice (some ⟨g, 0, none⟩) N cap) N (l.map Value.bool)) (hN : 32 ≤ N) (hN2 : N ≤ 100000) :
    Calls Tryd.prog 79 #[.slice (some ⟨g, 0, none⟩) N cap] w (LeftPost w base g N cap l) := by
  have hl : l.length = N := by have := hown.1; simpa using this
  have hcap : N ≤ cap := by
    rcases hown.2 with ⟨hh, _⟩ | ⟨g', cap', cur, hh, _, _, h4, _⟩
    · cases hh
    · cases hh; exact h4
  have hg : g < w.heap.size := (hown.lt g rfl).2
  have HL := Lib.hid hl
  have HO := Lib.hid (show LeftAt w base g N cap l (w.alloc (.cells dcells 3)) from ⟨hown.alloc _, World.grownBy_alloc w _ _, heap_alloc_new w _⟩)
  clear hl hown
  go_enter Tryd.func79, Tryd.ntmps79
  go_wp2_with fail
  refine (divisor_any _).mono ?_
  rintro e w' ⟨rfl, rfl⟩
  generalize w.alloc (.cells dcells 3) = w1 at *
  go_wp2_with fail
  go_loopw [4] (fun i wr => ∃ (k : Nat) (c : List Bool), k + 32 ≤ N ∧ i = .int .i64 k ∧ LeftAt w base g N cap c wr ∧ DivAt l k c) (fun i _ => N - (intOf i).toNat)
  case atStart => exact ⟨0, l, by omega, rfl, HO.out, divAt_zero l⟩
  case round =>
    obtain ⟨i, c, hi, rfl, hat, hdiv⟩ := hrel
    have HAT := Lib.hid hat
    have HD := Lib.hid hdiv
    clear hat hdiv HO
    by_cases hlt : i + 32 < N
    · have hlt' : (i : Int) + 32 < (N : Int) := by omega
      obtain ⟨hci, _⟩ := own_bool HAT.out.1 i (by omega)
      cases hb : bl c i
      · rw [hb] at hci
        have HD2 := Lib.hid (divAt_no HD.out hb)
        clear hb HD
        go_wp2_with fail
        go_roundw
        case rel => exact ⟨i + 1, c, by omega, by go_num, HAT.out, HD2.out⟩
        case measure => simp [intOf]; omega
      · rw [hb] at hci
        have HB := Lib.hid hb
        clear hb
        go_wp2_with fail
        clear hci
        go_loopw [5] (fun s wr => ∃ (k : Nat) (c' : List Bool), k ≤ 15 ∧ s = .int .i64 k ∧ LeftAt w base g N cap c' wr ∧ Flipped i k c c') (fun s _ => 15 - (intOf s).toNat)
        case atStart => exact ⟨0, c, by omega, rfl, HAT.out, flipped_zero i c⟩
        case round =>
          obtain ⟨k, c', hk, rfl, hat2, hfl⟩ := hrel
          have HAT2 := Lib.hid hat2
          have HFL := Lib.hid hfl
          clear hat2 hfl HAT
          by_cases hk15 : k < 15
          · have HN := Lib.hid (flipped_succ HFL.out hk15 (by have := HD.out.1; have := HL.out; omega))
            have hd := dl_le k hk15
            have hcd := (cell_of_row _ _ k _ _ _ HAT2.out.2.2).trans (dcells_at k hk15)
            generalize dl.getD k 0 = d at *
            obtain ⟨hcq, hcf⟩ := own_bool HAT2.out.1 (i + d) (by omega)
            generalize hbd : bl c' (i + d) = bd at *
            clear hbd
            have hk0 : (0 : Int) ≤ (k : Int) := by omega
            have hk1 : (k : Int) < 15 := by omega
            have hid0 : (0 : Int) ≤ (i : Int) + (d : Int) := by omega
            have hid1 : (i : Int) + (d : Int) < (N : Int) := by omega
            have hidn : ((i : Int) + (d : Int)).toNat = i + d := by omega
            go_wp2_with fail
            have e1 : IntKind.i64.wrap ((i : Int) + (d : Int)) = (i : Int) + (d : Int) := IntWalk.i64_in _ (by omega)
            set_option maxRecDepth 4000 in go_still_tail 18, (by kernel_rfl)
            clear e1
            change wpList _ _ _ _ _ wr.drew
            go_wp2_with fail
            go_roundw
            case rel => exact ⟨k + 1, _, by omega, by go_num, leftAt_set HAT2.out hg (i + d) (!bd), HN.out⟩
            case measure => simp [intOf]; omega
          · obtain rfl : k = 15 := by omega
            have HD2 := Lib.hid (divAt_yes HD.out HB.out HFL.out (by have := HL.out; omega))
            clear HD
            go_wp2_with fail
            go_roundw
            case rel => exact ⟨i + 1, c', by omega, by go_num, HAT2.out, HD2.out⟩
            case measure => simp [intOf]; omega
    · obtain rfl : N = i + 32 := by omega
      go_wp2_with fail
      go_ret
      exact ⟨c, by rw [Nat.add_sub_cancel]; rfl, HAT.out, by rw [Nat.add_sub_cancel]; exact HD.out⟩
end Go.Proofs.YtpbhkkcboppdmaaDoor
namespace Ks
open Go

theorem zeroCells_one (z : Value) (m : Nat) : Builtin.zeroCells #[z] m = (List.replicate m z).toArray := by
  apply Array.ext
  · simp [Builtin.zeroCells]
  · intro i h1 h2
    simp [Builtin.zeroCells, Nat.mod_one]

theorem zeros_own {P : Program} (w : World) (base : Nat) (t tn ty e : TypeId) (i : TypeInfo) (z : Value) (kq kn : IntKind) (ht : P.underlying t = some (.slice e)) (htn : P.underlying tn = some (.int kn)) (hi : P.info? e = some i) (hz : i.zero = some z)
    (hsize : i.size = 1) (hby : i.bytes = 1) (hzs : z.cells = #[z]) (h1 : z.oneCell' = true)
    (v : Value) (n : Nat) (xs : List Value) (hown : w.ownsRow base e 1 v n xs) (m : Nat) (h63 : n + m ≤ maxLen) (hbytes : n + m ≤ 140737488355328) (hbase : base ≤ w.heap.size) :
    ∃ v' w', (Builtin.append_ #[t, tn] ty #[v, .int kq m]).run P w = .ok v' w' ∧ w'.ownsRow base e 1 v' (n + m) (xs ++ List.replicate m z) ∧ w.grownBy w' v.ownBlock := by
  have hsmall : n + m ≤ 9223372036854775807 := by simp only [maxLen] at h63; omega
  have hxl : xs.length = n := by have := hown.1; omega
  have hlen : (xs ++ List.replicate m z).length = n + m := by simp [hxl]
  have hzc : ∀ k, Builtin.zeroCells z.cells k = (List.replicate k z).toArray := fun k => by rw [hzs]; exact zeroCells_one z k
  have hw : IntKind.i64.wrap (m : Int) = m := by rw [IntKind.wrap_i64]; omega
  have hneg : ¬ ((m : Int) < 0) := by omega
  have hw0 : IntKind.i64.wrap 0 = 0 := by decide
  have h48i : ¬ (281474976710656 < (m : Int) * (i.bytes : Int)) := by rw [hby]; omega
  have grown : ∀ (old : Nat) (row : Option Nat),
      (w.drew.alloc (.cells (xs.toArray ++ Builtin.zeroCells z.cells m ++ Builtin.zeroCells z.cells (grownCap w (n + m) old e - (n + m))) e)).ownsRow base e 1
        (.slice (some ⟨w.heap.size, 0, none⟩) (n + m) (grownCap w (n + m) old e)) (n + m) (xs ++ List.replicate m z) ∧
      w.grownBy (w.drew.alloc (.cells (xs.toArray ++ Builtin.zeroCells z.cells m ++ Builtin.zeroCells z.cells (grownCap w (n + m) old e - (n + m))) e)) row := by
    intro old row
    have hge := grownCap_ge w (n + m) old e
    have hcm : grownCap w (n + m) old e ≤ maxLen := grownCap_le_maxLen w (n + m) old e h63
    refine ⟨⟨by rw [hlen, Nat.mul_one], .inr ⟨w.heap.size, _, _, rfl, hbase, heap_alloc_new w.drew _, hge, hcm, ?_, ?_⟩⟩, ⟨rfl, rfl, rfl, by simp, fun k hk _ => by first | exact heap_alloc_old w.drew _ k hk | exact heap_alloc_old w.drew _ hk⟩⟩
    · rw [hzc, hzc]
      simp only [Array.size_append, List.size_toArray, List.length_replicate, hxl, Nat.mul_one]
      omega
    · rw [hzc, hzc, Nat.mul_one, ← hlen]
      simp only [Array.toList_append, List.append_assoc]
      rw [← List.append_assoc]
      exact List.take_left
  rcases hown.2 with ⟨rfl, rfl⟩ | ⟨g, cap, cur, rfl, hbg, hg, hnc, hcm, hcs, htake⟩
  · have hx : xs = [] := List.eq_nil_of_length_eq_zero (by simpa using hown.1)
    subst hx
    by_cases hm : m = 0
    · subst hm
      refine ⟨.slice none 0 0, w, ?_, World.ownsRow_nil w base e 1, ⟨rfl, rfl, rfl, Nat.le_refl _, fun _ _ _ => rfl⟩⟩
      simp [Builtin.append_, run_underlying ht, run_underlying htn, Go.sizeOf, typeInfo, hi, asInt, asIntOf, hw0]
    · have hr := Lib.run_append_nil_zeros (P := P) w t tn ty e i z kq kn ht htn hi hz m (by omega) (by omega) (by omega) (by rw [hby]; omega)
      have hgr := grown 0 (Value.ownBlock (.slice none 0 0))
      simp only [Nat.zero_add, List.nil_append, Array.empty_append] at hgr ⊢
      exact ⟨_, _, hr, hgr.1, hgr.2⟩
  · have hcs' : cur.size = cap := by omega
    by_cases hroom : n + m ≤ cap
    · have hst := run_storeCells_at P g n e (List.replicate m z) 0 cur w hg (by simp; omega) (by intro u hu; rw [List.eq_of_mem_replicate hu]; exact h1)
      simp only [Nat.add_zero, List.length_replicate] at hst
      have hr : (Builtin.append_ #[t, tn] ty #[.slice (some ⟨g, 0, none⟩) n cap, .int kq m]).run P w =
          .ok (.slice (some ⟨g, 0, none⟩) (n + m) cap) (w.setRow g (cur.toList.take n ++ List.replicate m z ++ cur.toList.drop (n + m)).toArray) := by
        by_cases hm : m = 0
        · subst hm
          simp only [List.replicate_zero, Nat.add_zero] at hst
          simp [Builtin.append_, run_underlying ht, run_underlying htn, Go.sizeOf, typeInfo, hi, hsize, asInt, asIntOf, Addr.add_lit, hnc, hst, hw0]
        · have hm1 : ¬ (m * 1 = 0) := by omega
          simp [Builtin.append_, run_underlying ht, run_underlying htn, Go.sizeOf, typeInfo, zeroValue, hi, hz, hsize, hw, hneg, h48i, asInt, asIntOf, Addr.add_lit, hroom, hzc, hm, hst]
      refine ⟨_, _, hr, ⟨by rw [hlen, Nat.mul_one], .inr ⟨g, cap, _, rfl, hbg, setRow_heap w g cur _ e _ hg, hroom, hcm, ?_, ?_⟩⟩, ⟨rfl, rfl, rfl, by simp, fun k _ hk => setRow_other w g k _ (fun e => hk (by simp [Value.ownBlock, e]))⟩⟩
      · simp only [List.size_toArray, List.length_append, List.length_take, List.length_drop, Array.length_toList, List.length_replicate]
        omega
      · rw [Nat.mul_one] at htake ⊢
        rw [htake, ← hlen]
        exact List.take_left
    · have holds : ∀ j u, xs[j]? = some u → w.cell? ((⟨g, 0, none⟩ : Addr).add j) = some u := hown.cells (g := g) rfl
      have hold : (Builtin.firstCells i.size n (.slice (some ⟨g, 0, none⟩) n cap)).run P w.drew = .ok xs.toArray w.drew := by
        rw [hsize]; exact run_firstCells_some (P := P) w.drew 1 n ⟨g, 0, none⟩ n cap xs (by omega) holds
      have hr := Lib.run_append_grow_zeros (P := P) w t tn ty e i z kq kn ht htn hi hz (some ⟨g, 0, none⟩) n cap xs hold m (by omega) (by omega) (by omega) (by omega) (by rw [hby]; omega) (growslice_fits (by omega) (by rw [hby]; omega))
      have hgr := grown cap (Value.ownBlock (.slice (some ⟨g, 0, none⟩) n cap))
      exact ⟨_, _, hr, hgr.1, hgr.2⟩
end Ks
namespace Go.Proofs.YtpbhkkcboppdmaaDoor
open Ks Go.RowKit
set_option maxRecDepth 20000

theorem info4 : (Tryd.prog.info? 4).map (fun i => (i.zero, i.size, i.bytes)) = some (some (.bool false), 1, 1) := by kernel_rfl
/-- a text's first m bits -/
def bitsT (l : List Int) (m : Nat) : List Bool := (List.range m).map (bitOf l)
theorem bitsT_succ (l : List Int) (m : Nat) : bitsT l (m + 1) = bitsT l m ++ [bitOf l m] := by
  unfold bitsT; rw [List.range_succ, List.map_append]; rfl
theorem testBit_int (v : Int) (hv : 0 ≤ v) (k : Nat) : (v / 2 ^ k % 2 == 1) = v.toNat.testBit k := by
  obtain ⟨n, rfl⟩ := Int.eq_ofNat_of_zero_le hv
  rw [Int.toNat_natCast, Nat.testBit_eq_decide_div_mod_eq]
  have e : (n : Int) / 2 ^ k % 2 = ((n / 2 ^ k % 2 : Nat) : Int) := by simp
  rw [e, Bool.eq_iff_iff]
  simp only [beq_iff_eq, decide_eq_true_eq]
  omega
theorem halve_int (v : Int) (k : Nat) : v / 2 ^ k / 2 = v / 2 ^ (k + 1) := by
  rw [Int.pow_succ, Int.ediv_ediv_of_nonneg (by exact Int.pow_nonneg (by decide))]
def BitsAt (w : World) (l : List Int) (m : Nat) (v : Value) (wr : World) : Prop :=
  wr.ownsRow w.heap.size 4 1 v m ((bitsT l m).map Value.bool) ∧ Below w.heap.size w wr
theorem bitsAt_succ {w wr w2 : World} {l : List Int} {m g cap : Nat} {v : Value} {o : Obj} (h : BitsAt w l m v wr)
    (hown : w2.ownsRow w.heap.size 4 1 (.slice (some ⟨g, 0, none⟩) (m + 1) cap) (m + 1) ((bitsT l m).map Value.bool ++ [.bool (bitOf l m)]))
    (hgrow : (wr.alloc o).grownBy w2 v.ownBlock) : BitsAt w l (m + 1) (.slice (some ⟨g, 0, none⟩) (m + 1) cap) w2 := by
  obtain ⟨h1, h2⟩ := h
  refine ⟨?_, ?_⟩
  · rw [bitsT_succ, List.map_append]; exact hown
  · refine (h2.alloc h2.size o).grown hgrow (by have := h2.size; simp; omega) ?_
    intro j hj
    exact (h1.lt j hj).1
def BitsPost (w : World) (l : List Int) (m : Nat) (e : Ending) (w' : World) : Prop := ∃ v, e = .returned v ∧ BitsAt w l m v w'

theorem bits_any (A : Option Addr) (n c : Nat) (l : List Int) (w : World) (hn : n ≤ 1000) (hl : Bytes w w.heap.size A n l) :
    Calls Tryd.prog 78 #[.slice A n c] w (BitsPost w l (8 * n)) := by
  obtain ⟨i0, hi, hz0, hz1, hz2⟩ := info_parts info4
  have HL := Lib.hid hl
  clear hl
  go_enter Tryd.func78, Tryd.ntmps78
  go_wp2_with fail
  go_loopw [3, 4] (fun v s wr => ∃ i : Nat, i ≤ n ∧ s = .int .i64 i ∧ BitsAt w l (8 * i) v wr) (fun _ s _ => n - (intOf s).toNat)
  case atStart => exact ⟨0, Nat.zero_le _, rfl, World.ownsRow_nil _ _ _ _, Below.refl _ _⟩
  case round =>
    obtain ⟨i, hin, rfl, hat⟩ := hrel
    have HAT := Lib.hid hat
    clear hat
    by_cases hlt : i < n
    · obtain ⟨b, o, rfl, hc⟩ := bytes_cell HL.out HAT.out.2 i hlt
      have hv := HL.out.2.1 (l.getD i 0) (by simp [List.getD, HL.out.1, hlt])
      have HBO := Lib.hid (show ∀ k, k < 8 → bitOf l (8 * i + k) = (l.getD i 0).toNat.testBit k from fun k hk => by
        unfold bitOf; rw [show (8 * i + k) / 8 = i by omega, show (8 * i + k) % 8 = k by omega])
      generalize l.getD i 0 = x at *
      obtain ⟨hx0, hx1⟩ := hv
      go_wp2_with fail
      clear hc
      go_loopw [3, 5, 6] (fun v y s wr => ∃ k : Nat, k ≤ 8 ∧ s = .int .i64 k ∧ y = .int .i64 (x / 2 ^ k) ∧ BitsAt w l (8 * i + k) v wr) (fun _ _ s _ => 8 - (intOf s).toNat)
      case atStart => exact ⟨0, by omega, rfl, by simp, HAT.out⟩
      case round =>
        obtain ⟨k, hk8, rfl, rfl, hat2⟩ := hrel
        have HAT2 := Lib.hid hat2
        clear hat2 HAT
        by_cases hk : k < 8
        · have hm2 := testBit_int x hx0 k
          rw [← HBO.out k hk] at hm2
          have HH := Lib.hid (halve_int x k)
          have hy0 : 0 ≤ x / 2 ^ k := Int.ediv_nonneg hx0 (Int.pow_nonneg (by decide))
          have hy1 : x / 2 ^ k ≤ 255 := Int.le_trans (Int.ediv_le_self _ hx0) hx1
          generalize x / 2 ^ k = y at *
          generalize hbb : bitOf l (8 * i + k) = bb at *
          have HBB := Lib.hid hbb
          clear hbb
          have HNW := Lib.hid (World.news_of_block (cs := #[.bool bb]) (t := 4) (fr := (0, 0)) (heap_alloc_new wr _))
          go_wp2_with (at_builtin; refine wpList_append_lies _ rfl _ _ _ rfl w.heap.size 4 i0 _ 1 1 Tryd.underlying107 hi hz0 hz1 hz2 rfl (by omega) _ (8 * i + k) ((bitsT l (8 * i + k)).map Value.bool) rfl (HAT2.out.1.alloc _) ⟨wr.heap.size, 0, none⟩ 1 1 [.bool bb] rfl rfl HNW.out (by simp [Value.oneCell']) (by omega) (by unfold maxLen; omega) (by omega) (by have := HAT2.out.2.size; simp; omega) (wr.heap.size + 1) (by simp) ?_; intro g cap w2 hown2 hgrow hat2 hlt2)
          have R := Lib.hid (bitsAt_succ HAT2.out (by rw [HBB.out]; exact hown2) hgrow)
          clear hown2 hgrow hat2 hlt2 HAT2
          go_roundw
          case rel => exact ⟨k + 1, by omega, by go_num, by rw [HH.out], R.out⟩
          case measure => simp [intOf]; omega
        · obtain rfl : k = 8 := by omega
          go_wp2_with fail
          go_roundw
          case rel => exact ⟨i + 1, by omega, by go_num, HAT2.out⟩
          case measure => simp [intOf]; omega
    · obtain rfl : i = n := by omega
      go_wp2_with fail
      go_ret
      exact ⟨_, rfl, HAT.out⟩

/-- some bits in a row are turned over -/
def Turned (o k : Nat) (c c' : List Bool) : Prop := c'.length = c.length ∧ ∀ j, bl c' j = (bl c j ^^ (decide (o ≤ j) && decide (j < o + k)))
theorem turned_zero (o : Nat) (c : List Bool) : Turned o 0 c c := ⟨rfl, fun j => by
  by_cases h : o ≤ j
  · have : decide (j < o + 0) = false := by simp; omega
    rw [this, Bool.and_false, Bool.xor_false]
  · simp [h]⟩
theorem turned_succ {o k : Nat} {c c' : List Bool} (h : Turned o k c c') (hk : o + k < c.length) : Turned o (k + 1) c (c'.set (o + k) (!(bl c' (o + k)))) := by
  refine ⟨by simp [h.1], fun j => ?_⟩
  rw [bl_set _ _ (by have := h.1; omega), h.2 (o + k)]
  by_cases e : j = o + k
  · subst e
    rw [if_pos rfl]
    have a2 : decide (o + k < o + k) = false := by simp
    have a3 : decide (o + k < o + (k + 1)) = true := by simp
    have a4 : decide (o ≤ o + k) = true := by simp
    rw [a2, a3, a4]; simp
  · rw [if_neg e, h.2 j]
    have : decide (j < o + (k + 1)) = decide (j < o + k) := by simp; omega
    rw [this]
theorem sum_end (l : List Int) (n : Nat) (hl : l.length = n) (hv : ∀ v ∈ l, 0 ≤ v ∧ v ≤ 255) (c d r : List Bool) (hc : Turned 0 32 (bitsT l (8 * n) ++ List.replicate 32 false) c) (hd : DivAt c (8 * n) d) (hr : Turned (8 * n) 32 d r) :
    win (bl r) (8 * n) = more 0#32 (l.map Bv) := by
  have hb : ∀ j, bl (bitsT l (8 * n) ++ List.replicate 32 false) j = if j < 8 * n then bitOf l j else false := by
    intro j
    unfold bl
    rw [List.getD, List.getElem?_append]
    by_cases hj : j < 8 * n
    · simp [bitsT, hj]
    · simp only [bitsT, List.length_map, List.length_range, hj, if_false, List.getElem?_replicate]
      split <;> rfl
  have h1 : win (bl r) (8 * n) = ~~~ win (bl d) (8 * n) := not_win _ _ _ (fun t ht => by
    rw [hr.2]
    have a1 : decide (8 * n ≤ 8 * n + t) = true := by simp
    have a2 : decide (8 * n + t < 8 * n + 32) = true := by simp; omega
    rw [a1, a2]; simp)
  have h2 : Sf (bl c) (8 * n) = Xn (8 * n) (~~~ 0#32) ^^^ GF (8 * n) (bl (bitsT l (8 * n) ++ List.replicate 32 false)) := Sf_text _ _ _ (fun j hj => by rw [hb, if_neg (by omega)]) (fun j => by rw [hc.2 j]; simp)
  have h3 : GF (8 * n) (bl (bitsT l (8 * n) ++ List.replicate 32 false)) = GF (8 * n) (bitOf l) := GF_congr fun j hj => by rw [hb, if_pos hj]
  have h4 : Ks.run (~~~ 0#32) (l.map Bv) = Xn (8 * n) (~~~ 0#32) ^^^ Ks.run 0#32 (l.map Bv) := by
    have := run_split (~~~ 0#32) 0#32 (l.map Bv)
    rwa [BitVec.xor_zero, List.length_map, hl] at this
  rw [h1, hd.2.1, h2, h3]
  unfold more
  rw [h4, run_all l hv, hl]

/-- where the first loop of Sum stands -/
def SumAt (w : World) (g N cap : Nat) (c : List Bool) (wr : World) : Prop :=
  wr.ownsRow w.heap.size 4 1 (.slice (some ⟨g, 0, none⟩) N cap) N (c.map Value.bool) ∧ Below w.heap.size w wr
theorem sumAt_set {w wr : World} {g N cap : Nat} {c : List Bool} (h : SumAt w g N cap c wr) (q : Nat) (b : Bool) : SumAt w g N cap (c.set q b) (wr.setCell ⟨g, q, none⟩ (.bool b)) := by
  obtain ⟨h1, h2⟩ := h
  refine ⟨?_, h2.setCell (p := ⟨g, q, none⟩) (h1.lt g rfl).1 _⟩
  rw [List.map_set]; exact own_set' h1

theorem refSum_any (A : Option Addr) (n c : Nat) (l : List Int) (w : World) (hn : n ≤ 1000) (hl : Bytes w w.heap.size A n l) :
    Calls Tryd.prog 46 #[.slice A n c] w fun e w' => e = .returned (.int .u32 (U (more 0#32 (l.map Bv)))) ∧ Below w.heap.size w w' := by
  obtain ⟨i0, hi, hz0, hz1, hz2⟩ := info_parts info4
  have HL := Lib.hid hl
  clear hl
  go_enter Tryd.func46, Tryd.ntmps46
  go_wp2_with fail
  refine (bits_any A n c l w hn HL.out).mono ?_
  rintro e w1 ⟨v, rfl, hat⟩
  obtain ⟨v', w2, hr, hown2, hgrow⟩ := zeros_own (P := Tryd.prog) w1 w.heap.size 107 3 107 4 i0 (.bool false) .i64 .i64 Tryd.underlying107 Tryd.underlying3 hi hz0 hz1 hz2 rfl rfl _ _ _ hat.1 32 (by unfold maxLen; omega) (by omega) hat.2.size
  obtain ⟨g, cap, rfl, _, _⟩ := hown2.form (by omega)
  have hcap : 8 * n + 32 ≤ cap := by
    rcases hown2.2 with ⟨hh, _⟩ | ⟨g', cap', cur, hh, _, _, h4, _⟩
    · cases hh
    · cases hh; exact h4
  have HO := Lib.hid (show SumAt w g (8 * n + 32) cap (bitsT l (8 * n) ++ List.replicate 32 false) w2 from ⟨by rw [List.map_append, List.map_replicate]; exact hown2, hat.2.grown hgrow hat.2.size (fun j hj => (hat.1.lt j hj).1)⟩)
  have HLB := Lib.hid (show (bitsT l (8 * n) ++ List.replicate 32 false).length = 8 * n + 32 by simp [bitsT])
  have HR := Lib.hid hr
  clear hr hown2 hgrow hat
  go_wp2_with (at_builtin; refine Lib.wpList_append_run _ rfl _ _ _ _ rfl _ _ rfl rfl _ _ HR.out ?_)
  generalize hl0 : bitsT l (8 * n) ++ List.replicate 32 false = l0 at *
  have HL0 := Lib.hid hl0
  clear hl0 HR
  go_loopw [4] (fun s wr => ∃ (k : Nat) (d : List Bool), k ≤ 32 ∧ s = .int .i64 k ∧ SumAt w g (8 * n + 32) cap d wr ∧ Turned 0 k l0 d) (fun s _ => 32 - (intOf s).toNat)
  case atStart => exact ⟨0, l0, by omega, rfl, HO.out, turned_zero 0 l0⟩
  case round =>
    obtain ⟨k, d, hk, rfl, hat, htu⟩ := hrel
    have HAT := Lib.hid hat
    have HTU := Lib.hid htu
    clear hat htu HO
    by_cases hlt : k < 32
    · obtain ⟨hcq, hcf⟩ := own_bool HAT.out.1 k (by omega)
      have HN := Lib.hid (turned_succ HTU.out (by rw [HLB.out]; omega))
      rw [Nat.zero_add] at HN
      generalize bl d k = bd at *
      have hk0 : (0 : Int) ≤ (k : Int) := by omega
      have hk1 : (k : Int) < ((8 * n + 32 : Nat) : Int) := by omega
      go_wp2_with fail
      go_roundw
      case rel => exact ⟨k + 1, _, by omega, by go_num, sumAt_set HAT.out k (!bd), HN.out⟩
      case measure => simp [intOf]; omega
    · obtain rfl : k = 32 := by omega
      go_wp2_with fail
      refine (left_any wr w.heap.size g (8 * n + 32) cap d HAT.out.1 (by omega) (by omega)).mono ?_
      rintro e w3 ⟨d2, rfl, hl3, hd3⟩
      rw [show 8 * n + 32 - 32 = 8 * n by omega] at hd3
      rw [show 8 * n + 32 - 32 = 8 * n by omega]
      have HB := Lib.hid HAT.out.2
      have HG := Lib.hid (HAT.out.1.lt g rfl).1
      have HD := Lib.hid hd3
      have HDL := Lib.hid (show d2.length = 8 * n + 32 by rw [hd3.1, HTU.out.1, HLB.out])
      have HO3 := Lib.hid (show SumAt w g (8 * n + 32) cap d2 w3 from ⟨hl3.1, HB.out.grown hl3.2.1 HB.out.size (fun j hj => by cases hj; exact HG.out)⟩)
      clear hl3 hd3 HAT
      go_wp2_with fail
      go_loopw [6] (fun s wr => ∃ (k : Nat) (r : List Bool), k ≤ 32 ∧ s = .int .i64 k ∧ SumAt w g (8 * n + 32) cap r wr ∧ Turned (8 * n) k d2 r) (fun s _ => 32 - (intOf s).toNat)
      case atStart => exact ⟨0, d2, by omega, rfl, HO3.out, turned_zero _ d2⟩
      case round =>
        obtain ⟨k, r, hk, rfl, hat, htu⟩ := hrel
        have HAT := Lib.hid hat
        have HTU2 := Lib.hid htu
        clear hat htu HO3
        by_cases hlt : k < 32
        · obtain ⟨hcq, hcf⟩ := own_bool HAT.out.1 (8 * n + k) (by omega)
          have HN := Lib.hid (turned_succ HTU2.out (by rw [HDL.out]; omega))
          generalize bl r (8 * n + k) = bd at *
          have hk0 : (0 : Int) ≤ (k : Int) := by omega
          have hk1 : (k : Int) < 32 := by omega
          go_wp2_with fail
          go_roundw
          case rel => exact ⟨k + 1, _, by omega, by go_num, sumAt_set HAT.out (8 * n + k) (!bd), HN.out⟩
          case measure => simp [intOf]; omega
        · obtain rfl : k = 32 := by omega
          have HE := Lib.hid (sum_end l n HL.out.1 HL.out.2.1 d d2 r (by rw [HL0.out]; exact HTU.out) HD.out HTU2.out)
          go_wp2_with fail
          refine (word_any g (8 * n) _ (bl r) wr (fun j hj => (own_bool HAT.out.1 (8 * n + j) (by omega)).1)).mono ?_
          rintro e w' ⟨rfl, rfl⟩
          go_wp2_with fail
          go_ret
          exact ⟨ret_int (by rw [HE.out]), HAT.out.2⟩
end Go.Proofs.YtpbhkkcboppdmaaDoor
namespace Go.Proofs.YtpbhkkcboppdmaaDoor
open Ks Go.RowKit
set_option maxRecDepth 20000
theorem refSum_at (A : Option Addr) (n c : Nat) (l : List Int) (v : Int) (w : World) (hn : n ≤ 1000) (hl : Bytes w w.heap.size A n l) (hv : sumOf l = v) :
    Calls Tryd.prog 46 #[.slice A n c] w fun e w' => e = .returned (.int .u32 v) ∧ Below w.heap.size w w' := by
  subst hv
  exact refSum_any A n c l w hn hl

theorem refDec_short (A : Option Addr) (n c : Nat) (l : List Int) (w0 w : World) (H : On w0 w) (hl : l.length = n) (hn : n < 28) :
    Calls Tryd.prog 45 #[.slice A n c] w fun e w' => e = .returned (decT l) ∧ On w0 w' := by
  have HX := Lib.hid (fun ob => H.next (below_box w ob))
  have HE := Lib.hid (decT_of (l := l) (k := 5) (by unfold decErr; rw [if_pos (by omega)]) (by decide))
  clear H hl
  have hn' : (n : Int) < 28 := by omega
  go_enter Tryd.func45, Tryd.ntmps45
  go_wp2_with fail
  go_returns
  exact ⟨by rw [HE.out], HX.out _⟩
theorem part4 (l : List Int) (h : 4 ≤ l.length) : Ks.part l 0 4 = [l.getD 0 0, l.getD 1 0, l.getD 2 0, l.getD 3 0] := by
  have hl := part_len l 0 4 (by omega)
  have e : ∀ j, j < 4 → (Ks.part l 0 4)[j]? = some (l.getD j 0) := fun j hj => by
    have := part_getD l 0 4 j hj
    rw [Nat.zero_add, List.getD, List.getElem?_eq_getElem (by omega)] at this
    rw [List.getElem?_eq_getElem (by omega)]
    exact congrArg some this
  apply List.ext_getElem? 
  intro j
  match j with
  | 0 => exact e 0 (by omega)
  | 1 => exact e 1 (by omega)
  | 2 => exact e 2 (by omega)
  | 3 => exact e 3 (by omega)
  | j + 4 => rw [List.getElem?_eq_none (by omega)]; rfl
theorem number_in (W : World) (p : Regrown) (A : Option Addr) (n c : Nat) (l : List Int) (v : Int) (hn : n ≤ 8) (hl : Bytes W W.heap.size A n l) (hv : num l = v) :
    Calls Tryd.prog 76 #[.slice A n c] (In W p) fun e w'' => e = .returned (.int .u64 v) ∧ ∃ q : Regrown, w'' = In W q :=
  (number_any A n c W.heap.size l v _ hn (bytes_below hl (in_below W p)) hv).mono fun _ _ h => ⟨h.1, p, h.2⟩
theorem bytes_more {w : World} {B B' n : Nat} {A : Option Addr} {l : List Int} (h : Bytes w B A n l) (hB : B ≤ B') : Bytes w B' A n l :=
  ⟨h.1, h.2.1, fun hn => by
    obtain ⟨b, o, e, hb, hc⟩ := h.2.2 hn
    exact ⟨b, o, e, Nat.lt_of_lt_of_le hb hB, hc⟩⟩
theorem refSum_in (W : World) (p : Regrown) (A : Option Addr) (n c : Nat) (l : List Int) (v : Int) (hn : n ≤ 1000) (hl : Bytes W W.heap.size A n l) (hv : sumOf l = v) :
    Calls Tryd.prog 46 #[.slice A n c] (In W p) fun e w'' => e = .returned (.int .u32 v) ∧ ∃ q : Regrown, w'' = In W q := by
  apply Calls.regrown_of
  exact (refSum_at A n c l v _ hn (bytes_more (bytes_below hl (in_below W p)) (in_below W p).size) hv).mono fun _ _ h => h
set_option maxHeartbeats 2000000 in
theorem refDec_long (b o n c B : Nat) (l : List Int) (w0 w : World) (H : On w0 w) (hn : 28 ≤ n) (hnc : n ≤ c) (hl : Bytes w B (some ⟨b, o, none⟩) n l) (hB : B ≤ w.heap.size) :
    Calls Tryd.prog 45 #[.slice (some ⟨b, o, none⟩) n c] w fun e w' => e = .returned (decT l) ∧ On w0 w' := by
  have HX := Lib.hid (fun ob => H.next (below_box w ob))
  have HL := Lib.hid (fun ob => bytes_below hl (B := B) ((below_box w ob).mono hB))
  have HLL := Lib.hid (show ¬ l.length < 28 by rw [hl.1]; omega)
  have hn' : ¬ (n : Int) < 28 := by omega
  have HC := Lib.hid (show ∀ (ob : Obj) (i : Nat), i < n → (w.alloc ob).cell? ⟨b, o + i, none⟩ = some (.int .u8 (l.getD i 0)) from fun ob i hi => by
    obtain ⟨b', o', e, hc⟩ := bytes_cell hl ((below_box w ob).mono hB) i hi
    cases e
    exact hc)
  have hc0 : ∀ ob : Obj, (w.alloc ob).cell? ⟨b, o, none⟩ = some (.int .u8 (l.getD 0 0)) := fun ob => HC.out ob 0 (by omega)
  have hc1 := fun ob : Obj => HC.out ob 1 (by omega)
  have hc2 := fun ob : Obj => HC.out ob 2 (by omega)
  have hc3 := fun ob : Obj => HC.out ob 3 (by omega)
  have hc4 := fun ob : Obj => HC.out ob 4 (by omega)
  have i0 : (0 : Int) < (n : Int) := by omega
  have i1 : (1 : Int) < (n : Int) := by omega
  have i2 : (2 : Int) < (n : Int) := by omega
  have i3 : (3 : Int) < (n : Int) := by omega
  have i4 : (4 : Int) < (n : Int) := by omega
  have HP4 := Lib.hid (part4 l (by rw [hl.1]; omega))
  have HV := Lib.hid hl.2.1
  have HB := Lib.hid hB
  have HN0 := Lib.hid H.bel.size
  have HH := Lib.hid (tab_pos H.tab)
  clear H hl hB
  by_cases k0 : l.getD 0 0 = 75
  rotate_left
  · have HE := Lib.hid (decT_of (l := l) (k := 6) (by unfold decErr; rw [if_neg HLL.out, if_pos (fun e => k0 (by have := congrArg (fun x => x.getD 0 0) (HP4.out.symm.trans e); exact this))]) (by decide))
    have hx : (l.getD 0 0 != 75) = true := by simpa using k0
    generalize l.getD 0 0 = x at *
    clear k0 hc1 hc2 hc3 hc4 HC HP4 HL
    go_enter Tryd.func45, Tryd.ntmps45
    go_wp2_with fail
    go_returns
    exact ⟨by rw [HE.out], HX.out _⟩
  rw [k0] at hc0
  by_cases k1 : l.getD 1 0 = 69
  rotate_left
  · have HE := Lib.hid (decT_of (l := l) (k := 6) (by unfold decErr; rw [if_neg HLL.out, if_pos (fun e => k1 (by have := congrArg (fun x => x.getD 1 0) (HP4.out.symm.trans e); exact this))]) (by decide))
    have hx : (l.getD 1 0 != 69) = true := by simpa using k1
    generalize l.getD 1 0 = x at *
    clear k1 hc2 hc3 hc4 HC HP4 HL
    go_enter Tryd.func45, Tryd.ntmps45
    go_wp2_with fail
    go_returns
    exact ⟨by rw [HE.out], HX.out _⟩
  rw [k1] at hc1
  by_cases k2 : l.getD 2 0 = 69
  rotate_left
  · have HE := Lib.hid (decT_of (l := l) (k := 6) (by unfold decErr; rw [if_neg HLL.out, if_pos (fun e => k2 (by have := congrArg (fun x => x.getD 2 0) (HP4.out.symm.trans e); exact this))]) (by decide))
    have hx : (l.getD 2 0 != 69) = true := by simpa using k2
    generalize l.getD 2 0 = x at *
    clear k2 hc3 hc4 HC HP4 HL
    go_enter Tryd.func45, Tryd.ntmps45
    go_wp2_with fail
    go_returns
    exact ⟨by rw [HE.out], HX.out _⟩
  rw [k2] at hc2
  by_cases k3 : l.getD 3 0 = 80
  rotate_left
  · have HE := Lib.hid (decT_of (l := l) (k := 6) (by unfold decErr; rw [if_neg HLL.out, if_pos (fun e => k3 (by have := congrArg (fun x => x.getD 3 0) (HP4.out.symm.trans e); exact this))]) (by decide))
    have hx : (l.getD 3 0 != 80) = true := by simpa using k3
    generalize l.getD 3 0 = x at *
    clear k3 hc4 HC HP4 HL
    go_enter Tryd.func45, Tryd.ntmps45
    go_wp2_with fail
    go_returns
    exact ⟨by rw [HE.out], HX.out _⟩
  rw [k3] at hc3
  have K1 := Lib.hid (show Ks.part l 0 4 = keep by rw [HP4.out, k0, k1, k2, k3]; rfl)
  clear k0 k1 k2 k3 HP4
  by_cases k4 : l.getD 4 0 = 1
  rotate_left
  · have HE := Lib.hid (decT_of (l := l) (k := 7) (by unfold decErr; rw [if_neg HLL.out, if_neg (fun h => h K1.out), if_pos k4]) (by decide))
    have hx : (l.getD 4 0 != 1) = true := by simpa using k4
    generalize l.getD 4 0 = x at *
    clear k4 HC HL
    go_enter Tryd.func45, Tryd.ntmps45
    go_wp2_with fail
    go_returns
    exact ⟨by rw [HE.out], HX.out _⟩
  rw [k4] at hc4
  have K2 := Lib.hid k4
  clear k4
  have hc24 : (24 : Int) ≤ (c : Int) := by omega
  have hc28 : (28 : Int) ≤ (c : Int) := by omega
  have hc24n : ¬ c = 24 := by omega
  obtain ⟨v, hv⟩ : ∃ v, num (Ks.part l 24 4) = v := ⟨_, rfl⟩
  obtain ⟨u, hu⟩ : ∃ v, sumOf (Ks.part l 0 24) = v := ⟨_, rfl⟩
  have HVV := Lib.hid hv
  have HU := Lib.hid hu
  have hui : 0 ≤ u ∧ u < 4294967296 := by rw [← hu]; exact sumOf_in _
  obtain ⟨hu0, hu1⟩ := hui
  clear hv hu
  go_enter Tryd.func45, Tryd.ntmps45
  go_wp2_with fail
  clear hc0 hc1 hc2 hc3 hc4
  have HX1 := Lib.hid (HX.out (.cells #[.int .i64 0, .int .i64 0, .int .i64 0, .int .i64 0, .int .u64 0, .int .u32 0] 83))
  have HL1 := Lib.hid (HL.out (.cells #[.int .i64 0, .int .i64 0, .int .i64 0, .int .i64 0, .int .u64 0, .int .u32 0] 83))
  have HZ := Lib.hid (boxed6 w (.int .i64 0) (.int .i64 0) (.int .i64 0) (.int .i64 0) (.int .u64 0) (.int .u32 0) 83)
  have HF := Lib.hid (frozen6 w (.int .i64 0) (.int .i64 0) (.int .i64 0) (.int .i64 0) (.int .u64 0) (.int .u32 0) 83)
  have HS := Lib.hid (show B ≤ (w.alloc (.cells #[.int .i64 0, .int .i64 0, .int .i64 0, .int .i64 0, .int .u64 0, .int .u32 0] 83)).heap.size ∧ w.heap.size < (w.alloc (.cells #[.int .i64 0, .int .i64 0, .int .i64 0, .int .i64 0, .int .u64 0, .int .u32 0] 83)).heap.size by have := HB.out; simp; omega)
  clear HX HL HC
  generalize w.alloc (.cells #[.int .i64 0, .int .i64 0, .int .i64 0, .int .i64 0, .int .u64 0, .int .u32 0] 83) = W at *
  have HLW := Lib.hid (bytes_more HL1.out HS.out.1)
  refine wp_region_quiet_below (by kernel_rfl) (by kernel_rfl) ?_
  iterate 2 go_big_quiet_step (fail)
  go_big_quiet_step ((refine number_in W _ _ 4 _ _ v (by omega) (bytes_part HLW.out 24 4 (by omega)) HVV.out))
  iterate 2 go_big_quiet_step (fail)
  go_big_quiet_step ((refine refSum_in W _ _ 24 _ _ u (by omega) (bytes_part HLW.out 0 24 (by omega)) HU.out))
  repeat (go_big_quiet_step (fail))
  refine wpQuiet_nil ?_
  rintro w1 ⟨qq, rfl⟩
  have HB1 := Lib.hid (show Below W.heap.size W (Go.Sort.grow (redrawn W qq.d) qq.os) from in_below W qq)
  generalize Go.Sort.grow (redrawn W qq.d) qq.os = w1 at *
  have HL2 := Lib.hid (bytes_below HLW.out HB1.out)
  have HX2 := Lib.hid (HX1.out.next HB1.out)
  obtain ⟨z0, z1, z2, z3, z4, z5⟩ := cells6 HB1.out HS.out.2 HZ.out
  obtain ⟨f0, f1, f2, f3, f4, f5⟩ := fr6 HB1.out HS.out.2 HF.out
  by_cases k3 : v = u
  rotate_left
  · have hx : (v != u) = true := by simpa using k3
    have HE := Lib.hid (decT_of (l := l) (k := 8) (by unfold decErr; rw [if_neg HLL.out, if_neg (fun h => h K1.out), if_neg (fun h => h K2.out), if_pos (by rw [HVV.out, HU.out]; exact k3)]) (by decide))
    rw [hx]
    clear k3 hx
    go_wp2_with fail
    obtain ⟨s0, s1, s2, s3, s4, s5⟩ := sets6 w1 w.heap.size z0 z1 z2 z3 z4 z5 (.int .i64 0) (.int .i64 0) (.int .i64 0) (.int .i64 0) (.int .u64 0) (.int .u32 0)
    try simp only [Exit.inBlock, Exit.then]
    refine bodyPost_ret (by simp [results, Tryd.results45, go_sem, s0, s1, s2, s3, s4, s5]; try rfl) rfl ?_
    exact ⟨by rw [HE.out], ((((((HX2.out.set_ HN0.out HH.out _ _).set_ HN0.out HH.out _ _).set_ HN0.out HH.out _ _).set_ HN0.out HH.out _ _).set_ HN0.out HH.out _ _).set_ HN0.out HH.out _ _)⟩
  subst k3
  obtain ⟨v1, h1⟩ : ∃ v, num (Ks.part l 5 1) = v := ⟨_, rfl⟩
  obtain ⟨v2, h2⟩ : ∃ v, num (Ks.part l 6 1) = v := ⟨_, rfl⟩
  obtain ⟨v3, h3⟩ : ∃ v, num (Ks.part l 7 1) = v := ⟨_, rfl⟩
  obtain ⟨v4, h4⟩ : ∃ v, num (Ks.part l 8 4) = v := ⟨_, rfl⟩
  obtain ⟨v5, h5⟩ : ∃ v, num (Ks.part l 12 8) = v := ⟨_, rfl⟩
  obtain ⟨v6, h6⟩ : ∃ v, num (Ks.part l 20 4) = v := ⟨_, rfl⟩
  have HC := Lib.hid (show ∀ (ob : Obj) (i : Nat), i < n → (w1.alloc ob).cell? ⟨b, o + i, none⟩ = some (.int .u8 (l.getD i 0)) from fun ob i hi => by
    obtain ⟨b', o', e, hc⟩ := bytes_cell (bytes_more HL2.out HB1.out.size) (below_box w1 ob) i hi
    cases e
    exact hc)
  have hlen : l.length = n := HL2.out.1
  have e1 : l.getD 5 0 = v1 := by rw [← h1, part_one l 5 (by omega)]; simp [num]
  have e2 : l.getD 6 0 = v2 := by rw [← h2, part_one l 6 (by omega)]; simp [num]
  have e3 : l.getD 7 0 = v3 := by rw [← h3, part_one l 7 (by omega)]; simp [num]
  have g1 := Ks.getD_in l HV.out 5
  have g2 := Ks.getD_in l HV.out 6
  have g3 := Ks.getD_in l HV.out 7
  have g4 := num_in (Ks.part l 8 4) (part_in l HV.out 8 4)
  have g6 := num_in (Ks.part l 20 4) (part_in l HV.out 20 4)
  rw [part_len l 8 4 (by omega), h4] at g4
  rw [part_len l 20 4 (by omega), h6] at g6
  have hc5 := fun ob : Obj => HC.out ob 5 (by omega)
  have hc6 := fun ob : Obj => HC.out ob 6 (by omega)
  have hc7 := fun ob : Obj => HC.out ob 7 (by omega)
  rw [e1] at hc5 g1
  rw [e2] at hc6 g2
  rw [e3] at hc7 g3
  have HL3 := Lib.hid (fun ob => bytes_below (bytes_more HL2.out HB1.out.size) (below_box w1 ob))
  have J1 := Lib.hid h1
  have J2 := Lib.hid h2
  have J3 := Lib.hid h3
  have J4 := Lib.hid h4
  have J5 := Lib.hid h5
  have J6 := Lib.hid h6
  have i5 : (5 : Int) < (n : Int) := by omega
  have i6 : (6 : Int) < (n : Int) := by omega
  have i7 : (7 : Int) < (n : Int) := by omega
  have m12 : (12 : Int) ≤ (c : Int) := by omega
  have m20 : (20 : Int) ≤ (c : Int) := by omega
  have n8 : ¬ c = 8 := by omega
  have n12 : ¬ c = 12 := by omega
  have n20 : ¬ c = 20 := by omega
  obtain ⟨p1, q1⟩ := g1
  obtain ⟨p2, q2⟩ := g2
  obtain ⟨p3, q3⟩ := g3
  obtain ⟨p4, q4⟩ := g4
  obtain ⟨p6, q6⟩ := g6
  replace q4 : v4 < 4294967296 := q4
  replace q6 : v6 < 4294967296 := q6
  clear h1 h2 h3 h4 h5 h6 e1 e2 e3 HC hlen HL1 HLW HV hu0 hu1
  rw [show (v != v) = false by simp]
  go_wp2_with fail
  refine wp_region_still_tail 14 (by kernel_rfl) (by kernel_rfl) ?_
  change wpStill _ _ (w1.alloc _).drew (fun a' => wpList _ _ _ _ a' (w1.alloc _).drew) _ _
  simp only [List.take_succ_cons, List.take_zero, List.drop_succ_cons, List.drop_zero]
  iterate 14 still_step
  refine wpStill_nil ?_
  clear hc5 hc6 hc7
  go_wp2_with fail
  refine (number_any _ 4 _ _ _ v4 _ (by omega) (bytes_part (bytes_drew (HL3.out _)) 8 4 (by omega)) J4.out).mono ?_
  rintro e w' ⟨rfl, rfl⟩
  go_wp2_with fail
  refine (number_any _ 8 _ _ _ v5 _ (by omega) (bytes_part (bytes_drew (HL3.out _)) 12 8 (by omega)) J5.out).mono ?_
  rintro e w' ⟨rfl, rfl⟩
  go_wp2_with fail
  refine (number_any _ 4 _ _ _ v6 _ (by omega) (bytes_part (bytes_drew (HL3.out _)) 20 4 (by omega)) J6.out).mono ?_
  rintro e w' ⟨rfl, rfl⟩
  go_wp2_with fail
  have HBX := Lib.hid (boxed6 w1 (.int .i64 v1) (.int .i64 v2) (.int .i64 v3) (.int .i64 v4) (.int .u64 v5) (.int .u32 v6) 83)
  have HP := Lib.hid (show w1.heap.size < (w1.alloc (.cells #[.int .i64 v1, .int .i64 v2, .int .i64 v3, .int .i64 v4, .int .u64 v5, .int .u32 v6] 83)).heap.size by simp)
  have HBL := Lib.hid (below_box w1 (.cells #[.int .i64 v1, .int .i64 v2, .int .i64 v3, .int .i64 v4, .int .u64 v5, .int .u32 v6] 83))
  generalize w1.alloc (.cells #[.int .i64 v1, .int .i64 v2, .int .i64 v3, .int .i64 v4, .int .u64 v5, .int .u32 v6] 83) = W2 at *
  obtain ⟨r, hr⟩ : ∃ r, can v1 v2 v3 v4 = r := ⟨_, rfl⟩
  refine (refCan_any v1 v2 v3 v4 v5 v6 r _ _ (On.start (HX2.out.next HBL.out).tab.drew) hr).mono ?_
  rintro e w3 ⟨rfl, hw3⟩
  have HW3 := Lib.hid (show Below W2.heap.size W2 w3 from below_of_drew hw3.bel)
  have HW1 := Lib.hid (show Below w1.heap.size w1 w3 from HBL.out.trans (HW3.out.mono HBL.out.size))
  have HOO := Lib.hid (HX2.out.next HW1.out)
  have HLT := Lib.hid (Nat.lt_of_lt_of_le HS.out.2 HB1.out.size)
  replace z0 := (HW1.out.cell (p := ⟨w.heap.size, 0, none⟩) HLT.out).trans z0
  replace z1 := (HW1.out.cell (p := ⟨w.heap.size, 1, none⟩) HLT.out).trans z1
  replace z2 := (HW1.out.cell (p := ⟨w.heap.size, 2, none⟩) HLT.out).trans z2
  replace z3 := (HW1.out.cell (p := ⟨w.heap.size, 3, none⟩) HLT.out).trans z3
  replace z4 := (HW1.out.cell (p := ⟨w.heap.size, 4, none⟩) HLT.out).trans z4
  replace z5 := (HW1.out.cell (p := ⟨w.heap.size, 5, none⟩) HLT.out).trans z5
  replace f0 := (HW1.out.frozen (p := ⟨w.heap.size, 0, none⟩) HLT.out).trans f0
  replace f1 := (HW1.out.frozen (p := ⟨w.heap.size, 1, none⟩) HLT.out).trans f1
  replace f2 := (HW1.out.frozen (p := ⟨w.heap.size, 2, none⟩) HLT.out).trans f2
  replace f3 := (HW1.out.frozen (p := ⟨w.heap.size, 3, none⟩) HLT.out).trans f3
  replace f4 := (HW1.out.frozen (p := ⟨w.heap.size, 4, none⟩) HLT.out).trans f4
  replace f5 := (HW1.out.frozen (p := ⟨w.heap.size, 5, none⟩) HLT.out).trans f5
  obtain ⟨x0, x1, x2, x3, x4, x5⟩ := cells6 HW3.out HP.out HBX.out
  clear hw3 HZ HF HBX HL3 HL2 HX1
  cases r
  · have HE := Lib.hid (decT_of (l := l) (k := 9) (by unfold decErr; rw [if_neg HLL.out, if_neg (fun h => h K1.out), if_neg (fun h => h K2.out), if_neg (fun h => h (HVV.out.trans HU.out.symm)), if_pos (by rw [J1.out, J2.out, J3.out, J4.out]; exact hr)]) (by decide))
    clear hr x0 x1 x2 x3 x4 x5
    go_wp2_with fail
    obtain ⟨s0, s1, s2, s3, s4, s5⟩ := sets6 w3 w.heap.size z0 z1 z2 z3 z4 z5 (.int .i64 0) (.int .i64 0) (.int .i64 0) (.int .i64 0) (.int .u64 0) (.int .u32 0)
    try simp only [Exit.inBlock, Exit.then]
    refine bodyPost_ret (by simp [results, Tryd.results45, go_sem, s0, s1, s2, s3, s4, s5]; try rfl) rfl ?_
    exact ⟨by rw [HE.out], ((((((HOO.out.set_ HN0.out HH.out _ _).set_ HN0.out HH.out _ _).set_ HN0.out HH.out _ _).set_ HN0.out HH.out _ _).set_ HN0.out HH.out _ _).set_ HN0.out HH.out _ _)⟩
  · have HE := Lib.hid (decT_ok (l := l) (by unfold decErr; rw [if_neg HLL.out, if_neg (fun h => h K1.out), if_neg (fun h => h K2.out), if_neg (fun h => h (HVV.out.trans HU.out.symm)), if_neg (by rw [J1.out, J2.out, J3.out, J4.out, hr]; decide)]))
    have HD := Lib.hid (show decH l = headV v1 v2 v3 v4 v5 v6 by unfold decH; rw [J1.out, J2.out, J3.out, J4.out, J5.out, J6.out])
    clear hr
    go_wp2_with fail
    obtain ⟨s0, s1, s2, s3, s4, s5⟩ := sets6 w3 w.heap.size z0 z1 z2 z3 z4 z5 (.int .i64 v1) (.int .i64 v2) (.int .i64 v3) (.int .i64 v4) (.int .u64 v5) (.int .u32 v6)
    try simp only [Exit.inBlock, Exit.then]
    refine bodyPost_ret (by simp [results, Tryd.results45, go_sem, s0, s1, s2, s3, s4, s5]; try rfl) rfl ?_
    exact ⟨by rw [HE.out, HD.out], ((((((HOO.out.set_ HN0.out HH.out _ _).set_ HN0.out HH.out _ _).set_ HN0.out HH.out _ _).set_ HN0.out HH.out _ _).set_ HN0.out HH.out _ _).set_ HN0.out HH.out _ _)⟩
theorem refDec_any (A : Option Addr) (n c B : Nat) (l : List Int) (w0 w : World) (H : On w0 w) (hnc : n ≤ c) (hl : Bytes w B A n l) (hB : B ≤ w.heap.size) :
    Calls Tryd.prog 45 #[.slice A n c] w fun e w' => e = .returned (decT l) ∧ On w0 w' := by
  by_cases hn : n < 28
  · exact refDec_short A n c l w0 w H hl.1 hn
  · obtain ⟨b, o, rfl, _, _⟩ := hl.2.2 (by omega)
    exact refDec_long b o n c B l w0 w H (by omega) hnc hl hB
end Go.Proofs.YtpbhkkcboppdmaaDoor
