/-
  THE WALKS OF THE DOCUMENT's power, Clock, Begin, End, Put.
-/
import Derived.Test.YtfcdlnpfneinlaaDoorWEvent
namespace Go.Proofs.YtfcdlnpfneinlaaDoor
open Go.RowKit
set_option maxRecDepth 20000

def beginL : List Lev := [(false, true), (true, true), (true, false), (false, false)]
def clockL (b : Bool) : List Lev := [(false, b), (true, b), (false, b)]
def endL : List Lev := [(false, false), (true, false), (true, true)]
/-- a row of levels of the call's own -/
def GivesL (w : World) (l : List Lev) (e : Ending) (w' : World) : Prop := ∃ v, e = .returned v ∧ OwnM levE 41 w.heap.size w' v l ∧ Below w.heap.size w w'
theorem own_new {α : Type} (E : Enc α) (w : World) (t : TypeId) (l : List α) (cs : Array Value) (h : cs.toList = l.flatMap E.cells) (hn : l.length ≤ maxLen) : OwnM E t w.heap.size (w.alloc (.cells cs t)) (.slice (some ⟨w.heap.size, 0, none⟩) l.length l.length) l := by
  refine ⟨E.flat_len l, .inr ⟨w.heap.size, l.length, cs, rfl, Nat.le_refl _, heap_alloc_new w _, Nat.le_refl _, hn, ?_, ?_⟩⟩
  · rw [← E.flat_len, ← h]; simp
  · rw [h, ← E.flat_len]
    exact List.take_of_length_le (Nat.le_refl _)
theorem begin_any (w : World) : Calls Tryd.prog 31 #[] w (GivesL w beginL) := by
  go_enter Tryd.func31, Tryd.ntmps31
  go_wp2_with fail
  go_ret
  exact ⟨_, rfl, own_new levE w _ beginL _ rfl (by decide), below_box w _⟩
theorem clock_any (w : World) (b : Bool) : Calls Tryd.prog 76 #[.bool b] w (GivesL w (clockL b)) := by
  go_enter Tryd.func76, Tryd.ntmps76
  go_wp2_with fail
  go_ret
  exact ⟨_, rfl, own_new levE w _ (clockL b) _ rfl (by simp [clockL, maxLen]), below_box w _⟩
theorem end_any (w : World) : Calls Tryd.prog 28 #[] w (GivesL w endL) := by
  go_enter Tryd.func28, Tryd.ntmps28
  go_wp2_with fail
  go_ret
  exact ⟨_, rfl, own_new levE w _ endL _ rfl (by decide), below_box w _⟩

theorem pow_small (j : Nat) (h : j ≤ 16) : (2 : Int) ^ j ≤ 65536 ∧ 1 ≤ (2 : Int) ^ j := by
  have : ∀ j : Nat, j < 17 → (2 : Int) ^ j ≤ 65536 ∧ 1 ≤ (2 : Int) ^ j := by decide
  exact this j (by omega)
theorem power_any (n : Nat) (w : World) (hn : n ≤ 16) : Calls Tryd.prog 70 #[.int .i64 n] w fun e w' => e = .returned (.int .i64 (2 ^ n)) ∧ w = w' := by
  go_enter Tryd.func70, Tryd.ntmps70
  go_wp2_with fail
  go_loop [3, 4] (fun p i => ∃ j : Nat, j ≤ n ∧ i = .int .i64 j ∧ p = .int .i64 (2 ^ j)) (fun _ i => n - (intOf i).toNat)
  case atStart => exact ⟨0, Nat.zero_le _, rfl, rfl⟩
  case round =>
    obtain ⟨j, hj, rfl, rfl⟩ := hrel
    have hp := pow_small j (by omega)
    have HS := Lib.hid (show (2 : Int) * 2 ^ j = 2 ^ (j + 1) by rw [Int.pow_succ, Int.mul_comm])
    obtain ⟨hp0, hp1⟩ := hp
    by_cases hlt : j < n
    · obtain ⟨x, hx⟩ : ∃ x : Int, (2 : Int) ^ j = x := ⟨_, rfl⟩
      rw [hx] at HS hp0 hp1 ⊢
      clear hx
      go_wp2_with fail
      go_round
      case rel => exact ⟨j + 1, by omega, by go_num, by rw [← HS.out]⟩
      case measure => simp [intOf]; omega
    · obtain rfl : j = n := by omega
      go_wp2_with fail
      go_ret
      exact ⟨rfl, rfl⟩

/-- the bit with a number -/
def bitAt (b : Int) (k : Nat) : Bool := b / 2 ^ k % 2 == 1
/-- the levels of the first j bits, the highest one first -/
def bitsTo (b : Int) : Nat → List Lev
  | 0 => []
  | j + 1 => bitsTo b j ++ clockL (bitAt b (7 - j))
def putLv (b : Int) (a : Bool) : List Lev := bitsTo b 8 ++ clockL a
theorem bitsTo_len (b : Int) (j : Nat) : (bitsTo b j).length = 3 * j := by
  induction j with
  | zero => rfl
  | succ j ih => rw [bitsTo, List.length_append, ih]; simp [clockL]; omega
theorem putLv_len (b : Int) (a : Bool) : (putLv b a).length = 27 := by
  unfold putLv
  rw [List.length_append, bitsTo_len]
  rfl
theorem elemL : ElemM levE 55 41 2 := ⟨Tryd.underlying55, by kernel_rfl, by decide⟩
set_option maxRecDepth 100000 in
set_option maxHeartbeats 4000000 in
theorem putLv_any (w : World) (b : Int) (a : Bool) (h0 : 0 ≤ b) (h1 : b ≤ 255) : Calls Tryd.prog 52 #[.int .u8 b, .bool a] w (GivesL w (putLv b a)) := by
  go_enter Tryd.func52, Tryd.ntmps52
  go_wp2_with fail
  go_loopw [5, 6] (fun v i wr => ∃ j : Nat, j ≤ 8 ∧ i = .int .i64 (7 - (j : Int)) ∧ OwnM levE 41 w.heap.size wr v (bitsTo b j) ∧ Below w.heap.size w wr) (fun _ i _ => (intOf i + 1).toNat)
  case atStart => exact ⟨0, by omega, rfl, OwnM.nil _ _ _ _, Below.refl _ _⟩
  case round =>
    obtain ⟨j, hj, rfl, hv, hb⟩ := hrel
    have HV := Lib.hid hv
    have HB := Lib.hid hb
    clear hv hb
    by_cases hlt : j < 8
    · obtain ⟨i, hi⟩ : ∃ i : Nat, 7 - j = i := ⟨_, rfl⟩
      have hii : (7 : Int) - (j : Int) = (i : Int) := by omega
      have hi7 : i ≤ 7 := by omega
      have HJ := Lib.hid (show bitsTo b (j + 1) = bitsTo b j ++ clockL (b / 2 ^ i % 2 == 1) by rw [bitsTo, hi]; rfl)
      rw [hii]
      have hi0 : (0 : Int) ≤ (i : Int) := by omega
      have HIJ := Lib.hid (show (i : Int) - 1 = 7 - ((j + 1 : Nat) : Int) by omega)
      have HL := Lib.hid (show (bitsTo b j).length + 3 ≤ 1000000 by rw [bitsTo_len]; omega)
      clear hi hii
      go_wp2_with fail
      refine (power_any i wr (by omega)).mono ?_
      rintro e w1 ⟨rfl, rfl⟩
      have hp := pow_small i (by omega)
      obtain ⟨x, hx⟩ : ∃ x : Int, (2 : Int) ^ i = x := ⟨_, rfl⟩
      rw [hx] at HJ hp ⊢
      obtain ⟨hp0, hp1⟩ := hp
      have hq : 0 ≤ b / x := Int.ediv_nonneg h0 (by omega)
      clear hx
      go_wp2_with fail
      refine (clock_any wr (b / x % 2 == 1)).mono ?_
      rintro e w1 ⟨v, rfl, ho, hb⟩
      obtain ⟨A, c, rfl, _, _, hm⟩ := ho.many
      obtain ⟨v', w', hrun, hown, hbl, _, _⟩ := append_many elemL w1 w.heap.size 55 _ _ (HV.out.below hb) A 3 c _ _ hm (HL.out) (Nat.le_trans HB.out.size hb.size)
      have HR := Lib.hid hrun
      have HO := Lib.hid hown
      have HB2 := Lib.hid (HB.out.trans ((hb.mono HB.out.size).trans hbl))
      clear ho hb hm hrun hown hbl
      go_wp2_with (at_builtin; refine Lib.wpList_append_run _ rfl _ _ _ _ rfl _ _ rfl rfl _ _ HR.out ?_)
      go_roundw
      case rel => exact ⟨j + 1, by omega, by rw [HIJ.out], by rw [HJ.out]; exact HO.out, HB2.out⟩
      case measure => simp [intOf]
    · obtain rfl : j = 8 := by omega
      go_wp2_with fail
      refine (clock_any wr a).mono ?_
      rintro e w1 ⟨v, rfl, ho, hb⟩
      obtain ⟨A, c, rfl, _, _, hm⟩ := ho.many
      obtain ⟨v', w', hrun, hown, hbl, _, _⟩ := append_many elemL w1 w.heap.size 55 _ _ (HV.out.below hb) A 3 c _ _ hm (by rw [bitsTo_len]; omega) (Nat.le_trans HB.out.size hb.size)
      have HR := Lib.hid hrun
      have HO := Lib.hid hown
      have HB2 := Lib.hid (HB.out.trans ((hb.mono HB.out.size).trans hbl))
      clear ho hb hm hrun hown hbl
      go_wp2_with (at_builtin; refine Lib.wpList_append_run _ rfl _ _ _ _ rfl _ _ rfl rfl _ _ HR.out ?_)
      go_ret
      exact ⟨_, rfl, HO.out, HB2.out⟩
end Go.Proofs.YtfcdlnpfneinlaaDoor
