/-
  THE WALKS OF keepsakeref01.word, divisor, left.
-/
import Derived.Test.YtdafmjklkggbgaaDoorBase
import Derived.Test.YtdafmjklkggbgaaDoorDivide
import Derived.StillTailTactics
import Derived.Deep.AppendLies
namespace Go.Proofs.YtdafmjklkggbgaaDoor
open Ks Go.RowKit

/-- a slice of 32 bits from o on in block g -/
def Bools (w : World) (g o : Nat) (f : Nat → Bool) : Prop := ∀ k, k < 32 → w.cell? ⟨g, o + k, none⟩ = some (.bool (f (o + k)))

theorem word_any (g o c : Nat) (f : Nat → Bool) (w : World) (hf : Bools w g o f) :
    Calls Tryd.prog 40 #[.slice (some ⟨g, o, none⟩) 32 c] w fun e w' => e = .returned (.int .u32 (U (win f o))) ∧ w = w' := by
  have HF := Lib.hid hf
  clear hf
  go_enter Tryd.func40, Tryd.ntmps40
  go_wp2_with fail
  go_loop [3, 4] (fun n i => ∃ k : Nat, k ≤ 32 ∧ i = .int .i64 ((k : Int) - 1) ∧ n = .int .u32 (U (win f o >>> k))) (fun _ i => (intOf i + 1).toNat)
  case atStart => exact ⟨32, by omega, rfl, by rw [win_shr32]⟩
  case round =>
    obtain ⟨k, hk, rfl, rfl⟩ := hrel
    by_cases h0 : k = 0
    · subst h0
      go_wp2_with fail
      go_ret
      exact ⟨ret_int (win_shr0 f o), rfl⟩
    · obtain ⟨m, rfl⟩ : ∃ m, k = m + 1 := ⟨k - 1, by omega⟩
      have hc := HF.out m (by omega)
      have hs := win_shr f o m (by omega)
      have hl := U_lt (win f o >>> m)
      have hg := U_ge (win f o >>> (m + 1))
      have hm0 : (0 : Int) ≤ ((m + 1 : Nat) : Int) - 1 := by omega
      have hm1 : ((m + 1 : Nat) : Int) - 1 < 32 := by omega
      have hmm : (((m + 1 : Nat) : Int) - 1).toNat = m := by omega
      clear h0
      cases hb : f (o + m)
      · rw [hb] at hc hs
        have HS := Lib.hid hs
        go_wp2_with fail
        go_round
        case rel => exact ⟨m, by omega, rfl, congrArg (Value.int .u32) (by have := HS.out; simpa using this)⟩
        case measure => simp [intOf]
      · rw [hb] at hc hs
        have HS := Lib.hid hs
        go_wp2_with fail
        go_round
        case rel => exact ⟨m, by omega, rfl, congrArg (Value.int .u32) (by have := HS.out; simpa using this)⟩
        case measure => simp [intOf]

/-- the powers, laid in a block of their own -/
def dcells : Array Value := #[.int .i64 0, .int .i64 6, .int .i64 9, .int .i64 10, .int .i64 16, .int .i64 20, .int .i64 21, .int .i64 22, .int .i64 24, .int .i64 25, .int .i64 27, .int .i64 28, .int .i64 30, .int .i64 31, .int .i64 32]
theorem dcells_at : ∀ k, k < 15 → dcells[k]? = some (.int .i64 ((dl.getD k 0 : Nat) : Int)) := by
  intro k hk
  match k, hk with
  | 0, _ | 1, _ | 2, _ | 3, _ | 4, _ | 5, _ | 6, _ | 7, _ | 8, _ | 9, _ | 10, _ | 11, _ | 12, _ | 13, _ | 14, _ => rfl
theorem divisor_any (w : World) : Calls Tryd.prog 47 #[] w fun e w' => e = .returned (.slice (some ⟨w.heap.size, 0, none⟩) 15 15) ∧ w.alloc (.cells dcells 3) = w' := by
  go_enter Tryd.func47, Tryd.ntmps47
  go_wp2_with fail
  go_ret
  exact ⟨rfl, rfl⟩

theorem own_set' {w : World} {base e n g cap q : Nat} {xs : List Value} {u : Value} (h : w.ownsRow base e 1 (.slice (some ⟨g, 0, none⟩) n cap) n xs) :
    (w.setCell ⟨g, q, none⟩ u).ownsRow base e 1 (.slice (some ⟨g, 0, none⟩) n cap) n (xs.set q u) := by
  refine ⟨by simp [h.1], .inr ?_⟩
  rcases h.2 with ⟨hh, _⟩ | ⟨g', cap', cur, hh, hb, hg, h4, h5, h6, h7⟩
  · cases hh
  · cases hh
    refine ⟨g, cap, cur.setIfInBounds q u, rfl, hb, ?_, h4, h5, by simp [h6], ?_⟩
    · simp [World.setCell, Array.getElem?_modify, hg]
    · rw [← h7, Array.toList_setIfInBounds, List.take_set]
theorem own_bool {w : World} {base n g cap : Nat} {c : List Bool} (h : w.ownsRow base 4 1 (.slice (some ⟨g, 0, none⟩) n cap) n (c.map Value.bool)) (q : Nat) (hq : q < n) :
    w.cell? ⟨g, q, none⟩ = some (.bool (bl c q)) ∧ w.frozen? ⟨g, q, none⟩ = false := by
  have hl : c.length = n := by have := h.1; simpa using this
  constructor
  · have := h.cells (g := g) rfl q (.bool (bl c q)) (by simp [bl, List.getD, hl, hq])
    rw [Go.WideShapes.add_plain, Nat.zero_add] at this
    exact this
  · rcases h.2 with ⟨hh, _⟩ | ⟨g', cap', cur, hh, _, hg, _⟩
    · cases hh
    · cases hh
      simp [World.frozen?, hg]
theorem grown_set {w w' : World} {g q : Nat} {u : Value} (h : w.grownBy w' (some g)) : w.grownBy (w'.setCell ⟨g, q, none⟩ u) (some g) :=
  ⟨h.os, h.tape, h.output, by simpa using h.size, fun k hk hne => (Below.heap_setCell w' ⟨g, q, none⟩ u k (fun e => hne (by rw [e]))).trans (h.block k hk hne)⟩
theorem grown_drew {w w' : World} {row : Option Nat} (h : w.grownBy w' row) : w.grownBy w'.drew row := ⟨h.os, h.tape, h.output, h.size, h.block⟩

/-- where the loops of left stand: the list c in memory -/
def LeftAt (w : World) (base g N cap : Nat) (c : List Bool) (wr : World) : Prop :=
  wr.ownsRow base 4 1 (.slice (some ⟨g, 0, none⟩) N cap) N (c.map Value.bool) ∧ w.grownBy wr (some g) ∧ wr.heap[w.heap.size]? = some (.cells dcells 3)
theorem leftAt_set {w wr : World} {base g N cap : Nat} {c : List Bool} (h : LeftAt w base g N cap c wr) (hg : g < w.heap.size) (q : Nat) (b : Bool) :
    LeftAt w base g N cap (c.set q b) (wr.setCell ⟨g, q, none⟩ (.bool b)).drew := by
  obtain ⟨h1, h2, h3⟩ := h
  refine ⟨?_, grown_drew (grown_set h2), ?_⟩
  · rw [List.map_set]; exact own_set' h1
  · show (wr.setCell ⟨g, q, none⟩ (.bool b)).heap[w.heap.size]? = _
    rw [Below.heap_setCell _ _ _ _ (by show w.heap.size ≠ g; omega)]; exact h3
def LeftPost (w : World) (base g N cap : Nat) (l : List Bool) (e : Ending) (w' : World) : Prop :=
  ∃ c : List Bool, e = .returned (.slice (some ⟨g, N - 32, none⟩) 32 (cap - (N - 32))) ∧ LeftAt w base g N cap c w' ∧ DivAt l (N - 32) c

theorem left_any (w : World) (base g N cap : Nat) (l : List Bool) (hown : w.ownsRow base 4 1 (.slice (some ⟨g, 0, none⟩) N cap) N (l.map Value.bool)) (hN : 32 ≤ N) (hN2 : N ≤ 100000) :
    Calls Tryd.prog 39 #[.slice (some ⟨g, 0, none⟩) N cap] w (LeftPost w base g N cap l) := by
  have hl : l.length = N := by have := hown.1; simpa using this
  have hcap : N ≤ cap := by
    rcases hown.2 with ⟨hh, _⟩ | ⟨g', cap', cur, hh, _, _, h4, _⟩
    · cases hh
    · cases hh; exact h4
  have hg : g < w.heap.size := (hown.lt g rfl).2
  have HL := Lib.hid hl
  have HO := Lib.hid (show LeftAt w base g N cap l (w.alloc (.cells dcells 3)) from ⟨hown.alloc _, World.grownBy_alloc w _ _, heap_alloc_new w _⟩)
  clear hl hown
  go_enter Tryd.func39, Tryd.ntmps39
  go_wp2_with fail
  refine (divisor_any _).mono ?_
  rintro e w' ⟨rfl, rfl⟩
  generalize w.alloc (.cells dcells 3) = w1 at *
  go_wp2_with fail
  go_loopw [4] (fun i wr => ∃ (k : Nat) (c : List Bool), k + 32 ≤ N ∧ i = .int .i64 k ∧ LeftAt w base g N cap c wr ∧ DivAt l k c) (fun i _ => N - (intOf i).toNat)
  case atStart => exact ⟨0, l, by omega, rfl, HO.out, divAt_zero l⟩
  case round =>
    obtain ⟨i, c, hi, rfl, hat, hdiv⟩ := hrel
    have HAT := Lib.hid hat
    have HD := Lib.hid hdiv
    clear hat hdiv HO
    by_cases hlt : i + 32 < N
    · have hlt' : (i : Int) + 32 < (N : Int) := by omega
      obtain ⟨hci, _⟩ := own_bool HAT.out.1 i (by omega)
      cases hb : bl c i
      · rw [hb] at hci
        have HD2 := Lib.hid (divAt_no HD.out hb)
        clear hb HD
        go_wp2_with fail
        go_roundw
        case rel => exact ⟨i + 1, c, by omega, by go_num, HAT.out, HD2.out⟩
        case measure => simp [intOf]; omega
      · rw [hb] at hci
        have HB := Lib.hid hb
        clear hb
        go_wp2_with fail
        clear hci
        go_loopw [5] (fun s wr => ∃ (k : Nat) (c' : List Bool), k ≤ 15 ∧ s = .int .i64 k ∧ LeftAt w base g N cap c' wr ∧ Flipped i k c c') (fun s _ => 15 - (intOf s).toNat)
        case atStart => exact ⟨0, c, by omega, rfl, HAT.out, flipped_zero i c⟩
        case round =>
          obtain ⟨k, c', hk, rfl, hat2, hfl⟩ := hrel
          have HAT2 := Lib.hid hat2
          have HFL := Lib.hid hfl
          clear hat2 hfl HAT
          by_cases hk15 : k < 15
          · have HN := Lib.hid (flipped_succ HFL.out hk15 (by have := HD.out.1; have := HL.out; omega))
            have hd := dl_le k hk15
            have hcd := (cell_of_row _ _ k _ _ _ HAT2.out.2.2).trans (dcells_at k hk15)
            generalize dl.getD k 0 = d at *
            obtain ⟨hcq, hcf⟩ := own_bool HAT2.out.1 (i + d) (by omega)
            generalize hbd : bl c' (i + d) = bd at *
            clear hbd
            have hk0 : (0 : Int) ≤ (k : Int) := by omega
            have hk1 : (k : Int) < 15 := by omega
            have hid0 : (0 : Int) ≤ (i : Int) + (d : Int) := by omega
            have hid1 : (i : Int) + (d : Int) < (N : Int) := by omega
            have hidn : ((i : Int) + (d : Int)).toNat = i + d := by omega
            go_wp2_with fail
            have e1 : IntKind.i64.wrap ((i : Int) + (d : Int)) = (i : Int) + (d : Int) := IntWalk.i64_in _ (by omega)
            go_still_tail 18, (by kernel_rfl)
            clear e1
            change wpList _ _ _ _ _ wr.drew
            go_wp2_with fail
            go_roundw
            case rel => exact ⟨k + 1, _, by omega, by go_num, leftAt_set HAT2.out hg (i + d) (!bd), HN.out⟩
            case measure => simp [intOf]; omega
          · obtain rfl : k = 15 := by omega
            have HD2 := Lib.hid (divAt_yes HD.out HB.out HFL.out (by have := HL.out; omega))
            clear HD
            go_wp2_with fail
            go_roundw
            case rel => exact ⟨i + 1, c', by omega, by go_num, HAT2.out, HD2.out⟩
            case measure => simp [intOf]; omega
    · obtain rfl : N = i + 32 := by omega
      go_wp2_with fail
      go_ret
      exact ⟨c, by rw [Nat.add_sub_cancel]; rfl, HAT.out, by rw [Nat.add_sub_cancel]; exact HD.out⟩
end Go.Proofs.YtdafmjklkggbgaaDoor
