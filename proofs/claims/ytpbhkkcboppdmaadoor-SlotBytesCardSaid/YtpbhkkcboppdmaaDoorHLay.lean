/-
  THE WALKS OF head.lay (of each type).
-/
import Derived.Test.YtpbhkkcboppdmaaDoorHSame
import Derived.Test.YtpbhkkcboppdmaaDoorHLe
namespace Go.Proofs.YtpbhkkcboppdmaaDoor
open Ks Go.RowKit
set_option maxRecDepth 20000

/-- a block of bytes, known whole -/
def Row (w : World) (g : Nat) (l : List Int) : Prop := w.heap[g]? = some (.cells (l.map (Value.int .u8)).toArray 5 (0, 0))
/-- block g alone may be another one -/
structure Only (g : Nat) (w w' : World) : Prop where
  os : w'.os = w.os
  tape : w'.tape = w.tape
  output : w'.output = w.output
  size : w'.heap.size = w.heap.size
  block : ∀ k, k ≠ g → w'.heap[k]? = w.heap[k]?
theorem Only.refl (g : Nat) (w : World) : Only g w w := ⟨rfl, rfl, rfl, rfl, fun _ _ => rfl⟩
theorem Only.trans {g : Nat} {a b c : World} (h : Only g a b) (k : Only g b c) : Only g a c := ⟨k.os.trans h.os, k.tape.trans h.tape, k.output.trans h.output, k.size.trans h.size, fun i hi => (k.block i hi).trans (h.block i hi)⟩
theorem Only.below {g B : Nat} {w w' : World} (h : Only g w w') (hB : B ≤ g) : Below B w w' := ⟨h.os, h.tape, h.output, by rw [h.size]; exact Nat.le_refl _, fun k hk => h.block k (by omega)⟩
theorem Only.set_ {g : Nat} {w w' : World} (h : Only g w w') (o : Nat) (u : Value) : Only g w (w'.setCell ⟨g, o, none⟩ u) :=
  ⟨h.os, h.tape, h.output, by simpa using h.size, fun k hk => (Below.heap_setCell w' ⟨g, o, none⟩ u k hk).trans (h.block k hk)⟩
theorem Only.drew {g : Nat} {w w' : World} (h : Only g w w') : Only g w w'.drew := ⟨h.os, h.tape, h.output, h.size, h.block⟩
theorem Only.of_drew {g : Nat} {w w' : World} (h : Only g w.drew w') : Only g w w' := ⟨h.os, h.tape, h.output, h.size, h.block⟩
theorem Only.cell {g : Nat} {w w' : World} (h : Only g w w') {b o : Nat} (hb : b ≠ g) : w'.cell? ⟨b, o, none⟩ = w.cell? ⟨b, o, none⟩ := World.cell?_of_block (w := w) (h.block b hb)
theorem Row.lt {w : World} {g : Nat} {l : List Int} (h : Row w g l) : g < w.heap.size := (Array.getElem?_eq_some_iff.1 h).1
theorem Row.cell {w : World} {g : Nat} {l : List Int} (h : Row w g l) (i : Nat) (hi : i < l.length) : w.cell? ⟨g, i, none⟩ = some (.int .u8 (l.getD i 0)) ∧ w.frozen? ⟨g, i, none⟩ = false := by
  constructor
  · rw [cell_of_row w g i _ 5 (0, 0) h]
    simp [List.getD, hi]
  · unfold Row at h
    simp [World.frozen?, h]
theorem Row.set_ {w : World} {g : Nat} {l : List Int} (h : Row w g l) (i : Nat) (x : Int) : Row (w.setCell ⟨g, i, none⟩ (.int .u8 x)) g (l.set i x) := by
  unfold Row at h ⊢
  simp [World.setCell, Array.getElem?_modify, h, List.map_set]
theorem Row.bytes {w : World} {g : Nat} {l : List Int} (h : Row w g l) (hv : ∀ v ∈ l, 0 ≤ v ∧ v ≤ 255) {n : Nat} (hn : l.length = n) : Bytes w w.heap.size (some ⟨g, 0, none⟩) n l :=
  ⟨hn, hv, fun _ => ⟨g, 0, rfl, h.lt, fun k hk => by rw [Nat.zero_add]; exact (h.cell k (by omega)).1⟩⟩
theorem bytes_part {w : World} {B b o n : Nat} {l : List Int} (h : Bytes w B (some ⟨b, o, none⟩) n l) (i k : Nat) (hik : i + k ≤ n) : Bytes w B (some ⟨b, o + i, none⟩) k (Ks.part l i k) := by
  obtain ⟨h1, h2, h3⟩ := h
  refine ⟨part_len l i k (by omega), part_in l h2 i k, fun hk => ?_⟩
  obtain ⟨b', o', e, hb, hc⟩ := h3 (by omega)
  cases e
  exact ⟨b, o + i, rfl, hb, fun j hj => by rw [Nat.add_assoc, hc (i + j) (by omega), part_getD l i k j hj]⟩

theorem lay_step (pre post : List Int) (n v : Int) (i : Nat) (hi : i < post.length) (hv : v = n / 256 ^ i % 256) : (pre ++ le i n ++ post.drop i).set (pre.length + i) v = pre ++ le (i + 1) n ++ post.drop (i + 1) := by
  subst hv
  have hl : (pre ++ le i n).length = pre.length + i := by rw [List.length_append, le_len]
  rw [List.set_append_right _ _ (by omega), hl, Nat.sub_self, List.drop_eq_getElem_cons hi, List.set_cons_zero, le_succ]
  simp
theorem lay_in (pre post : List Int) (n : Int) (i : Nat) (hi : i < post.length) : pre.length + i < (pre ++ le i n ++ post.drop i).length := by
  simp [le_len]; omega
/-- where the loop stands behind i rounds -/
def LayAt (w : World) (g : Nat) (pre post : List Int) (n : Int) (i : Nat) (wr : World) : Prop := Row wr g (pre ++ le i n ++ post.drop i) ∧ Only g w wr
theorem layAt_zero {w : World} {g : Nat} {pre post : List Int} {n : Int} (h : Row w g (pre ++ post)) : LayAt w g pre post n 0 w := ⟨by rw [le_zero, List.append_nil]; exact h, Only.refl _ _⟩
theorem layAt_succ {w wr : World} {g o : Nat} {pre post : List Int} {n x : Int} {i : Nat} (h : LayAt w g pre post n i wr) (ho : pre.length = o) (hi : i < post.length) (hx : x = n / 256 ^ i % 256) :
    LayAt w g pre post n (i + 1) (wr.setCell ⟨g, o + i, none⟩ (.int .u8 x)) := by
  subst ho
  refine ⟨?_, h.2.set_ _ _⟩
  rw [← lay_step pre post n x i hi hx]
  exact h.1.set_ _ _
theorem layAt_cell {w wr : World} {g o : Nat} {pre post : List Int} {n : Int} {i : Nat} (h : LayAt w g pre post n i wr) (ho : pre.length = o) (hi : i < post.length) : ∃ u, wr.cell? ⟨g, o + i, none⟩ = some (.int .u8 u) ∧ wr.frozen? ⟨g, o + i, none⟩ = false := by
  subst ho
  exact ⟨_, h.1.cell _ (lay_in pre post n i hi)⟩
theorem halve (n : Int) (i : Nat) : n / 256 ^ i / 256 = n / 256 ^ (i + 1) := by
  rw [Int.pow_succ, Int.ediv_ediv_of_nonneg (Int.pow_nonneg (by decide))]
theorem div_in (n : Int) (i : Nat) (h : 0 ≤ n) : 0 ≤ n / 256 ^ i ∧ n / 256 ^ i ≤ n := ⟨Int.ediv_nonneg h (Int.pow_nonneg (by decide)), Int.ediv_le_self _ h⟩

theorem layInt_any (pre post : List Int) (k g o c : Nat) (n : Int) (w : World) (h0 : 0 ≤ n) (_h1 : n < 9223372036854775808) (hR : Row w g (pre ++ post)) (ho : pre.length = o) (hk : k ≤ post.length) (hk8 : k ≤ 8) :
    Calls Tryd.prog 84 #[.slice (some ⟨g, o, none⟩) k c, .int .i64 n] w fun e w' => e = .returned (.tuple #[]) ∧ LayAt w g pre post n k w' := by
  have HR := Lib.hid (layAt_zero (n := n) hR)
  have HO := Lib.hid ho
  have HK := Lib.hid hk
  clear hR ho hk
  go_enter Tryd.func84, Tryd.ntmps84
  go_wp2_with fail
  go_loopw [1, 4, 7] (fun y _ s wr => ∃ i : Nat, i ≤ k ∧ s = .int .i64 i ∧ y = .int .i64 (n / 256 ^ i) ∧ LayAt w g pre post n i wr) (fun _ _ s _ => k - (intOf s).toNat)
  case atStart => exact ⟨0, Nat.zero_le _, rfl, by simp, HR.out⟩
  case round =>
    obtain ⟨i, hi, rfl, rfl, hat⟩ := hrel
    have HAT := Lib.hid hat
    clear hat HR
    by_cases hlt : i < k
    · have hlt' : i < post.length := Nat.lt_of_lt_of_le hlt HK.out
      obtain ⟨u, hcv, hcf⟩ := layAt_cell HAT.out HO.out hlt'
      have R := Lib.hid (fun x hx => layAt_succ (x := x) HAT.out HO.out hlt' hx)
      have HH := Lib.hid (halve n i)
      obtain ⟨hy0, hy1⟩ := div_in n i h0
      have hi0 : (0 : Int) ≤ (i : Int) := by omega
      have hi1 : (i : Int) < (k : Int) := by omega
      generalize n / 256 ^ i = y at *
      go_wp2_with fail
      go_roundw
      case rel => exact ⟨i + 1, by omega, by go_num, congrArg (Value.int .i64) HH.out, R.out _ rfl⟩
      case measure => simp [intOf]; omega
    · obtain rfl : i = k := by omega
      go_wp2_with fail
      go_end0
      exact ⟨rfl, HAT.out⟩

theorem lay64_any (pre post : List Int) (k g o c : Nat) (n : Int) (w : World) (h0 : 0 ≤ n) (_h1 : n < 18446744073709551616) (hR : Row w g (pre ++ post)) (ho : pre.length = o) (hk : k ≤ post.length) (hk8 : k ≤ 8) :
    Calls Tryd.prog 85 #[.slice (some ⟨g, o, none⟩) k c, .int .u64 n] w fun e w' => e = .returned (.tuple #[]) ∧ LayAt w g pre post n k w' := by
  have HR := Lib.hid (layAt_zero (n := n) hR)
  have HO := Lib.hid ho
  have HK := Lib.hid hk
  clear hR ho hk
  go_enter Tryd.func85, Tryd.ntmps85
  go_wp2_with fail
  go_loopw [1, 4, 7] (fun y _ s wr => ∃ i : Nat, i ≤ k ∧ s = .int .i64 i ∧ y = .int .u64 (n / 256 ^ i) ∧ LayAt w g pre post n i wr) (fun _ _ s _ => k - (intOf s).toNat)
  case atStart => exact ⟨0, Nat.zero_le _, rfl, by simp, HR.out⟩
  case round =>
    obtain ⟨i, hi, rfl, rfl, hat⟩ := hrel
    have HAT := Lib.hid hat
    clear hat HR
    by_cases hlt : i < k
    · have hlt' : i < post.length := Nat.lt_of_lt_of_le hlt HK.out
      obtain ⟨u, hcv, hcf⟩ := layAt_cell HAT.out HO.out hlt'
      have R := Lib.hid (fun x hx => layAt_succ (x := x) HAT.out HO.out hlt' hx)
      have HH := Lib.hid (halve n i)
      obtain ⟨hy0, hy1⟩ := div_in n i h0
      have hi0 : (0 : Int) ≤ (i : Int) := by omega
      have hi1 : (i : Int) < (k : Int) := by omega
      generalize n / 256 ^ i = y at *
      go_wp2_with fail
      go_roundw
      case rel => exact ⟨i + 1, by omega, by go_num, congrArg (Value.int .u64) HH.out, R.out _ rfl⟩
      case measure => simp [intOf]; omega
    · obtain rfl : i = k := by omega
      go_wp2_with fail
      go_end0
      exact ⟨rfl, HAT.out⟩

theorem lay32_any (pre post : List Int) (k g o c : Nat) (n : Int) (w : World) (h0 : 0 ≤ n) (_h1 : n < 4294967296) (hR : Row w g (pre ++ post)) (ho : pre.length = o) (hk : k ≤ post.length) (hk8 : k ≤ 8) :
    Calls Tryd.prog 86 #[.slice (some ⟨g, o, none⟩) k c, .int .u32 n] w fun e w' => e = .returned (.tuple #[]) ∧ LayAt w g pre post n k w' := by
  have HR := Lib.hid (layAt_zero (n := n) hR)
  have HO := Lib.hid ho
  have HK := Lib.hid hk
  clear hR ho hk
  go_enter Tryd.func86, Tryd.ntmps86
  go_wp2_with fail
  go_loopw [1, 4, 7] (fun y _ s wr => ∃ i : Nat, i ≤ k ∧ s = .int .i64 i ∧ y = .int .u32 (n / 256 ^ i) ∧ LayAt w g pre post n i wr) (fun _ _ s _ => k - (intOf s).toNat)
  case atStart => exact ⟨0, Nat.zero_le _, rfl, by simp, HR.out⟩
  case round =>
    obtain ⟨i, hi, rfl, rfl, hat⟩ := hrel
    have HAT := Lib.hid hat
    clear hat HR
    by_cases hlt : i < k
    · have hlt' : i < post.length := Nat.lt_of_lt_of_le hlt HK.out
      obtain ⟨u, hcv, hcf⟩ := layAt_cell HAT.out HO.out hlt'
      have R := Lib.hid (fun x hx => layAt_succ (x := x) HAT.out HO.out hlt' hx)
      have HH := Lib.hid (halve n i)
      obtain ⟨hy0, hy1⟩ := div_in n i h0
      have hi0 : (0 : Int) ≤ (i : Int) := by omega
      have hi1 : (i : Int) < (k : Int) := by omega
      generalize n / 256 ^ i = y at *
      go_wp2_with fail
      go_roundw
      case rel => exact ⟨i + 1, by omega, by go_num, congrArg (Value.int .u32) HH.out, R.out _ rfl⟩
      case measure => simp [intOf]; omega
    · obtain rfl : i = k := by omega
      go_wp2_with fail
      go_end0
      exact ⟨rfl, HAT.out⟩
end Go.Proofs.YtpbhkkcboppdmaaDoor
