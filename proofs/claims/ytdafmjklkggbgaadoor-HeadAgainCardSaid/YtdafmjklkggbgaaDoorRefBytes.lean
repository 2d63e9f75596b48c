/-
  THE WALK OF keepsakeref04.Bytes.
-/
import Derived.Test.YtdafmjklkggbgaaDoorDec
import Derived.Test.YtdafmjklkggbgaaDoorRefSum
namespace Go.Proofs.YtdafmjklkggbgaaDoor
open Ks Go.RowKit

/-- where the loop stands -/
def BytAt (w : World) (n : Int) (k : Nat) (v : Value) (wr : World) : Prop :=
  wr.ownsRow w.heap.size 5 1 v k ((le k n).map (Value.int .u8)) ∧ Below w.heap.size w wr
theorem bytAt_succ {w wr w2 : World} {n : Int} {k g cap : Nat} {v : Value} {o : Obj} (h : BytAt w n k v wr)
    (hown : w2.ownsRow w.heap.size 5 1 (.slice (some ⟨g, 0, none⟩) (k + 1) cap) (k + 1) ((le k n).map (Value.int .u8) ++ [.int .u8 (n / 256 ^ k % 256)]))
    (hgrow : (wr.alloc o).grownBy w2 v.ownBlock) : BytAt w n (k + 1) (.slice (some ⟨g, 0, none⟩) (k + 1) cap) w2 := by
  obtain ⟨h1, h2⟩ := h
  refine ⟨?_, ?_⟩
  · rw [le_succ, List.map_append]; exact hown
  · refine (h2.alloc h2.size o).grown hgrow (by have := h2.size; simp; omega) ?_
    intro j hj
    exact (h1.lt j hj).1
def BytPost (w : World) (n : Int) (k : Nat) (e : Ending) (w' : World) : Prop := ∃ v, e = .returned v ∧ BytAt w n k v w'
theorem refBytes_any (n : Int) (k : Nat) (w : World) (h0 : 0 ≤ n) (h1 : n < 18446744073709551616) (hk : k ≤ 8) :
    Calls Tryd.prog 15 #[.int .u64 n, .int .i64 k] w (BytPost w n k) := by
  obtain ⟨i0, hi, hz0, hz1, hz2⟩ := info_parts info5
  go_enter Tryd.func15, Tryd.ntmps15
  go_wp2_with fail
  go_loopw [0, 5, 6] (fun y v s wr => ∃ i : Nat, i ≤ k ∧ s = .int .i64 i ∧ y = .int .u64 (n / 256 ^ i) ∧ BytAt w n i v wr) (fun _ _ s _ => k - (intOf s).toNat)
  case atStart => exact ⟨0, by omega, rfl, by simp, World.ownsRow_nil _ _ _ _, Below.refl _ _⟩
  case round =>
    obtain ⟨i, hik, rfl, rfl, hat⟩ := hrel
    have HAT := Lib.hid hat
    clear hat
    by_cases hlt : i < k
    · have HH := Lib.hid (halve n i)
      obtain ⟨hy0, hy1⟩ := div_in n i h0
      have hy2 : n / 256 ^ i < 18446744073709551616 := Int.lt_of_le_of_lt hy1 h1
      have R := Lib.hid (fun g cap w2 o => bytAt_succ (w2 := w2) (g := g) (cap := cap) (o := o) HAT.out)
      generalize n / 256 ^ i = y at *
      have hm : 0 ≤ y % 256 ∧ y % 256 < 256 := by omega
      generalize hx : y % 256 = x at *
      have HX := Lib.hid hx
      obtain ⟨hm0, hm1⟩ := hm
      have HNW := Lib.hid (World.news_of_block (cs := #[.int .u8 x]) (t := 5) (fr := (0, 0)) (heap_alloc_new wr _))
      go_wp2_with (at_builtin; refine wpList_append_lies _ rfl _ _ _ rfl w.heap.size 5 i0 _ 1 1 Tryd.underlying29 hi hz0 hz1 hz2 rfl (by omega) _ i ((le i n).map (Value.int .u8)) rfl (HAT.out.1.alloc _) ⟨wr.heap.size, 0, none⟩ 1 1 [.int .u8 x] rfl rfl HNW.out (by simp [Value.oneCell']) (by omega) (by unfold maxLen; omega) (by omega) (by have := HAT.out.2.size; simp; omega) (wr.heap.size + 1) (by simp) ?_; intro g cap w2 hown2 hgrow hat2 hlt2)
      have RR := Lib.hid (R.out g cap w2 _ hown2 hgrow)
      clear hown2 hgrow hat2 hlt2 HAT hx
      go_wp2_with fail
      go_roundw
      case rel => exact ⟨i + 1, by omega, by go_num, by rw [HH.out], RR.out⟩
      case measure => simp [intOf]; omega
    · obtain rfl : i = k := by omega
      go_wp2_with fail
      go_ret
      exact ⟨_, rfl, HAT.out⟩
end Go.Proofs.YtdafmjklkggbgaaDoor
