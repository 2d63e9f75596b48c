/-
  THE WALKS OF (*Chip).hear, meant.
-/
import Derived.Test.YtfcdlnpfneinlaaDoorETurn
import Derived.Deep.RegionHeld3
namespace Go.Proofs.YtfcdlnpfneinlaaDoor
open Go.RowKit
set_option maxRecDepth 20000

/-- what a step tells -/
def nowV (e : Int) (line wp : Bool) : Value := .agg #[.int .i64 e, .bool line, .bool wp]
theorem ChipAt.box {w : World} {p : Nat} {F : Nat → Prop} {s : Chip} (h : ChipAt w p F s) (o : Obj) : ChipAt (w.alloc o) p F s := h.below (below_box w o)

theorem or_one (x : Int) (h0 : 0 ≤ x) (h1 : x ≤ 255) : bits .or .u8 (x * 2 % 256) 1 = (2 * x + 1) % 256 := by
  obtain ⟨n, rfl⟩ := Int.eq_ofNat_of_zero_le h0
  have : ∀ n : Nat, n < 256 → bits .or .u8 ((n : Int) * 2 % 256) 1 = (2 * (n : Int) + 1) % 256 := by decide +kernel
  exact this n (by omega)
set_option maxHeartbeats 4000000 in
theorem hear_any (w : World) (p : Nat) (F : Nat → Prop) (s : Chip) (e : Int) (line wp : Bool) (h : ChipAt w p F s) (he : e = 2 ∨ e = 3 ∨ e = 4) (hs : 0 ≤ s.shift ∧ s.shift ≤ 255) (hc : 0 ≤ s.count ∧ s.count ≤ 1000000) :
    Calls Tryd.prog 58 #[.pointer (some ⟨p, 0, none⟩), nowV e line wp] w fun e' w' => e' = .returned (.tuple #[.int .u8 (if s.whole e then s.shift else 0), .bool (s.whole e)]) ∧ Went p F (s.hear e line) w w' := by
  obtain ⟨d, cap, l, cm, wm, hin⟩ := h
  have H := Lib.hid hin
  have hlt := hin.blk.lt
  have f6 := hin.blk.frozen 6
  have f7 := hin.blk.frozen 7
  have c6 := (hin.blk.cell 6)
  have c7 := (hin.blk.cell 7)
  simp only [cellsOf, List.getElem?_toArray, List.getElem?_cons_zero, List.getElem?_cons_succ] at c6 c7
  have HB := Lib.hid (below_box w (.cells #[.int .i64 e, .bool line, .bool wp] 72))
  have hne : w.heap.size ≠ p := by omega
  obtain ⟨hs0, hs1⟩ := hs
  obtain ⟨hc0, hc1⟩ := hc
  clear hin
  unfold nowV
  rcases he with rfl | rfl | rfl
  · go_enter Tryd.func58, Tryd.ntmps58
    go_wp2_with fail
    go_ret2
    exact ⟨rfl, (H.out.sets (cm' := cm) [] s rfl rfl rfl rfl (.inl ⟨rfl, rfl, rfl⟩)).box H.out.tab _⟩
  · cases line
    · have HR := Lib.hid (show s.hear 3 false = { s with shift := s.shift * 2 % 256, count := s.count + 1 } by unfold Chip.hear; rw [if_pos rfl]; congr 1; simp; omega)
      go_enter Tryd.func58, Tryd.ntmps58
      go_wp2_with fail
      go_ret2
      rw [HR.out]
      exact ⟨rfl, (H.out.sets (cm' := cm) [(6, .int .u8 (s.shift * 2 % 256)), (7, .int .i64 (s.count + 1))] { s with shift := s.shift * 2 % 256, count := s.count + 1 } rfl rfl rfl rfl (.inl ⟨rfl, rfl, rfl⟩)).box H.out.tab _⟩
    · have HR := Lib.hid (show s.hear 3 true = { s with shift := bits .or .u8 (s.shift * 2 % 256) 1, count := s.count + 1 } by unfold Chip.hear; rw [if_pos rfl]; congr 1; simp; exact (or_one _ hs0 hs1).symm)
      go_enter Tryd.func58, Tryd.ntmps58
      go_wp2_with fail
      go_ret2
      rw [HR.out]
      exact ⟨rfl, (H.out.sets (cm' := cm) [(6, .int .u8 (s.shift * 2 % 256)), (6, .int .u8 (bits .or .u8 (s.shift * 2 % 256) 1)), (7, .int .i64 (s.count + 1))] { s with shift := bits .or .u8 (s.shift * 2 % 256) 1, count := s.count + 1 } rfl rfl rfl rfl (.inl ⟨rfl, rfl, rfl⟩)).box H.out.tab _⟩
  · by_cases h8 : s.count = 8
    · have hw : s.whole 4 = true := by simp [Chip.whole, h8]
      have HR := Lib.hid (show s.hear 4 line = { s with count := 0 } by simp [Chip.hear, h8])
      have hb : (s.count == 8) = true := by simp [h8]
      clear h8
      rw [hw]
      clear hw
      go_enter Tryd.func58, Tryd.ntmps58
      go_wp2_with fail
      go_ret2
      rw [HR.out]
      exact ⟨rfl, (H.out.sets (cm' := cm) [(7, .int .i64 0)] { s with count := 0 } rfl rfl rfl rfl (.inl ⟨rfl, rfl, rfl⟩)).box H.out.tab _⟩
    · have hw : s.whole 4 = false := by simp [Chip.whole, h8]
      have HR := Lib.hid (show s.hear 4 line = s by simp [Chip.hear, h8])
      have hb : (s.count == 8) = false := by simp [h8]
      clear h8
      rw [hw]
      clear hw
      go_enter Tryd.func58, Tryd.ntmps58
      go_wp2_with fail
      go_ret2
      rw [HR.out]
      exact ⟨rfl, (H.out.sets (cm' := cm) [] s rfl rfl rfl rfl (.inl ⟨rfl, rfl, rfl⟩)).box H.out.tab _⟩
end Go.Proofs.YtfcdlnpfneinlaaDoor
