/-
  THE WALKS OF keepsakeref01.Bits, Sum.
-/
import Derived.Test.YtdafmjklkggbgaaDoorLeft
import Derived.Test.YtdafmjklkggbgaaDoorZeros
import Derived.Test.YtdafmjklkggbgaaDoorSame
namespace Go.Proofs.YtdafmjklkggbgaaDoor
open Ks Go.RowKit

theorem info4 : (Tryd.prog.info? 4).map (fun i => (i.zero, i.size, i.bytes)) = some (some (.bool false), 1, 1) := by kernel_rfl
/-- a text's first m bits -/
def bitsT (l : List Int) (m : Nat) : List Bool := (List.range m).map (bitOf l)
theorem bitsT_succ (l : List Int) (m : Nat) : bitsT l (m + 1) = bitsT l m ++ [bitOf l m] := by
  unfold bitsT; rw [List.range_succ, List.map_append]; rfl
theorem testBit_int (v : Int) (hv : 0 ≤ v) (k : Nat) : (v / 2 ^ k % 2 == 1) = v.toNat.testBit k := by
  obtain ⟨n, rfl⟩ := Int.eq_ofNat_of_zero_le hv
  rw [Int.toNat_natCast, Nat.testBit_eq_decide_div_mod_eq]
  have e : (n : Int) / 2 ^ k % 2 = ((n / 2 ^ k % 2 : Nat) : Int) := by simp
  rw [e, Bool.eq_iff_iff]
  simp only [beq_iff_eq, decide_eq_true_eq]
  omega
theorem halve_int (v : Int) (k : Nat) : v / 2 ^ k / 2 = v / 2 ^ (k + 1) := by
  rw [Int.pow_succ, Int.ediv_ediv_of_nonneg (by exact Int.pow_nonneg (by decide))]
def BitsAt (w : World) (l : List Int) (m : Nat) (v : Value) (wr : World) : Prop :=
  wr.ownsRow w.heap.size 4 1 v m ((bitsT l m).map Value.bool) ∧ Below w.heap.size w wr
theorem bitsAt_succ {w wr w2 : World} {l : List Int} {m g cap : Nat} {v : Value} {o : Obj} (h : BitsAt w l m v wr)
    (hown : w2.ownsRow w.heap.size 4 1 (.slice (some ⟨g, 0, none⟩) (m + 1) cap) (m + 1) ((bitsT l m).map Value.bool ++ [.bool (bitOf l m)]))
    (hgrow : (wr.alloc o).grownBy w2 v.ownBlock) : BitsAt w l (m + 1) (.slice (some ⟨g, 0, none⟩) (m + 1) cap) w2 := by
  obtain ⟨h1, h2⟩ := h
  refine ⟨?_, ?_⟩
  · rw [bitsT_succ, List.map_append]; exact hown
  · refine (h2.alloc h2.size o).grown hgrow (by have := h2.size; simp; omega) ?_
    intro j hj
    exact (h1.lt j hj).1
def BitsPost (w : World) (l : List Int) (m : Nat) (e : Ending) (w' : World) : Prop := ∃ v, e = .returned v ∧ BitsAt w l m v w'

theorem bits_any (A : Option Addr) (n c : Nat) (l : List Int) (w : World) (hn : n ≤ 1000) (hl : Bytes w w.heap.size A n l) :
    Calls Tryd.prog 38 #[.slice A n c] w (BitsPost w l (8 * n)) := by
  obtain ⟨i0, hi, hz0, hz1, hz2⟩ := info_parts info4
  have HL := Lib.hid hl
  clear hl
  go_enter Tryd.func38, Tryd.ntmps38
  go_wp2_with fail
  go_loopw [3, 4] (fun v s wr => ∃ i : Nat, i ≤ n ∧ s = .int .i64 i ∧ BitsAt w l (8 * i) v wr) (fun _ s _ => n - (intOf s).toNat)
  case atStart => exact ⟨0, Nat.zero_le _, rfl, World.ownsRow_nil _ _ _ _, Below.refl _ _⟩
  case round =>
    obtain ⟨i, hin, rfl, hat⟩ := hrel
    have HAT := Lib.hid hat
    clear hat
    by_cases hlt : i < n
    · obtain ⟨b, o, rfl, hc⟩ := bytes_cell HL.out HAT.out.2 i hlt
      have hv := HL.out.2.1 (l.getD i 0) (by simp [List.getD, HL.out.1, hlt])
      have HBO := Lib.hid (show ∀ k, k < 8 → bitOf l (8 * i + k) = (l.getD i 0).toNat.testBit k from fun k hk => by
        unfold bitOf; rw [show (8 * i + k) / 8 = i by omega, show (8 * i + k) % 8 = k by omega])
      generalize l.getD i 0 = x at *
      obtain ⟨hx0, hx1⟩ := hv
      go_wp2_with fail
      clear hc
      go_loopw [3, 5, 6] (fun v y s wr => ∃ k : Nat, k ≤ 8 ∧ s = .int .i64 k ∧ y = .int .i64 (x / 2 ^ k) ∧ BitsAt w l (8 * i + k) v wr) (fun _ _ s _ => 8 - (intOf s).toNat)
      case atStart => exact ⟨0, by omega, rfl, by simp, HAT.out⟩
      case round =>
        obtain ⟨k, hk8, rfl, rfl, hat2⟩ := hrel
        have HAT2 := Lib.hid hat2
        clear hat2 HAT
        by_cases hk : k < 8
        · have hm2 := testBit_int x hx0 k
          rw [← HBO.out k hk] at hm2
          have HH := Lib.hid (halve_int x k)
          have hy0 : 0 ≤ x / 2 ^ k := Int.ediv_nonneg hx0 (Int.pow_nonneg (by decide))
          have hy1 : x / 2 ^ k ≤ 255 := Int.le_trans (Int.ediv_le_self _ hx0) hx1
          generalize x / 2 ^ k = y at *
          generalize hbb : bitOf l (8 * i + k) = bb at *
          have HBB := Lib.hid hbb
          clear hbb
          have HNW := Lib.hid (World.news_of_block (cs := #[.bool bb]) (t := 4) (fr := (0, 0)) (heap_alloc_new wr _))
          go_wp2_with (at_builtin; refine wpList_append_lies _ rfl _ _ _ rfl w.heap.size 4 i0 _ 1 1 Tryd.underlying55 hi hz0 hz1 hz2 rfl (by omega) _ (8 * i + k) ((bitsT l (8 * i + k)).map Value.bool) rfl (HAT2.out.1.alloc _) ⟨wr.heap.size, 0, none⟩ 1 1 [.bool bb] rfl rfl HNW.out (by simp [Value.oneCell']) (by omega) (by unfold maxLen; omega) (by omega) (by have := HAT2.out.2.size; simp; omega) (wr.heap.size + 1) (by simp) ?_; intro g cap w2 hown2 hgrow hat2 hlt2)
          have R := Lib.hid (bitsAt_succ HAT2.out (by rw [HBB.out]; exact hown2) hgrow)
          clear hown2 hgrow hat2 hlt2 HAT2
          go_roundw
          case rel => exact ⟨k + 1, by omega, by go_num, by rw [HH.out], R.out⟩
          case measure => simp [intOf]; omega
        · obtain rfl : k = 8 := by omega
          go_wp2_with fail
          go_roundw
          case rel => exact ⟨i + 1, by omega, by go_num, HAT2.out⟩
          case measure => simp [intOf]; omega
    · obtain rfl : i = n := by omega
      go_wp2_with fail
      go_ret
      exact ⟨_, rfl, HAT.out⟩

/-- some bits in a row are turned over -/
def Turned (o k : Nat) (c c' : List Bool) : Prop := c'.length = c.length ∧ ∀ j, bl c' j = (bl c j ^^ (decide (o ≤ j) && decide (j < o + k)))
theorem turned_zero (o : Nat) (c : List Bool) : Turned o 0 c c := ⟨rfl, fun j => by
  by_cases h : o ≤ j
  · have : decide (j < o + 0) = false := by simp; omega
    rw [this, Bool.and_false, Bool.xor_false]
  · simp [h]⟩
theorem turned_succ {o k : Nat} {c c' : List Bool} (h : Turned o k c c') (hk : o + k < c.length) : Turned o (k + 1) c (c'.set (o + k) (!(bl c' (o + k)))) := by
  refine ⟨by simp [h.1], fun j => ?_⟩
  rw [bl_set _ _ (by have := h.1; omega), h.2 (o + k)]
  by_cases e : j = o + k
  · subst e
    rw [if_pos rfl]
    have a2 : decide (o + k < o + k) = false := by simp
    have a3 : decide (o + k < o + (k + 1)) = true := by simp
    have a4 : decide (o ≤ o + k) = true := by simp
    rw [a2, a3, a4]; simp
  · rw [if_neg e, h.2 j]
    have : decide (j < o + (k + 1)) = decide (j < o + k) := by simp; omega
    rw [this]
theorem sum_end (l : List Int) (n : Nat) (hl : l.length = n) (hv : ∀ v ∈ l, 0 ≤ v ∧ v ≤ 255) (c d r : List Bool) (hc : Turned 0 32 (bitsT l (8 * n) ++ List.replicate 32 false) c) (hd : DivAt c (8 * n) d) (hr : Turned (8 * n) 32 d r) :
    win (bl r) (8 * n) = more 0#32 (l.map Bv) := by
  have hb : ∀ j, bl (bitsT l (8 * n) ++ List.replicate 32 false) j = if j < 8 * n then bitOf l j else false := by
    intro j
    unfold bl
    rw [List.getD, List.getElem?_append]
    by_cases hj : j < 8 * n
    · simp [bitsT, hj]
    · simp only [bitsT, List.length_map, List.length_range, hj, if_false, List.getElem?_replicate]
      split <;> rfl
  have h1 : win (bl r) (8 * n) = ~~~ win (bl d) (8 * n) := not_win _ _ _ (fun t ht => by
    rw [hr.2]
    have a1 : decide (8 * n ≤ 8 * n + t) = true := by simp
    have a2 : decide (8 * n + t < 8 * n + 32) = true := by simp; omega
    rw [a1, a2]; simp)
  have h2 : Sf (bl c) (8 * n) = Xn (8 * n) (~~~ 0#32) ^^^ GF (8 * n) (bl (bitsT l (8 * n) ++ List.replicate 32 false)) := Sf_text _ _ _ (fun j hj => by rw [hb, if_neg (by omega)]) (fun j => by rw [hc.2 j]; simp)
  have h3 : GF (8 * n) (bl (bitsT l (8 * n) ++ List.replicate 32 false)) = GF (8 * n) (bitOf l) := GF_congr fun j hj => by rw [hb, if_pos hj]
  have h4 : Ks.run (~~~ 0#32) (l.map Bv) = Xn (8 * n) (~~~ 0#32) ^^^ Ks.run 0#32 (l.map Bv) := by
    have := run_split (~~~ 0#32) 0#32 (l.map Bv)
    rwa [BitVec.xor_zero, List.length_map, hl] at this
  rw [h1, hd.2.1, h2, h3]
  unfold more
  rw [h4, run_all l hv, hl]

/-- where the first loop of Sum stands -/
def SumAt (w : World) (g N cap : Nat) (c : List Bool) (wr : World) : Prop :=
  wr.ownsRow w.heap.size 4 1 (.slice (some ⟨g, 0, none⟩) N cap) N (c.map Value.bool) ∧ Below w.heap.size w wr
theorem sumAt_set {w wr : World} {g N cap : Nat} {c : List Bool} (h : SumAt w g N cap c wr) (q : Nat) (b : Bool) : SumAt w g N cap (c.set q b) (wr.setCell ⟨g, q, none⟩ (.bool b)) := by
  obtain ⟨h1, h2⟩ := h
  refine ⟨?_, h2.setCell (p := ⟨g, q, none⟩) (h1.lt g rfl).1 _⟩
  rw [List.map_set]; exact own_set' h1

theorem refSum_any (A : Option Addr) (n c : Nat) (l : List Int) (w : World) (hn : n ≤ 1000) (hl : Bytes w w.heap.size A n l) :
    Calls Tryd.prog 25 #[.slice A n c] w fun e w' => e = .returned (.int .u32 (U (more 0#32 (l.map Bv)))) ∧ Below w.heap.size w w' := by
  obtain ⟨i0, hi, hz0, hz1, hz2⟩ := info_parts info4
  have HL := Lib.hid hl
  clear hl
  go_enter Tryd.func25, Tryd.ntmps25
  go_wp2_with fail
  refine (bits_any A n c l w hn HL.out).mono ?_
  rintro e w1 ⟨v, rfl, hat⟩
  obtain ⟨v', w2, hr, hown2, hgrow⟩ := zeros_own (P := Tryd.prog) w1 w.heap.size 55 3 55 4 i0 (.bool false) .i64 .i64 Tryd.underlying55 Tryd.underlying3 hi hz0 hz1 hz2 rfl rfl _ _ _ hat.1 32 (by unfold maxLen; omega) (by omega) hat.2.size
  obtain ⟨g, cap, rfl, _, _⟩ := hown2.form (by omega)
  have hcap : 8 * n + 32 ≤ cap := by
    rcases hown2.2 with ⟨hh, _⟩ | ⟨g', cap', cur, hh, _, _, h4, _⟩
    · cases hh
    · cases hh; exact h4
  have HO := Lib.hid (show SumAt w g (8 * n + 32) cap (bitsT l (8 * n) ++ List.replicate 32 false) w2 from ⟨by rw [List.map_append, List.map_replicate]; exact hown2, hat.2.grown hgrow hat.2.size (fun j hj => (hat.1.lt j hj).1)⟩)
  have HLB := Lib.hid (show (bitsT l (8 * n) ++ List.replicate 32 false).length = 8 * n + 32 by simp [bitsT])
  have HR := Lib.hid hr
  clear hr hown2 hgrow hat
  go_wp2_with (at_builtin; refine Lib.wpList_append_run _ rfl _ _ _ _ rfl _ _ rfl rfl _ _ HR.out ?_)
  generalize hl0 : bitsT l (8 * n) ++ List.replicate 32 false = l0 at *
  have HL0 := Lib.hid hl0
  clear hl0 HR
  go_loopw [4] (fun s wr => ∃ (k : Nat) (d : List Bool), k ≤ 32 ∧ s = .int .i64 k ∧ SumAt w g (8 * n + 32) cap d wr ∧ Turned 0 k l0 d) (fun s _ => 32 - (intOf s).toNat)
  case atStart => exact ⟨0, l0, by omega, rfl, HO.out, turned_zero 0 l0⟩
  case round =>
    obtain ⟨k, d, hk, rfl, hat, htu⟩ := hrel
    have HAT := Lib.hid hat
    have HTU := Lib.hid htu
    clear hat htu HO
    by_cases hlt : k < 32
    · obtain ⟨hcq, hcf⟩ := own_bool HAT.out.1 k (by omega)
      have HN := Lib.hid (turned_succ HTU.out (by rw [HLB.out]; omega))
      rw [Nat.zero_add] at HN
      generalize bl d k = bd at *
      have hk0 : (0 : Int) ≤ (k : Int) := by omega
      have hk1 : (k : Int) < ((8 * n + 32 : Nat) : Int) := by omega
      go_wp2_with fail
      go_roundw
      case rel => exact ⟨k + 1, _, by omega, by go_num, sumAt_set HAT.out k (!bd), HN.out⟩
      case measure => simp [intOf]; omega
    · obtain rfl : k = 32 := by omega
      go_wp2_with fail
      refine (left_any wr w.heap.size g (8 * n + 32) cap d HAT.out.1 (by omega) (by omega)).mono ?_
      rintro e w3 ⟨d2, rfl, hl3, hd3⟩
      rw [show 8 * n + 32 - 32 = 8 * n by omega] at hd3
      rw [show 8 * n + 32 - 32 = 8 * n by omega]
      have HB := Lib.hid HAT.out.2
      have HG := Lib.hid (HAT.out.1.lt g rfl).1
      have HD := Lib.hid hd3
      have HDL := Lib.hid (show d2.length = 8 * n + 32 by rw [hd3.1, HTU.out.1, HLB.out])
      have HO3 := Lib.hid (show SumAt w g (8 * n + 32) cap d2 w3 from ⟨hl3.1, HB.out.grown hl3.2.1 HB.out.size (fun j hj => by cases hj; exact HG.out)⟩)
      clear hl3 hd3 HAT
      go_wp2_with fail
      go_loopw [6] (fun s wr => ∃ (k : Nat) (r : List Bool), k ≤ 32 ∧ s = .int .i64 k ∧ SumAt w g (8 * n + 32) cap r wr ∧ Turned (8 * n) k d2 r) (fun s _ => 32 - (intOf s).toNat)
      case atStart => exact ⟨0, d2, by omega, rfl, HO3.out, turned_zero _ d2⟩
      case round =>
        obtain ⟨k, r, hk, rfl, hat, htu⟩ := hrel
        have HAT := Lib.hid hat
        have HTU2 := Lib.hid htu
        clear hat htu HO3
        by_cases hlt : k < 32
        · obtain ⟨hcq, hcf⟩ := own_bool HAT.out.1 (8 * n + k) (by omega)
          have HN := Lib.hid (turned_succ HTU2.out (by rw [HDL.out]; omega))
          generalize bl r (8 * n + k) = bd at *
          have hk0 : (0 : Int) ≤ (k : Int) := by omega
          have hk1 : (k : Int) < 32 := by omega
          go_wp2_with fail
          go_roundw
          case rel => exact ⟨k + 1, _, by omega, by go_num, sumAt_set HAT.out (8 * n + k) (!bd), HN.out⟩
          case measure => simp [intOf]; omega
        · obtain rfl : k = 32 := by omega
          have HE := Lib.hid (sum_end l n HL.out.1 HL.out.2.1 d d2 r (by rw [HL0.out]; exact HTU.out) HD.out HTU2.out)
          go_wp2_with fail
          refine (word_any g (8 * n) _ (bl r) wr (fun j hj => (own_bool HAT.out.1 (8 * n + j) (by omega)).1)).mono ?_
          rintro e w' ⟨rfl, rfl⟩
          go_wp2_with fail
          go_ret
          exact ⟨ret_int (by rw [HE.out]), HAT.out.2⟩
end Go.Proofs.YtdafmjklkggbgaaDoor
