/-
  THE WALK OF CrcXors.
-/
import Derived.Test.YtdbfmmjncoffnaaDoorRowsAt
import Derived.Test.YtdbfmmjncoffnaaDoorThree
import Derived.Deep.RegionHeld3
import Derived.Deep.AppendLies
namespace Go.Proofs.YtdbfmmjncoffnaaDoor
open Ks Go.RowKit

theorem info5 : (Tryd.prog.info? 5).map (fun i => (i.zero, i.size, i.bytes)) = some (some (.int .u8 0), 1, 1) := by kernel_rfl

/-- where the loop stands behind k rounds -/
def XorAt (w1 : World) (a b c : List Int) (k : Nat) (v : Value) (wr : World) : Prop :=
  wr.ownsRow w1.heap.size 5 1 v k ((xs3 a b c k).map (Value.int .u8)) ∧ Below w1.heap.size w1 wr

theorem own_ne {w : World} {base e size n b : Nat} {v : Value} {xs : List Value} (h : w.ownsRow base e size v n xs) (hb : b < base) : v.ownBlock ≠ some b := by
  rcases h.2 with ⟨rfl, _⟩ | ⟨g, cap, cur, rfl, hg, _⟩
  · simp [Value.ownBlock]
  · simp [Value.ownBlock]; omega
theorem own_bytes {w : World} {base n : Nat} {v : Value} {l : List Int} (h : w.ownsRow base 5 1 v n (l.map (Value.int .u8))) (hv : ∀ v ∈ l, 0 ≤ v ∧ v ≤ 255) : ∃ A cap, v = .slice A n cap ∧ Bytes w w.heap.size A n l := by
  have hl : l.length = n := by have := h.1; simpa using this
  rcases Nat.eq_zero_or_pos n with h0 | hn
  · subst h0
    rcases h.2 with ⟨rfl, _⟩ | ⟨g, cap, cur, rfl, _⟩
    · exact ⟨none, 0, rfl, hl, hv, fun h => absurd h (by omega)⟩
    · exact ⟨_, _, rfl, hl, hv, fun h => absurd h (by omega)⟩
  · obtain ⟨g, cap, rfl, _, hlt⟩ := h.form hn
    refine ⟨_, _, rfl, hl, hv, fun _ => ⟨g, 0, rfl, hlt, fun k hk => ?_⟩⟩
    have := h.cells (g := g) rfl k (.int .u8 (l.getD k 0)) (by simp [List.getD, hl, hk])
    rw [Go.WideShapes.add_plain] at this
    exact this
theorem xorAt_succ {w1 wr w2 : World} {a b c : List Int} {k g cap : Nat} {v : Value} {o : Obj} (h : XorAt w1 a b c k v wr)
    (hown : w2.ownsRow w1.heap.size 5 1 (.slice (some ⟨g, 0, none⟩) (k + 1) cap) (k + 1) ((xs3 a b c k).map (Value.int .u8) ++ [.int .u8 (x3 (a.getD k 0) (b.getD k 0) (c.getD k 0))]))
    (hgrow : ((wr.alloc o).drew).grownBy w2 v.ownBlock) : XorAt w1 a b c (k + 1) (.slice (some ⟨g, 0, none⟩) (k + 1) cap) w2 := by
  obtain ⟨h1, h2⟩ := h
  refine ⟨?_, ?_⟩
  · rw [xs3_succ, List.map_append]; exact hown
  · refine ((h2.alloc h2.size o).drew).grown hgrow (by have := h2.size; simp; omega) ?_
    intro j hj
    rcases h1.2 with ⟨rfl, _⟩ | ⟨g', cap', cur, rfl, hg, _⟩
    · cases hj
    · simp only [Value.ownBlock, Option.some.injEq] at hj; omega

theorem crcXors_walk (w : World) (A1 : Option Addr) (n1 c1 : Nat) (z1 : List Int) (hr1 : IsRow .u8 w A1 n1 c1 z1) (A2 : Option Addr) (n2 c2 : Nat) (z2 : List Int) (hr2 : IsRow .u8 w A2 n2 c2 z2) (A3 : Option Addr) (n3 c3 : Nat) (z3 : List Int) (hr3 : IsRow .u8 w A3 n3 c3 z3) (hT : Tab w) :
    Calls Tryd.prog 8 #[.slice A1 n1 c1, .slice A2 n2 c2, .slice A3 n3 c3] w fun e w' => e = .returned (.bool true) ∧ Below w.heap.size w w' := by
  have HN := Lib.hid hr1.len_le
  have HT := Lib.hid hT
  have HR1 := Lib.hid hr1.bytes
  have HR2 := Lib.hid hr2.bytes
  have HR3 := Lib.hid hr3.bytes
  have hm1 := hr1.len_le.2
  have hm2 := hr2.len_le.2
  have hm3 := hr3.len_le.2
  unfold maxLen at hm1 hm2 hm3
  clear hT hr1 hr2 hr3
  by_cases h100 : (100 : Int) < (n1 : Int)
  · go_enter Tryd.func8, Tryd.ntmps8
    go_wp2_with fail
    refine (awake_any _ HT.out).mono ?_
    rintro e w1 ⟨rfl, hw1⟩
    have HW1 := Lib.hid hw1
    clear hw1
    go_wp2_with fail
    go_ret
    exact ⟨rfl, HW1.out⟩
  by_cases h2 : n2 = n1
  rotate_left
  · have h2b : ((n2 : Int) != (n1 : Int)) = true := by rw [bne_iff_ne]; omega
    go_enter Tryd.func8, Tryd.ntmps8
    go_wp2_with fail
    refine (awake_any _ HT.out).mono ?_
    rintro e w1 ⟨rfl, hw1⟩
    have HW1 := Lib.hid hw1
    clear hw1
    go_wp2_with fail
    go_ret
    exact ⟨rfl, HW1.out⟩
  by_cases h3 : n3 = n1
  rotate_left
  · have h3b : ((n3 : Int) != (n1 : Int)) = true := by rw [bne_iff_ne]; omega
    have h2b : ((n2 : Int) != (n1 : Int)) = false := by rw [bne_eq_false_iff_eq]; omega
    clear h2 
    go_enter Tryd.func8, Tryd.ntmps8
    go_wp2_with fail
    refine (awake_any _ HT.out).mono ?_
    rintro e w1 ⟨rfl, hw1⟩
    have HW1 := Lib.hid hw1
    clear hw1
    go_wp2_with fail
    go_ret
    exact ⟨rfl, HW1.out⟩
  obtain rfl : n1 = n2 := h2.symm
  obtain rfl : n1 = n3 := h3.symm
  have hd : decide ((100 : Int) < (n1 : Int)) = false := by simp; omega
  obtain ⟨i0, hi, hz0, hz1, hz2⟩ := info_parts info5
  go_enter Tryd.func8, Tryd.ntmps8
  go_wp2_with fail
  refine (awake_any _ HT.out).mono ?_
  rintro e w1 ⟨rfl, hw1⟩
  have HY1 := Lib.hid (bytes_below HR1.out hw1)
  have HY2 := Lib.hid (bytes_below HR2.out hw1)
  have HY3 := Lib.hid (bytes_below HR3.out hw1)
  have HS1 := Lib.hid hw1.size
  have HW1 := Lib.hid hw1
  clear hw1 HR1 HR2 HR3
  obtain ⟨a, hea⟩ : ∃ l, z1.take n1 = l := ⟨_, rfl⟩
  obtain ⟨b, heb⟩ : ∃ l, z2.take n1 = l := ⟨_, rfl⟩
  obtain ⟨c, hec⟩ : ∃ l, z3.take n1 = l := ⟨_, rfl⟩
  rw [hea] at HY1
  rw [heb] at HY2
  rw [hec] at HY3
  clear hea heb hec
  go_wp2_with fail
  go_loopw [8, 9] (fun v i wr => ∃ k : Nat, k ≤ n1 ∧ i = .int .i64 k ∧ XorAt w1 a b c k v wr) (fun _ i _ => n1 - (intOf i).toNat)
  case atStart => exact ⟨0, Nat.zero_le _, rfl, World.ownsRow_nil _ _ _ _, Below.refl _ _⟩
  case round =>
    obtain ⟨k, hk, rfl, hat⟩ := hrel
    have HAT := Lib.hid hat
    clear hat
    by_cases hlt : k < n1
    · obtain ⟨b1, o1, rfl, hb1, hc1⟩ := HY1.out.2.2 (by omega)
      obtain ⟨b2, o2, rfl, hb2, hc2⟩ := HY2.out.2.2 (by omega)
      obtain ⟨b3, o3, rfl, hb3, hc3⟩ := HY3.out.2.2 (by omega)
      have hv1 : wr.cell? ⟨b1, o1 + k, none⟩ = some (.int .u8 (a.getD k 0)) := ((HAT.out.2.cell (p := ⟨b1, o1 + k, none⟩) (Nat.lt_of_lt_of_le hb1 HS1.out)).trans (hc1 k hlt))
      have hv2 : wr.cell? ⟨b2, o2 + k, none⟩ = some (.int .u8 (b.getD k 0)) := ((HAT.out.2.cell (p := ⟨b2, o2 + k, none⟩) (Nat.lt_of_lt_of_le hb2 HS1.out)).trans (hc2 k hlt))
      have hv3 : wr.cell? ⟨b3, o3 + k, none⟩ = some (.int .u8 (c.getD k 0)) := ((HAT.out.2.cell (p := ⟨b3, o3 + k, none⟩) (Nat.lt_of_lt_of_le hb3 HS1.out)).trans (hc3 k hlt))
      generalize hea : a.getD k 0 = ak at *
      generalize heb : b.getD k 0 = bk at *
      generalize hec : c.getD k 0 = ck at *
      have HEA := Lib.hid hea
      have HEB := Lib.hid heb
      have HEC := Lib.hid hec
      clear hc1 hc2 hc3 hea heb hec
      go_wp2_with fail
      have hn1 := own_ne HAT.out.1 (Nat.lt_of_lt_of_le hb1 HS1.out)
      have hn2 := own_ne HAT.out.1 (Nat.lt_of_lt_of_le hb2 HS1.out)
      have hn3 := own_ne HAT.out.1 (Nat.lt_of_lt_of_le hb3 HS1.out)
      have l1 : b1 < wr.heap.size := World.block_lt_of_cell? wr _ hv1
      have l2 : b2 < wr.heap.size := World.block_lt_of_cell? wr _ hv2
      have l3 : b3 < wr.heap.size := World.block_lt_of_cell? wr _ hv3
      have hk0 : (0 : Int) ≤ (k : Int) := by omega
      have hk1 : (k : Int) < (n1 : Int) := by omega
      go_region_held3 (fun w' => w'.cell? ⟨b1, o1 + k, none⟩ = some (.int .u8 ak) ∧ w'.cell? ⟨b2, o2 + k, none⟩ = some (.int .u8 bk) ∧ w'.cell? ⟨b3, o3 + k, none⟩ = some (.int .u8 ck))
        (first
          | go_keep
          | (go_split_ands
             refine ⟨?_, ?_, ?_⟩
             · (rw [hgrow.cell_far _ (by simp; omega) (Ne.symm hn1)]; assumption)
             · (rw [hgrow.cell_far _ (by simp; omega) (Ne.symm hn2)]; assumption)
             · (rw [hgrow.cell_far _ (by simp; omega) (Ne.symm hn3)]; assumption)))
        ((refine step_append_lies _ (by rfl) _ _ _ (by rfl) w1.heap.size 5 i0 _ 1 1 Tryd.underlying22 hi hz0 hz1 hz2 rfl (by omega) _ k ((xs3 a b c k).map (Value.int .u8)) (by rfl) ((HAT.out.1.alloc _).drew)
            ⟨wr.heap.size, 0, none⟩ 1 1 [.int .u8 (x3 ak bk ck)] (by rfl) (by rfl) (World.news_of_block (cs := #[.int .u8 (x3 ak bk ck)]) (t := 5) (fr := (0, 0)) (heap_alloc_new wr _)) (by simp [Value.oneCell'])
            (by omega) (by unfold maxLen; omega) (by omega) (by have := HAT.out.2.size; simp; omega) (wr.heap.size + 1) (by simp) ?_; intro g cap w2 hown2 hgrow hat hlt2))
      have R := Lib.hid (xorAt_succ (a := a) (b := b) (c := c) HAT.out (by rw [HEA.out, HEB.out, HEC.out]; exact hown2) hgrow)
      clear hown2 hgrow hat hv1 hv2 hv3 hn1 hn2 hn3 HAT
      go_wp2_with fail
      go_roundw
      case rel => exact ⟨k + 1, by omega, by go_num, R.out⟩
      case measure => simp [intOf]; omega
    · obtain rfl : k = n1 := by omega
      obtain ⟨hd1, hd2⟩ := xors a b c k HY1.out.1 HY2.out.1 HY3.out.1 HY1.out.2.1 HY2.out.2.1 HY3.out.2.1
      obtain ⟨Ad, cp, rfl, hyd⟩ := own_bytes HAT.out.1 hd1
      have HYD := Lib.hid hyd
      have HS := Lib.hid hd2
      have HT2 := Lib.hid (tab_below (tab_below HT.out HW1.out (tab_pos HT.out)) HAT.out.2 (Nat.lt_of_lt_of_le (tab_pos HT.out) HS1.out))
      have HZ1 := Lib.hid (bytes_below HY1.out (HAT.out.2.mono HS1.out))
      have HZ2 := Lib.hid (bytes_below HY2.out (HAT.out.2.mono HS1.out))
      have HZ3 := Lib.hid (bytes_below HY3.out (HAT.out.2.mono HS1.out))
      have HB := Lib.hid (HW1.out.trans (HAT.out.2.mono HS1.out))
      clear hd1 hd2 hyd HAT HY1 HY2 HY3
      go_wp2_with fail
      refine (sum_any _ _ _ _ _ _ HT2.out HN.out.2 HYD.out).mono ?_
      rintro e w' ⟨rfl, rfl⟩
      go_wp2_with fail
      refine (sum_any _ _ _ _ _ _ HT2.out HN.out.2 HZ1.out).mono ?_
      rintro e w' ⟨rfl, rfl⟩
      go_wp2_with fail
      refine (sum_any _ _ _ _ _ _ HT2.out HN.out.2 HZ2.out).mono ?_
      rintro e w' ⟨rfl, rfl⟩
      go_wp2_with fail
      refine (sum_any _ _ _ _ _ _ HT2.out HN.out.2 HZ3.out).mono ?_
      rintro e w' ⟨rfl, rfl⟩
      go_wp2_with fail
      go_ret
      exact ⟨ret_bool (by rw [HS.out, xor_U, xor_U]; exact beq_self_eq_true _), HB.out⟩
end Go.Proofs.YtdbfmmjncoffnaaDoor
