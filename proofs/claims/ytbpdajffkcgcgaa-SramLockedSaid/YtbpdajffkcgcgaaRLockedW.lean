/-
  THE WALK OF SramLocked.
-/
import Derived.Test.YtbpdajffkcgcgaaRAwake
import Derived.Test.YtbpdajffkcgcgaaRRef
import Derived.Test.YtbpdajffkcgcgaaBSame
import Derived.Deep.RegionHeld3
import Derived.IntWalk
namespace Go.Proofs.Ytbpdajffkcgcgaa
open Go.RowKit
set_option maxRecDepth 20000

set_option maxRecDepth 100000 in
set_option maxHeartbeats 4000000 in
theorem sramLocked_walk (w : World) (a : Int) (wa : (Lit.int .u8 a).wf = true) (A1 : Option Addr) (n1 c1 : Nat) (z1 : List Int) (r1 : IsRow .u8 w A1 n1 c1 z1) (A2 : Option Addr) (n2 c2 : Nat) (l : List Opn) (r2 : Many opE w w.heap.size A2 n2 l ∧ n2 ≤ c2 ∧ n2 ≤ maxLen) (A3 : Option Addr) (n3 c3 : Nat) (m : List Opn) (r3 : Many opE w w.heap.size A3 n3 m ∧ n3 ≤ c3 ∧ n3 ≤ maxLen) (v : Int) (wv : (Lit.int .u8 v).wf = true) :
    Calls Try.prog 5 #[.int .u8 a, .slice A1 n1 c1, .slice A2 n2 c2, .slice A3 n3 c3, .int .u8 v] w fun e w' => e = .returned (.bool true) ∧ Below w.heap.size w w' := by
  have ha : 0 ≤ a ∧ a ≤ 255 := by simpa [Lit.wf, IntKind.min, IntKind.max, IntKind.signed, IntKind.bits] using wa
  have HN1 := Lib.hid r1.nums
  have hm1 := r1.len_le.2
  unfold maxLen at hm1
  obtain ⟨ha0, ha1⟩ := ha
  clear r1 wa
  obtain ⟨b, hl1⟩ : ∃ l, z1.take n1 = l := ⟨_, rfl⟩
  rw [hl1] at HN1
  clear hl1
  obtain ⟨k, hkr⟩ : ∃ k : Nat, 1 + a % 4 = (k : Int) := ⟨(1 + a % 4).toNat, by omega⟩
  have hk1 : 1 ≤ k := by omega
  have hk4 : k ≤ 4 := by omega
  have HK := Lib.hid (show 1 ≤ k ∧ k ≤ 128 by omega)
  obtain ⟨z, hz⟩ : ∃ z : Nat, 64 * k = z := ⟨_, rfl⟩
  have hzr : 64 * (k : Int) = (z : Int) := by omega
  have hz0 : 64 ≤ z := by omega
  have hz1 : z ≤ 256 := by omega
  have HZ := Lib.hid hz
  have HO0 := Lib.hid (show (made k b).Ok from made_ok HK.out HN1.out.byte)
  have HZL := Lib.hid (show (made k b).data.length = z by rw [← hz]; exact fillL_len _ _)
  have HFD := Lib.hid (show (made k b).data = fillL b z by rw [← hz]; rfl)
  have HOP0 := Lib.hid (show (made k b).op = false from rfl)
  obtain ⟨s0, hs0⟩ : ∃ s, made k b = s := ⟨_, rfl⟩
  have HS0 := Lib.hid hs0
  rw [hs0] at HO0 HZL HOP0 HFD
  clear hs0 hz
  have HL2 := Lib.hid r2.1
  have HLL2 := Lib.hid r2.1.1
  have hm2 := r2.2.2
  have hc2 := r2.2.1
  have HOF2 := Lib.hid (show ∀ p d : Nat, w.heap.size ≤ p → w.heap.size ≤ d → Off (Its p d) A2 n2 from fun p d hp hd => Off.below HL2.out hp hd)
  unfold maxLen at hm2
  clear r2
  have HL3 := Lib.hid r3.1
  have HLL3 := Lib.hid r3.1.1
  have hm3 := r3.2.2
  have hc3 := r3.2.1
  have HOF3 := Lib.hid (show ∀ p d : Nat, w.heap.size ≤ p → w.heap.size ≤ d → Off (Its p d) A3 n3 from fun p d hp hd => Off.below HL3.out hp hd)
  unfold maxLen at hm3
  clear r3
  have hv : 0 ≤ v ∧ v ≤ 255 := by simpa [Lit.wf, IntKind.min, IntKind.max, IntKind.signed, IntKind.bits] using wv
  obtain ⟨hv0, hv1⟩ := hv
  clear wv
  by_cases hb0 : n1 ≤ 40
  · have hb0' : decide (40 < (n1 : Int)) = false := decide_eq_false (by omega)
    by_cases hb1 : n2 ≤ 60
    · have hb1' : decide (60 < (n2 : Int)) = false := decide_eq_false (by omega)
      by_cases hb2 : n3 ≤ 60
      · have hb2' : decide (60 < (n3 : Int)) = false := decide_eq_false (by omega)
        by_cases hv165 : v = 165
        · have hv' : (v == 165) = true := by simp [hv165]
          go_enter Try.func5, Try.ntmps5
          go_wp2_with fail
          refine (awake_any w).mono ?_
          rintro e w1 ⟨rfl, hb⟩
          have HB1 := Lib.hid hb
          clear hb
          go_wp2_with fail
          go_ret
          exact ⟨rfl, HB1.out⟩
        have hv' : (v == 165) = false := by simp [hv165]
        go_enter Try.func5, Try.ntmps5
        go_wp2_with fail
        refine (awake_any w).mono ?_
        rintro e w1 ⟨rfl, hb⟩
        have HB1 := Lib.hid hb
        clear hb
        go_wp2_with fail
        refine (made_any k A1 n1 c1 w.heap.size b w1 (HN1.out.below HB1.out) HB1.out.size (by omega) HK.out).mono ?_
        rintro e w2 ⟨v', rfl, p, d, cap, rfl, hc, hp, hd, hb⟩
        rw [HS0.out] at hc
        have HC := Lib.hid hc
        have HP := Lib.hid (show w.heap.size ≤ p by have := HB1.out.size; omega)
        have HD := Lib.hid (show w.heap.size ≤ d by have := HB1.out.size; omega)
        have HB2 := Lib.hid (HB1.out.trans (hb.mono HB1.out.size))
        have HLT := Lib.hid hc.lt
        clear hc hp hd hb
        go_wp2_with fail
        refine (do_any w2 p d cap s0 A2 n2 c2 w.heap.size l HC.out HO0.out (HL2.out.below HB2.out) HB2.out.size (HOF2.out p d HP.out HD.out) (by unfold maxLen; omega)).mono ?_
        rintro e w3 ⟨rfl, hz⟩
        have Z1 := Lib.hid hz
        have HO1 := Lib.hid (plays_ok l HO0.out)
        clear hz
        go_wp2_with fail
        refine (latch_any w3 p d cap _ v Z1.out.1).mono ?_
        rintro e w4 ⟨rfl, hz⟩
        have Z2 := Lib.hid (Z1.out.then_ hz)
        have HO2 := Lib.hid (HO1.out.latch v)
        have HOP := Lib.hid (show ((s0.plays l).latch v).op = false from hv')
        have HZ2 := Lib.hid (show ((s0.plays l).latch v).data.length = z from (plays_len s0 l).trans HZL.out)
        clear hz
        generalize (s0.plays l).latch v = s2 at *
        have HW := Lib.hid (show ∀ x y, s2.write x y = s2 from fun x y => if_neg (by rw [HOP.out]; decide))
        go_wp2_with fail
        refine (bytes_new w4 p d cap s2 Z2.out.1 HO2.out).mono ?_
        rintro e w5 ⟨g, cg, rfl, hg1, hg2, hv, hb⟩
        have HG := Lib.hid (show p < g ∧ d < g by have := Z2.out.1.lt; omega)
        have HW5 := Lib.hid (hv.nums_at fun x hx => byte_wf (HO2.out.byte x hx)).1
        have Z3 := Lib.hid (Z2.out.calm hb)
        have Z4 := Lib.hid Z3.out.1.went
        rw [HZ2.out] at HW5 ⊢
        clear hg1 hg2 hv hb
        go_wp2_with fail
        go_loopw [15] (fun i wr => ∃ t : Nat, t ≤ n3 ∧ i = .int .i64 t ∧ Went p d cap s2 w5 wr) (fun i _ => n3 - (intOf i).toNat)
        case atStart => exact ⟨0, Nat.zero_le _, rfl, Z4.out⟩
        case round =>
          obtain ⟨t, ht, rfl, hz⟩ := hrel
          have Z := Lib.hid hz
          clear hz
          by_cases hlt : t < n3
          · obtain ⟨x, hx⟩ : ∃ x, m[t]? = some x := ⟨m[t]'(by have := HLL3.out; omega), by simp [show t < m.length by have := HLL3.out; omega]⟩
            obtain ⟨bb, oo, rfl, hc⟩ := ((HL3.out.below HB2.out).off (Z3.out.2.trans Z.out.2) HB2.out.size (HOF3.out p d HP.out HD.out)).cell (Below.refl _ wr) t x hx
            have c0 := hc 1 _ rfl
            have c1 := hc 2 _ rfl
            simp only [opE] at c0 c1
            have Zd := Lib.hid Z.out.drew
            have ht1 : (t : Int) < (n3 : Int) := by omega
            have ht0 : (0 : Int) ≤ (t : Int) := by omega
            clear hc hx
            generalize x.a = xa at *
            generalize x.v = xv at *
            go_wp2_with fail
            go_region_with (go_at_call 13; refine (write_any _ p d cap s2 xa xv Zd.out.1 HO2.out).mono ?_; rintro e' w6 ⟨rfl, hz⟩; rw [HOP.out]; rw [HW.out] at hz)
            all_goals
              have Ze := Lib.hid (Zd.out.then_ hz)
              clear hz c0 c1
              go_wp2_with fail
              go_roundw
              case rel => exact ⟨t + 1, by omega, by go_num, Ze.out⟩
              case measure => simp [intOf]; omega
          · obtain rfl : t = n3 := by omega
            go_wp2_with fail
            refine (locked_any wr p d cap s2 Z.out.1).mono ?_
            rintro e w7 ⟨rfl, rfl⟩
            rw [HOP.out]
            go_wp2_with fail
            refine (bytes_new wr p d cap s2 Z.out.1 HO2.out).mono ?_
            rintro e w7 ⟨g', cg', rfl, hg1, hg2, hv, hb⟩
            have HW7 := Lib.hid (hv.nums_at fun x hx => byte_wf (HO2.out.byte x hx)).1
            have Z7 := Lib.hid (Z.out.calm hb)
            rw [HZ2.out] at HW7 ⊢
            clear hg1 hg2 hv hb
            go_wp2_with fail
            refine (same_refl _ (some ⟨g, 0, none⟩) z cg' cg w7.heap.size s2.data w7 (by unfold maxLen; omega) HW7.out ((HW5.out.off Z7.out.2 (Nat.le_refl _) (Off.new HG.out.1 HG.out.2)).mono Z7.out.2.size) (Nat.le_refl _)).mono ?_
            rintro e w8 ⟨rfl, hb⟩
            have Z8 := Lib.hid (Z7.out.calm hb)
            clear hb
            go_wp2_with fail
            go_ret
            exact ⟨rfl, HB2.out.trans ((Z3.out.then_ Z8.out).far HP.out HD.out HB2.out.size)⟩
      · have hb2' : decide (60 < (n3 : Int)) = true := decide_eq_true (by omega)
        go_enter Try.func5, Try.ntmps5
        go_wp2_with fail
        refine (awake_any w).mono ?_
        rintro e w1 ⟨rfl, hb⟩
        have HB1 := Lib.hid hb
        clear hb
        go_wp2_with fail
        go_ret
        exact ⟨rfl, HB1.out⟩
    · have hb1' : decide (60 < (n2 : Int)) = true := decide_eq_true (by omega)
      go_enter Try.func5, Try.ntmps5
      go_wp2_with fail
      refine (awake_any w).mono ?_
      rintro e w1 ⟨rfl, hb⟩
      have HB1 := Lib.hid hb
      clear hb
      go_wp2_with fail
      go_ret
      exact ⟨rfl, HB1.out⟩
  · have hb0' : decide (40 < (n1 : Int)) = true := decide_eq_true (by omega)
    go_enter Try.func5, Try.ntmps5
    go_wp2_with fail
    refine (awake_any w).mono ?_
    rintro e w1 ⟨rfl, hb⟩
    have HB1 := Lib.hid hb
    clear hb
    go_wp2_with fail
    go_ret
    exact ⟨rfl, HB1.out⟩
end Go.Proofs.Ytbpdajffkcgcgaa
