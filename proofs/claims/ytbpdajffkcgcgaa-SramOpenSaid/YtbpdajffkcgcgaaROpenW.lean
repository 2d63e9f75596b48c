/-
  THE WALK OF SramOpen.
-/
import Derived.Test.YtbpdajffkcgcgaaRAwake
import Derived.Test.YtbpdajffkcgcgaaRRef
import Derived.Test.YtbpdajffkcgcgaaBSame
import Derived.Deep.RegionHeld3
import Derived.IntWalk
namespace Go.Proofs.Ytbpdajffkcgcgaa
open Go.RowKit
set_option maxRecDepth 20000

set_option maxRecDepth 100000 in
set_option maxHeartbeats 4000000 in
theorem sramOpen_walk (w : World) (a : Int) (wa : (Lit.int .u8 a).wf = true) (A1 : Option Addr) (n1 c1 : Nat) (z1 : List Int) (r1 : IsRow .u8 w A1 n1 c1 z1) (A2 : Option Addr) (n2 c2 : Nat) (l : List Opn) (r2 : Many opE w w.heap.size A2 n2 l ∧ n2 ≤ c2 ∧ n2 ≤ maxLen) (a2 : Int) (wa2 : (Lit.int .u16 a2).wf = true) (v : Int) (wv : (Lit.int .u8 v).wf = true) :
    Calls Try.prog 6 #[.int .u8 a, .slice A1 n1 c1, .slice A2 n2 c2, .int .u16 a2, .int .u8 v] w fun e w' => e = .returned (.bool true) ∧ Below w.heap.size w w' := by
  have ha : 0 ≤ a ∧ a ≤ 255 := by simpa [Lit.wf, IntKind.min, IntKind.max, IntKind.signed, IntKind.bits] using wa
  have HN1 := Lib.hid r1.nums
  have hm1 := r1.len_le.2
  unfold maxLen at hm1
  obtain ⟨ha0, ha1⟩ := ha
  clear r1 wa
  obtain ⟨b, hl1⟩ : ∃ l, z1.take n1 = l := ⟨_, rfl⟩
  rw [hl1] at HN1
  clear hl1
  obtain ⟨k, hkr⟩ : ∃ k : Nat, 1 + a % 4 = (k : Int) := ⟨(1 + a % 4).toNat, by omega⟩
  have hk1 : 1 ≤ k := by omega
  have hk4 : k ≤ 4 := by omega
  have HK := Lib.hid (show 1 ≤ k ∧ k ≤ 128 by omega)
  obtain ⟨z, hz⟩ : ∃ z : Nat, 64 * k = z := ⟨_, rfl⟩
  have hzr : 64 * (k : Int) = (z : Int) := by omega
  have hz0 : 64 ≤ z := by omega
  have hz1 : z ≤ 256 := by omega
  have HZ := Lib.hid hz
  have HO0 := Lib.hid (show (made k b).Ok from made_ok HK.out HN1.out.byte)
  have HZL := Lib.hid (show (made k b).data.length = z by rw [← hz]; exact fillL_len _ _)
  have HFD := Lib.hid (show (made k b).data = fillL b z by rw [← hz]; rfl)
  have HOP0 := Lib.hid (show (made k b).op = false from rfl)
  obtain ⟨s0, hs0⟩ : ∃ s, made k b = s := ⟨_, rfl⟩
  have HS0 := Lib.hid hs0
  rw [hs0] at HO0 HZL HOP0 HFD
  clear hs0 hz
  have HL2 := Lib.hid r2.1
  have HLL2 := Lib.hid r2.1.1
  have hm2 := r2.2.2
  have hc2 := r2.2.1
  have HOF2 := Lib.hid (show ∀ p d : Nat, w.heap.size ≤ p → w.heap.size ≤ d → Off (Its p d) A2 n2 from fun p d hp hd => Off.below HL2.out hp hd)
  unfold maxLen at hm2
  clear r2
  have ha2 : 0 ≤ a2 ∧ a2 ≤ 65535 := by simpa [Lit.wf, IntKind.min, IntKind.max, IntKind.signed, IntKind.bits] using wa2
  obtain ⟨ha20, ha21⟩ := ha2
  clear wa2
  have hv : 0 ≤ v ∧ v ≤ 255 := by simpa [Lit.wf, IntKind.min, IntKind.max, IntKind.signed, IntKind.bits] using wv
  obtain ⟨hv0, hv1⟩ := hv
  clear wv
  by_cases hb0 : n1 ≤ 40
  · have hb0' : decide (40 < (n1 : Int)) = false := decide_eq_false (by omega)
    by_cases hb1 : n2 ≤ 60
    · have hb1' : decide (60 < (n2 : Int)) = false := decide_eq_false (by omega)
      go_enter Try.func6, Try.ntmps6
      go_wp2_with fail
      refine (awake_any w).mono ?_
      rintro e w1 ⟨rfl, hb⟩
      have HB1 := Lib.hid hb
      clear hb
      go_wp2_with fail
      refine (made_any k A1 n1 c1 w.heap.size b w1 (HN1.out.below HB1.out) HB1.out.size (by omega) HK.out).mono ?_
      rintro e w2 ⟨v', rfl, p, d, cap, rfl, hc, hp, hd, hb⟩
      rw [HS0.out] at hc
      have HC := Lib.hid hc
      have HP := Lib.hid (show w.heap.size ≤ p by have := HB1.out.size; omega)
      have HD := Lib.hid (show w.heap.size ≤ d by have := HB1.out.size; omega)
      have HB2 := Lib.hid (HB1.out.trans (hb.mono HB1.out.size))
      have HLT := Lib.hid hc.lt
      clear hc hp hd hb
      go_wp2_with fail
      refine (do_any w2 p d cap s0 A2 n2 c2 w.heap.size l HC.out HO0.out (HL2.out.below HB2.out) HB2.out.size (HOF2.out p d HP.out HD.out) (by unfold maxLen; omega)).mono ?_
      rintro e w3 ⟨rfl, hz⟩
      have Z1 := Lib.hid hz
      have HO1 := Lib.hid (plays_ok l HO0.out)
      clear hz
      go_wp2_with fail
      refine (latch_any w3 p d cap _ 165 Z1.out.1).mono ?_
      rintro e w4 ⟨rfl, hz⟩
      have Z2 := Lib.hid (Z1.out.then_ hz)
      have HO2 := Lib.hid (HO1.out.latch 165)
      have HOP := Lib.hid (show ((s0.plays l).latch 165).op = true from rfl)
      have HZ2 := Lib.hid (show ((s0.plays l).latch 165).data.length = z from (plays_len s0 l).trans HZL.out)
      clear hz
      generalize (s0.plays l).latch 165 = s2 at *
      obtain ⟨q, rfl⟩ := Int.eq_ofNat_of_zero_le ha20
      obtain ⟨j, hj⟩ : ∃ j, q % z = j := ⟨_, rfl⟩
      have hjz : j < z := by rw [← hj]; exact Nat.mod_lt _ (by omega)
      have HAT := Lib.hid (show s2.at_ (q : Int) = j by unfold Ram.at_; rw [HZ2.out, Int.max_eq_left (by omega)]; exact hj)
      have HAT2 := Lib.hid (show s2.at_ ((q : Int) + (z : Int)) = j by unfold Ram.at_; rw [HZ2.out, Int.max_eq_left (by omega), show ((q : Int) + (z : Int)).toNat = q + z by omega, Nat.add_mod_right]; exact hj)
      have HW := Lib.hid (show s2.write (q : Int) v = { s2 with data := s2.data.set j v } by unfold Ram.write; rw [if_pos HOP.out, HAT.out])
      have HTL := Lib.hid (show ∀ x, s2.at_ x = j → ({ s2 with data := s2.data.set j v } : Ram).tell x = v from fun x hx => by
        have : ({ s2 with data := s2.data.set j v } : Ram).at_ x = j := by unfold Ram.at_ at hx ⊢; simpa using hx
        unfold Ram.tell
        rw [this]
        exact getD_set_eq _ (by rw [HZ2.out]; exact hjz))
      have HO3 := Lib.hid (show ({ s2 with data := s2.data.set j v } : Ram).Ok by rw [← HW.out]; exact HO2.out.write q ⟨hv0, hv1⟩)
      have HZ3 := Lib.hid (show (s2.data.set j v).length = z by rw [List.length_set]; exact HZ2.out)
      have hzn : (z : Int) ≠ 0 := by omega
      have hzm : ¬ z = 0 := by omega
      have e1 : (q : Int).tmod (z : Int) = (j : Int) := by rw [Int.tmod_eq_emod_of_nonneg (by omega), ← hj]; omega
      have e2 : IntKind.i64.wrap (j : Int) = (j : Int) := IntWalk.i64_in _ (by omega)
      have e0 : IntKind.i64.wrap ((q : Int).tmod (z : Int)) = (j : Int) := by rw [e1]; exact e2
      have hq3 : ((z : Int) != (z : Int)) = false := by simp
      clear hj
      go_wp2_with fail
      refine (bytes_new w4 p d cap s2 Z2.out.1 HO2.out).mono ?_
      rintro e w5 ⟨g, cg, rfl, hg1, hg2, hv, hb⟩
      obtain ⟨y0, f0⟩ := hv.at_ j (by rw [HZ2.out]; exact hjz)
      have HG := Lib.hid (show p < g ∧ d < g by have := Z2.out.1.lt; omega)
      have HGW := Lib.hid (show w.heap.size ≤ g by have := Z2.out.2.size; have := HB2.out.size; omega)
      have Z3 := Lib.hid (Z2.out.calm hb)
      have HPUT := Lib.hid (hv.put rfl j v)
      have HBX := Lib.hid ((HB2.out.trans (Z3.out.far HP.out HD.out HB2.out.size)).setCell (p := ⟨g, j, none⟩) HGW.out (.int .u8 v))
      have HCX := Lib.hid (Z3.out.1.keep (S := fun b => b = g) ((Keeps.refl (fun b => b = g) w5).set_ (p := ⟨g, j, none⟩) (.inl rfl) (.int .u8 v)) (fun e => by have := HG.out; omega) (fun e => by have := HG.out; omega))
      rw [HZ2.out] at HPUT ⊢
      clear hg1 hg2 hv hb
      generalize s2.data.getD j 0 = y at *
      have hj0 : (0 : Int) ≤ (j : Int) := by omega
      have hj1 : (j : Int) < (z : Int) := by omega
      go_wp2_with fail
      clear y0 f0
      obtain ⟨w6, hw6⟩ : ∃ w6, w5.setCell ⟨g, j, none⟩ (.int .u8 v) = w6 := ⟨_, rfl⟩
      rw [hw6] at HPUT HBX HCX ⊢
      clear hw6
      refine (write_any w6 p d cap s2 q v HCX.out HO2.out).mono ?_
      rintro e w7 ⟨rfl, hz⟩
      rw [HOP.out]
      rw [HW.out] at hz
      have Z7 := Lib.hid hz
      have HN := Lib.hid (HPUT.out.nums_at fun x hx => byte_wf (HO3.out.byte x hx)).1
      clear hz
      go_wp2_with fail
      refine (read_any w7 p d cap _ q Z7.out.1 HO3.out).mono ?_
      rintro e w8 ⟨rfl, n8, rfl⟩
      rw [HTL.out _ HAT.out]
      have Z8 := Lib.hid (Z7.out.drewN n8)
      have qv : (v == v) = true := by simp
      go_wp2_with fail
      refine (read_any _ p d cap _ ((q : Int) + (z : Int)) Z8.out.1 HO3.out).mono ?_
      rintro e w9 ⟨rfl, n9, rfl⟩
      rw [HTL.out _ HAT2.out]
      have Z9 := Lib.hid (Z7.out.drewN (n8 + n9))
      go_wp2_with fail
      refine (bytes_new _ p d cap _ Z9.out.1 HO3.out).mono ?_
      rintro e w10 ⟨g', cg', rfl, hg1, hg2, hv, hb⟩
      have HW10 := Lib.hid (hv.nums_at fun x hx => byte_wf (HO3.out.byte x hx)).1
      have Z10 := Lib.hid (Z9.out.calm hb)
      rw [HZ3.out] at HW10 ⊢
      clear hg1 hg2 hv hb
      go_wp2_with fail
      refine (same_refl _ (some ⟨g, 0, none⟩) z cg' cg w10.heap.size _ w10 (by unfold maxLen; omega) HW10.out ((HN.out.off Z10.out.2 (Nat.le_refl _) (Off.new HG.out.1 HG.out.2)).mono Z10.out.2.size) (Nat.le_refl _)).mono ?_
      rintro e w11 ⟨rfl, hb⟩
      have Z11 := Lib.hid (Z10.out.calm hb)
      clear hb
      go_wp2_with fail
      go_ret
      exact ⟨rfl, HBX.out.trans (Z11.out.far HP.out HD.out HBX.out.size)⟩
    · have hb1' : decide (60 < (n2 : Int)) = true := decide_eq_true (by omega)
      go_enter Try.func6, Try.ntmps6
      go_wp2_with fail
      refine (awake_any w).mono ?_
      rintro e w1 ⟨rfl, hb⟩
      have HB1 := Lib.hid hb
      clear hb
      go_wp2_with fail
      go_ret
      exact ⟨rfl, HB1.out⟩
  · have hb0' : decide (40 < (n1 : Int)) = true := decide_eq_true (by omega)
    go_enter Try.func6, Try.ntmps6
    go_wp2_with fail
    refine (awake_any w).mono ?_
    rintro e w1 ⟨rfl, hb⟩
    have HB1 := Lib.hid hb
    clear hb
    go_wp2_with fail
    go_ret
    exact ⟨rfl, HB1.out⟩
end Go.Proofs.Ytbpdajffkcgcgaa
