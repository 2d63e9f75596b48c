/-
  THE WALK OF SramCopies.
-/
import Derived.Test.YtbpdajffkcgcgaaRAwake
import Derived.Test.YtbpdajffkcgcgaaRRef
import Derived.Test.YtbpdajffkcgcgaaBSame
import Derived.Deep.RegionHeld3
import Derived.IntWalk
namespace Go.Proofs.Ytbpdajffkcgcgaa
open Go.RowKit
set_option maxRecDepth 20000

set_option maxRecDepth 100000 in
set_option maxHeartbeats 4000000 in
theorem sramCopies_walk (w : World) (a : Int) (wa : (Lit.int .u8 a).wf = true) (A1 : Option Addr) (n1 c1 : Nat) (z1 : List Int) (r1 : IsRow .u8 w A1 n1 c1 z1) (A2 : Option Addr) (n2 c2 : Nat) (l : List Opn) (r2 : Many opE w w.heap.size A2 n2 l ∧ n2 ≤ c2 ∧ n2 ≤ maxLen) (A3 : Option Addr) (n3 c3 : Nat) (m : List Opn) (r3 : Many opE w w.heap.size A3 n3 m ∧ n3 ≤ c3 ∧ n3 ≤ maxLen) :
    Calls Try.prog 7 #[.int .u8 a, .slice A1 n1 c1, .slice A2 n2 c2, .slice A3 n3 c3] w fun e w' => e = .returned (.bool true) ∧ Below w.heap.size w w' := by
  have ha : 0 ≤ a ∧ a ≤ 255 := by simpa [Lit.wf, IntKind.min, IntKind.max, IntKind.signed, IntKind.bits] using wa
  have HN1 := Lib.hid r1.nums
  have hm1 := r1.len_le.2
  unfold maxLen at hm1
  obtain ⟨ha0, ha1⟩ := ha
  clear r1 wa
  obtain ⟨b, hl1⟩ : ∃ l, z1.take n1 = l := ⟨_, rfl⟩
  rw [hl1] at HN1
  clear hl1
  obtain ⟨k, hkr⟩ : ∃ k : Nat, 1 + a % 4 = (k : Int) := ⟨(1 + a % 4).toNat, by omega⟩
  have hk1 : 1 ≤ k := by omega
  have hk4 : k ≤ 4 := by omega
  have HK := Lib.hid (show 1 ≤ k ∧ k ≤ 128 by omega)
  obtain ⟨z, hz⟩ : ∃ z : Nat, 64 * k = z := ⟨_, rfl⟩
  have hzr : 64 * (k : Int) = (z : Int) := by omega
  have hz0 : 64 ≤ z := by omega
  have hz1 : z ≤ 256 := by omega
  have HZ := Lib.hid hz
  have HO0 := Lib.hid (show (made k b).Ok from made_ok HK.out HN1.out.byte)
  have HZL := Lib.hid (show (made k b).data.length = z by rw [← hz]; exact fillL_len _ _)
  have HFD := Lib.hid (show (made k b).data = fillL b z by rw [← hz]; rfl)
  have HOP0 := Lib.hid (show (made k b).op = false from rfl)
  obtain ⟨s0, hs0⟩ : ∃ s, made k b = s := ⟨_, rfl⟩
  have HS0 := Lib.hid hs0
  rw [hs0] at HO0 HZL HOP0 HFD
  clear hs0 hz
  have HL2 := Lib.hid r2.1
  have HLL2 := Lib.hid r2.1.1
  have hm2 := r2.2.2
  have hc2 := r2.2.1
  have HOF2 := Lib.hid (show ∀ p d : Nat, w.heap.size ≤ p → w.heap.size ≤ d → Off (Its p d) A2 n2 from fun p d hp hd => Off.below HL2.out hp hd)
  unfold maxLen at hm2
  clear r2
  have HL3 := Lib.hid r3.1
  have HLL3 := Lib.hid r3.1.1
  have hm3 := r3.2.2
  have hc3 := r3.2.1
  have HOF3 := Lib.hid (show ∀ p d : Nat, w.heap.size ≤ p → w.heap.size ≤ d → Off (Its p d) A3 n3 from fun p d hp hd => Off.below HL3.out hp hd)
  unfold maxLen at hm3
  clear r3
  by_cases hb0 : n1 ≤ 40
  · have hb0' : decide (40 < (n1 : Int)) = false := decide_eq_false (by omega)
    by_cases hb1 : n2 ≤ 60
    · have hb1' : decide (60 < (n2 : Int)) = false := decide_eq_false (by omega)
      by_cases hb2 : n3 ≤ 60
      · have hb2' : decide (60 < (n3 : Int)) = false := decide_eq_false (by omega)
        go_enter Try.func7, Try.ntmps7
        go_wp2_with fail
        refine (awake_any w).mono ?_
        rintro e w1 ⟨rfl, hb⟩
        have HB1 := Lib.hid hb
        clear hb
        go_wp2_with fail
        refine (made_any k A1 n1 c1 w.heap.size b w1 (HN1.out.below HB1.out) HB1.out.size (by omega) HK.out).mono ?_
        rintro e w2 ⟨v', rfl, p, d, cap, rfl, hc, hp, hd, hb⟩
        rw [HS0.out] at hc
        have HC := Lib.hid hc
        have HP := Lib.hid (show w.heap.size ≤ p by have := HB1.out.size; omega)
        have HD := Lib.hid (show w.heap.size ≤ d by have := HB1.out.size; omega)
        have HB2 := Lib.hid (HB1.out.trans (hb.mono HB1.out.size))
        have HLT := Lib.hid hc.lt
        clear hc hp hd hb
        go_wp2_with fail
        refine (do_any w2 p d cap s0 A2 n2 c2 w.heap.size l HC.out HO0.out (HL2.out.below HB2.out) HB2.out.size (HOF2.out p d HP.out HD.out) (by unfold maxLen; omega)).mono ?_
        rintro e w3 ⟨rfl, hz⟩
        have Z1 := Lib.hid hz
        have HO1 := Lib.hid (plays_ok l HO0.out)
        have HZ1 := Lib.hid (show (s0.plays l).data.length = z from (plays_len s0 l).trans HZL.out)
        have HB3 := Lib.hid (HB2.out.trans (hz.far HP.out HD.out HB2.out.size))
        have HC3 := Lib.hid hz.1
        clear hz
        generalize s0.plays l = s1 at *
        go_wp2_with fail
        refine (copy_any w3 p d cap s1 HC3.out HO1.out).mono ?_
        rintro e w4 ⟨v, rfl, p2, d2, cap2, rfl, hc, hp, hd, hb⟩
        have HA := Lib.hid hc
        have HPA := Lib.hid (show w3.heap.size ≤ p2 ∧ w3.heap.size ≤ d2 from ⟨hp, hd⟩)
        have HLA := Lib.hid hc.lt
        have HC4 := Lib.hid (HC3.out.below hb)
        have HS4 := Lib.hid hb.size
        have HB4 := Lib.hid (HB3.out.trans (hb.mono HB3.out.size))
        clear hc hp hd hb
        go_wp2_with fail
        refine (copy_any w4 p d cap s1 HC4.out HO1.out).mono ?_
        rintro e w5 ⟨v, rfl, p3, d3, cap3, rfl, hc, hp, hd, hb⟩
        have HE := Lib.hid hc
        have HPE := Lib.hid (show w4.heap.size ≤ p3 ∧ w4.heap.size ≤ d3 from ⟨hp, hd⟩)
        have HLE := Lib.hid hc.lt
        have HC5 := Lib.hid (HC4.out.below hb)
        have HA5 := Lib.hid (HA.out.below hb)
        have HS5 := Lib.hid hb.size
        have HB5 := Lib.hid (HB4.out.trans (hb.mono HB4.out.size))
        clear hc hp hd hb
        go_wp2_with fail
        refine (bytes_new w5 p d cap s1 HC5.out HO1.out).mono ?_
        rintro e w6 ⟨g, cg, rfl, hg1, hg2, hv, hb⟩
        have HW6 := Lib.hid (hv.nums_at fun x hx => byte_wf (HO1.out.byte x hx)).1
        have HG := Lib.hid hg1
        have HC6 := Lib.hid (HC5.out.below hb)
        have HA6 := Lib.hid (HA5.out.below hb)
        have HE6 := Lib.hid (HE.out.below hb)
        have HS6 := Lib.hid hb.size
        have HB6 := Lib.hid (HB5.out.trans (hb.mono HB5.out.size))
        rw [HZ1.out] at HW6 ⊢
        clear hg1 hg2 hv hb
        go_wp2_with fail
        refine (locked_any w6 p d cap s1 HC6.out).mono ?_
        rintro e w7 ⟨rfl, rfl⟩
        obtain ⟨ob, hob⟩ : ∃ ob, (!s1.op) = ob := ⟨_, rfl⟩
        have HOB := Lib.hid hob
        rw [hob]
        clear hob
        have HLC := Lib.hid HC3.out.lt
        have HAR := Lib.hid (show (p < p2 ∧ p < d2 ∧ d < p2 ∧ d < d2) ∧ (p < p3 ∧ p < d3 ∧ d < p3 ∧ d < d3) ∧ (p2 < p3 ∧ p2 < d3 ∧ d2 < p3 ∧ d2 < d3) ∧ (p2 < g ∧ d2 < g) ∧ p3 < g ∧ d3 < g by
          have := HLC.out; have := HPA.out; have := HLA.out; have := HPE.out; have := HLE.out; have := HG.out; have := HS4.out; have := HS5.out; have := HS6.out; omega)
        have HPL := Lib.hid (show (w.heap.size ≤ p2 ∧ w.heap.size ≤ d2) ∧ w.heap.size ≤ p3 ∧ w.heap.size ≤ d3 by
          have := HPA.out; have := HPE.out; have := HS4.out; have := HB3.out.size; omega)
        go_wp2_with fail
        refine (do_any w6 p2 d2 cap2 s1 A3 n3 c3 w.heap.size m HA6.out HO1.out (HL3.out.below HB6.out) HB6.out.size (HOF3.out p2 d2 HPL.out.1.1 HPL.out.1.2) (by unfold maxLen; omega)).mono ?_
        rintro e w7 ⟨rfl, hz⟩
        have HB7 := Lib.hid (HB6.out.trans (hz.far HPL.out.1.1 HPL.out.1.2 HB6.out.size))
        have HC7 := Lib.hid (HC6.out.keep hz.2 (fun hb => by have := HAR.out; rcases hb with rfl | rfl <;> omega) (fun hb => by have := HAR.out; rcases hb with rfl | rfl <;> omega))
        have HE7 := Lib.hid (HE6.out.keep hz.2 (fun hb => by have := HAR.out; rcases hb with rfl | rfl <;> omega) (fun hb => by have := HAR.out; rcases hb with rfl | rfl <;> omega))
        have HW7 := Lib.hid ((HW6.out.off hz.2 (Nat.le_refl _) (Off.new HAR.out.2.2.2.1.1 HAR.out.2.2.2.1.2)).mono hz.2.size)
        have HA7 := Lib.hid hz.1
        have HO4 := Lib.hid (plays_ok m HO1.out)
        have HZ4 := Lib.hid (show (s1.plays m).data.length = z from (plays_len s1 m).trans HZ1.out)
        clear hz
        go_wp2_with fail
        refine (do_any w7 p3 d3 cap3 s1 A3 n3 c3 w.heap.size m HE7.out HO1.out (HL3.out.below HB7.out) HB7.out.size (HOF3.out p3 d3 HPL.out.2.1 HPL.out.2.2) (by unfold maxLen; omega)).mono ?_
        rintro e w8 ⟨rfl, hz⟩
        have HB8 := Lib.hid (HB7.out.trans (hz.far HPL.out.2.1 HPL.out.2.2 HB7.out.size))
        have HC8 := Lib.hid (HC7.out.keep hz.2 (fun hb => by have := HAR.out; rcases hb with rfl | rfl <;> omega) (fun hb => by have := HAR.out; rcases hb with rfl | rfl <;> omega))
        have HA8 := Lib.hid (HA7.out.keep hz.2 (fun hb => by have := HAR.out; rcases hb with rfl | rfl <;> omega) (fun hb => by have := HAR.out; rcases hb with rfl | rfl <;> omega))
        have HW8 := Lib.hid ((HW7.out.off hz.2 (Nat.le_refl _) (Off.new HAR.out.2.2.2.2.1 HAR.out.2.2.2.2.2)).mono hz.2.size)
        have HE8 := Lib.hid hz.1
        clear hz
        generalize s1.plays m = s4 at *
        have q1 : (ob == ob) = true := by simp
        obtain ⟨oc, hoc⟩ : ∃ oc, (!s4.op) = oc := ⟨_, rfl⟩
        have HOC := Lib.hid hoc
        have q2 : (oc == oc) = true := by simp
        clear hoc
        have HD8 := Lib.hid (below_drew w8)
        go_wp2_with fail
        go_region_held3 (fun _ => True) (trivial) (first
          | (go_at_call_of 18 (Value.pointer (some ⟨p, 0, none⟩)); refine (bytes_new _ p d cap s1 (HC8.out.below HD8.out) HO1.out).mono ?_; rintro e' wa ⟨ga, ca, rfl, _, _, hva, hba⟩; rw [HZ1.out]
             have HBA := Lib.hid (HD8.out.trans hba)
             have HNA := Lib.hid (show Nums .u8 wa wa.heap.size (some ⟨ga, 0, none⟩) z s1.data by rw [← HZ1.out]; exact (hva.nums_at fun x hx => byte_wf (HO1.out.byte x hx)).1)
             clear hva hba)
          | (go_at_call_of 18 (Value.pointer (some ⟨p2, 0, none⟩)); refine (bytes_new _ p2 d2 cap2 s4 (HA8.out.below HBB.out) HO4.out).mono ?_; rintro e' wc ⟨gc, cc, rfl, _, _, hvc, hbc⟩; rw [HZ4.out]
             have HBC := Lib.hid (HBB.out.trans (hbc.mono HBB.out.size))
             have HNC := Lib.hid (show Nums .u8 wc wc.heap.size (some ⟨gc, 0, none⟩) z s4.data by rw [← HZ4.out]; exact (hvc.nums_at fun x hx => byte_wf (HO4.out.byte x hx)).1)
             clear hvc hbc)
          | (go_at_call_of 18 (Value.pointer (some ⟨p3, 0, none⟩)); refine (bytes_new _ p3 d3 cap3 s4 (HE8.out.below HBC.out) HO4.out).mono ?_; rintro e' wd ⟨gd, cd, rfl, _, _, hvd, hbd⟩; rw [HZ4.out]
             have HBD := Lib.hid (HBC.out.trans (hbd.mono HBC.out.size))
             have HNC2 := Lib.hid ((HNC.out.below hbd).mono hbd.size)
             have HND := Lib.hid (show Nums .u8 wd wd.heap.size (some ⟨gd, 0, none⟩) z s4.data by rw [← HZ4.out]; exact (hvd.nums_at fun x hx => byte_wf (HO4.out.byte x hx)).1)
             clear hvd hbd)
          | (go_at_call_of 17 (Value.slice (some ⟨ga, 0, none⟩) z ca); refine (same_refl (some ⟨ga, 0, none⟩) (some ⟨g, 0, none⟩) z ca cg _ s1.data _ (by unfold maxLen; omega) HNA.out ((HW8.out.below HBA.out).mono HBA.out.size) (Nat.le_refl _)).mono ?_; rintro e' wb ⟨rfl, hbb⟩
             have HBB := Lib.hid (HBA.out.trans (hbb.mono HBA.out.size))
             clear hbb)
          | (go_at_call_of 17 (Value.slice (some ⟨gc, 0, none⟩) z cc); refine (same_refl (some ⟨gc, 0, none⟩) (some ⟨gd, 0, none⟩) z cc cd _ s4.data _ (by unfold maxLen; omega) HNC2.out HND.out (Nat.le_refl _)).mono ?_; rintro e' we ⟨rfl, hbe⟩
             have HBE := Lib.hid (HBD.out.trans (hbe.mono HBD.out.size))
             clear hbe)
          | (go_at_call_of 12 (Value.pointer (some ⟨p, 0, none⟩)); refine (locked_any _ p d cap s1 (HC8.out.below HBB.out)).mono ?_; rintro e' wx ⟨rfl, rfl⟩; rw [HOB.out])
          | (go_at_call_of 12 (Value.pointer (some ⟨p2, 0, none⟩)); refine (locked_any _ p2 d2 cap2 s4 (HA8.out.below HBE.out)).mono ?_; rintro e' wx ⟨rfl, rfl⟩; rw [HOC.out])
          | (go_at_call_of 12 (Value.pointer (some ⟨p3, 0, none⟩)); refine (locked_any _ p3 d3 cap3 s4 (HE8.out.below HBE.out)).mono ?_; rintro e' wx ⟨rfl, rfl⟩; rw [HOC.out]))
        all_goals
          go_wp2_with fail
          go_ret
          exact ⟨rfl, HB8.out.trans (HBE.out.mono HB8.out.size)⟩
      · have hb2' : decide (60 < (n3 : Int)) = true := decide_eq_true (by omega)
        go_enter Try.func7, Try.ntmps7
        go_wp2_with fail
        refine (awake_any w).mono ?_
        rintro e w1 ⟨rfl, hb⟩
        have HB1 := Lib.hid hb
        clear hb
        go_wp2_with fail
        go_ret
        exact ⟨rfl, HB1.out⟩
    · have hb1' : decide (60 < (n2 : Int)) = true := decide_eq_true (by omega)
      go_enter Try.func7, Try.ntmps7
      go_wp2_with fail
      refine (awake_any w).mono ?_
      rintro e w1 ⟨rfl, hb⟩
      have HB1 := Lib.hid hb
      clear hb
      go_wp2_with fail
      go_ret
      exact ⟨rfl, HB1.out⟩
  · have hb0' : decide (40 < (n1 : Int)) = true := decide_eq_true (by omega)
    go_enter Try.func7, Try.ntmps7
    go_wp2_with fail
    refine (awake_any w).mono ?_
    rintro e w1 ⟨rfl, hb⟩
    have HB1 := Lib.hid hb
    clear hb
    go_wp2_with fail
    go_ret
    exact ⟨rfl, HB1.out⟩
end Go.Proofs.Ytbpdajffkcgcgaa
