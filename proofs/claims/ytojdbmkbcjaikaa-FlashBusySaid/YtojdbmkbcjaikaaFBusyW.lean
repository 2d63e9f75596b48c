/-
  THE WALK OF FlashBusy.
-/
import Derived.Test.YtojdbmkbcjaikaaFAwake
import Derived.Test.YtojdbmkbcjaikaaFVals
import Derived.Test.YtojdbmkbcjaikaaBSame
import Derived.Deep.RegionHeld3
import Derived.IntWalk
namespace Go.Proofs.Ytojdbmkbcjaikaa
open Go.RowKit
set_option maxRecDepth 20000

theorem ChipAt.aside {w w' : World} {p d cap p2 d2 cap2 : Nat} {s s' s2 : Flash} (h2 : ChipAt w p2 d2 cap2 s2) (h1 : ChipAt w p d cap s) (hz : Went p d cap s' w w') (hn : (p2 ≠ p ∧ p2 ≠ d) ∧ d2 ≠ p ∧ d2 ≠ d) : ChipAt w' p2 d2 cap2 s2 :=
  h2.keep hz.2 (fun h => by rcases h with h | h; exact hn.1.1 h; exact hn.1.2 h) (fun h => by rcases h with h | h; exact hn.2.1 h; exact hn.2.2 h) h1.plain
/-- bit 6 of the next read -/
def turnOf (i : Nat) : Int := if i % 2 = 0 then 0 else 64
theorem turnOf_next (i : Nat) : 64 - turnOf i = turnOf (i + 1) := by
  unfold turnOf
  rcases Nat.mod_two_eq_zero_or_one i with h | h
  · rw [if_pos h, if_neg (by omega)]; rfl
  · rw [if_neg (by omega), if_pos (by omega)]; rfl
set_option maxRecDepth 100000 in
set_option maxHeartbeats 4000000 in
theorem flashBusy_walk (w : World) (a : Int) (wa : (Lit.int .u8 a).wf = true) (A1 : Option Addr) (n1 c1 : Nat) (z1 : List Int) (r1 : IsRow .u8 w A1 n1 c1 z1) (y : Int) (wy : (Lit.int .u16 y).wf = true) (v : Int) (wv : (Lit.int .u8 v).wf = true) (A2 : Option Addr) (n2 c2 : Nat) (l : List Wr) (r2 : Many wrE w w.heap.size A2 n2 l ∧ n2 ≤ c2 ∧ n2 ≤ maxLen) (u : Int) (wu : (Lit.int .u8 u).wf = true) :
    Calls Try.prog 8 #[.int .u8 a, .slice A1 n1 c1, .int .u16 y, .int .u8 v, .slice A2 n2 c2, .int .u8 u] w fun e w' => e = .returned (.bool true) ∧ Below w.heap.size w w' := by
  have ha : 0 ≤ a ∧ a ≤ 255 := by simpa [Lit.wf, IntKind.min, IntKind.max, IntKind.signed, IntKind.bits] using wa
  have HN1 := Lib.hid r1.nums
  have hm1 := r1.len_le.2
  unfold maxLen at hm1
  obtain ⟨ha0, ha1⟩ := ha
  clear r1 wa
  obtain ⟨b, hl1⟩ : ∃ l, z1.take n1 = l := ⟨_, rfl⟩
  rw [hl1] at HN1
  clear hl1
  obtain ⟨k, hkr⟩ : ∃ k : Nat, 1 + a % 4 = (k : Int) := ⟨(1 + a % 4).toNat, by omega⟩
  have hk1 : 1 ≤ k := by omega
  have hk4 : k ≤ 4 := by omega
  have HK := Lib.hid (show 1 ≤ k ∧ k ≤ 64 by omega)
  obtain ⟨z, hz⟩ : ∃ z : Nat, 256 * k = z := ⟨_, rfl⟩
  have hzr : 256 * (k : Int) = (z : Int) := by omega
  have hz0 : 256 ≤ z := by omega
  have hz1 : z ≤ 1024 := by omega
  have HZ := Lib.hid hz
  have HO0 := Lib.hid (show (made k b).Ok from made_ok HK.out HN1.out.byte)
  obtain ⟨D, hDD⟩ : ∃ D, (made k b).data = D := ⟨_, rfl⟩
  have HSD := Lib.hid hDD
  have HDL := Lib.hid (show D.length = z by rw [← hDD, ← hz]; exact fillL_len _ _)
  have HDB := Lib.hid (show ∀ v ∈ D, 0 ≤ v ∧ v ≤ 255 by rw [← hDD]; exact HO0.out.byte)
  have hsize : (made k b).data.length = z := by rw [hDD]; exact HDL.out
  obtain ⟨s0, hs0⟩ : ∃ s, made k b = s := ⟨_, rfl⟩
  have HS0 := Lib.hid hs0
  have hs0l : s0.left = 0 := by rw [← hs0]; rfl
  have hs0k : s0.k = 0 := by rw [← hs0]; rfl
  have hs0n : s0.named = false := by rw [← hs0]; rfl
  rw [hs0] at HO0 HSD hsize
  have HSZ := Lib.hid hsize
  clear hs0 hz hDD
  have HL := Lib.hid r2.1
  have HLL := Lib.hid r2.1.1
  have hm2 := r2.2.2
  have HOP := Lib.hid (show ∀ p d : Nat, w.heap.size ≤ p → w.heap.size ≤ d → Off (Its p d) A2 n2 from fun p d hp hd => Off.below HL.out hp hd)
  unfold maxLen at hm2
  clear r2
  have hy : 0 ≤ y ∧ y ≤ 65535 := by simpa [Lit.wf, IntKind.min, IntKind.max, IntKind.signed, IntKind.bits] using wy
  obtain ⟨hy0, hy1⟩ := hy
  have hv : 0 ≤ v ∧ v ≤ 255 := by simpa [Lit.wf, IntKind.min, IntKind.max, IntKind.signed, IntKind.bits] using wv
  have HV := Lib.hid hv
  have hu : 0 ≤ u ∧ u ≤ 255 := by simpa [Lit.wf, IntKind.min, IntKind.max, IntKind.signed, IntKind.bits] using wu
  obtain ⟨hu0, hu1⟩ := hu
  clear wy wv wu
  obtain ⟨r, hr⟩ : ∃ r : Nat, u % 20 = (r : Int) := ⟨(u % 20).toNat, by omega⟩
  have hr20 : r < 20 := by omega
  by_cases hb1 : n1 ≤ 40
  · have hb1' : decide (40 < (n1 : Int)) = false := decide_eq_false (by omega)
    by_cases hb2 : n2 ≤ 40
    · have hb2' : decide (40 < (n2 : Int)) = false := decide_eq_false (by omega)
      have hyi : IsInt y := ⟨by omega, by omega⟩
      have HYI := Lib.hid hyi
      obtain ⟨j, hj⟩ : ∃ j : Nat, y % (z : Int) = j := ⟨(y % (z : Int)).toNat, by have := Int.emod_nonneg y (show (z : Int) ≠ 0 by omega); omega⟩
      have hpl : s0.place y = j := by
        unfold Flash.place Flash.size
        rw [hsize, Int.max_eq_left (by omega)]
        exact hj
      obtain ⟨s1, hs1⟩ : ∃ s : Flash, s0.busy 10 1 (j : Int) 1 v = s := ⟨_, rfl⟩
      have HE1 := Lib.hid (show s0.puts (programW y v HYI.out HV.out) = s1 by rw [Flash.puts_program HO0.out hs0l hs0k, hpl]; exact hs1)
      have HO1 := Lib.hid (show s1.Ok by rw [← HE1.out]; exact puts_ok _ HO0.out)
      have hl1 : s1.left = 10 := by rw [← hs1]; rfl
      have HEL := Lib.hid (show s1.puts l = s1 from Flash.puts_busy (by omega) l)
      obtain ⟨sT, hsT⟩ : ∃ sT : Nat → Flash, (fun i => { s1 with turn := turnOf i }) = sT := ⟨_, rfl⟩
      have HT0 := Lib.hid (show sT 0 = s1 by rw [← hsT, ← hs1]; rfl)
      have HTO := Lib.hid (show ∀ i, (sT i).Ok from fun i => by rw [← hsT]; exact { HO1.out with turn := by show turnOf i = 0 ∨ turnOf i = 64; unfold turnOf; split <;> omega })
      have HTR := Lib.hid (show ∀ i, (sT i).read = sT (i + 1) from fun i => by
        have : (sT i).read = { sT i with turn := 64 - (sT i).turn } := if_pos (by rw [← hsT]; show 0 < s1.left; omega)
        rw [this, ← hsT]
        show ({ s1 with turn := 64 - turnOf i } : Flash) = _
        rw [turnOf_next])
      have HTT := Lib.hid (show ∀ (i : Nat) (x : Int), (sT i).tell x = if v < 128 then turnOf i + 128 else turnOf i from fun i x => by
        have : (sT i).tell x = (sT i).status := if_pos (by rw [← hsT]; show 0 < s1.left; omega)
        rw [this, ← hsT]
        unfold Flash.status
        show (if s1.wk = 1 ∧ s1.wv < 128 then turnOf i + 128 else turnOf i) = _
        rw [← hs1]
        show (if (1 : Int) = 1 ∧ v < 128 then turnOf i + 128 else turnOf i) = _
        simp only [true_and])
      obtain ⟨s5, hs5⟩ : ∃ s : Flash, s1.ticks 10 = s := ⟨_, rfl⟩
      have HE5 := Lib.hid hs5
      have HO5 := Lib.hid (show s5.Ok by rw [← HE5.out]; exact ticks_ok _ HO1.out)
      have hs5' : s5 = ({ s1 with left := 0 } : Flash).finish := by rw [← hs5]; exact Flash.ticks_end 9 (by rw [hl1]; rfl)
      obtain ⟨s6, hs6⟩ : ∃ s : Flash, (sT r).ticks 10 = s := ⟨_, rfl⟩
      have HE6 := Lib.hid hs6
      have HO6 := Lib.hid (show s6.Ok by rw [← HE6.out]; exact ticks_ok _ (HTO.out r))
      have hs6' : s6 = { s5 with turn := turnOf r } := by
        have : s6 = ({ sT r with left := 0 } : Flash).finish := by rw [← hs6]; exact Flash.ticks_end 9 (by rw [← hsT]; show (10 : Int) = s1.left; rw [hl1])
        rw [this, hs5', ← hsT]
        rfl
      obtain ⟨D5, hD5⟩ : ∃ D5, s5.data = D5 := ⟨_, rfl⟩
      have HD5 := Lib.hid hD5
      have HD6 := Lib.hid (show s6.data = D5 by rw [hs6']; exact hD5)
      have HDB5 := Lib.hid (show ∀ v ∈ D5, 0 ≤ v ∧ v ≤ 255 by rw [← hD5]; exact HO5.out.byte)
      have HDL5 := Lib.hid (show D5.length = z by
        rw [← hD5, hs5']
        show (Flash.doneTo { s1 with left := 0 } _).length = z
        rw [Flash.doneTo_len, ← hs1]
        exact hsize)
      have hl5 : s5.left = 0 := by rw [hs5']; rfl
      have HL6 := Lib.hid (show s6.left = 0 by rw [hs6']; exact hl5)
      have HTE := Lib.hid (show s5.tell y = s6.tell y by
        have h1 : s5.tell y = s5.data.getD (s5.place y).toNat 0 := by
          unfold Flash.tell
          rw [if_neg (by omega), if_neg (by rw [hs5', ← hs1]; show ¬ false = true; decide)]
        have h2 : s6.tell y = s6.data.getD (s6.place y).toNat 0 := by
          unfold Flash.tell
          rw [if_neg (by rw [hs6']; show ¬ 0 < s5.left; omega), if_neg (by rw [hs6', hs5', ← hs1]; show ¬ false = true; decide)]
        rw [h1, h2, hs6']
        rfl)
      obtain ⟨q, hq⟩ : ∃ q, s6.tell y = q := ⟨_, rfl⟩
      have HQ := Lib.hid hq
      have hqq : (q == q) = true := by simp
      obtain ⟨hv0, hv1⟩ := hv
      clear hs1 hsT hs5 hs5' hs6 hs6' hD5 hl1 hl5 hq hs0l hs0k hs0n hsize hyi hpl
      go_enter Try.func8, Try.ntmps8
      go_wp2_with fail
      refine (awake_any w).mono ?_
      rintro e w1 ⟨rfl, hb⟩
      have HB1 := Lib.hid hb
      clear hb
      go_wp2_with fail
      refine (made_any k A1 n1 c1 w.heap.size b w1 (HN1.out.below HB1.out) HB1.out.size (by omega) HK.out).mono ?_
      rintro e w2 ⟨v, rfl, p, d, cap, rfl, hc, hp, hd, hb⟩
      rw [HS0.out] at hc
      have HC := Lib.hid hc
      have HP := Lib.hid (show w.heap.size ≤ p by have := HB1.out.size; omega)
      have HD := Lib.hid (show w.heap.size ≤ d by have := HB1.out.size; omega)
      have HB2 := Lib.hid (HB1.out.trans (hb.mono HB1.out.size))
      have HLT := Lib.hid hc.lt
      clear hc hp hd hb
      go_wp2_with fail
      refine (made_any k A1 n1 c1 w.heap.size b w2 (HN1.out.below HB2.out) HB2.out.size (by omega) HK.out).mono ?_
      rintro e w3 ⟨v2, rfl, p2, d2, cap2, rfl, hc, hp, hd, hb⟩
      rw [HS0.out] at hc
      have HC2 := Lib.hid hc
      have HP2 := Lib.hid (show w.heap.size ≤ p2 by have := HB2.out.size; omega)
      have HD2 := Lib.hid (show w.heap.size ≤ d2 by have := HB2.out.size; omega)
      have HNE := Lib.hid (show (p2 ≠ p ∧ p2 ≠ d) ∧ d2 ≠ p ∧ d2 ≠ d by have := HLT.out; omega)
      have HEN := Lib.hid (show (p ≠ p2 ∧ p ≠ d2) ∧ d ≠ p2 ∧ d ≠ d2 by have := HLT.out; omega)
      have HB3 := Lib.hid (HB2.out.trans (hb.mono HB2.out.size))
      have HC1 := Lib.hid (HC.out.below hb)
      clear hc hp hd hb HC
      have HPRE := Lib.hid HC1.out.lt
      go_wp2_with fail
      refine (program_put w3 y v HYI.out HV.out).mono ?_
      rintro e w4 ⟨bk, rfl, hb0, hm, hb⟩
      have HB0 := Lib.hid hb0
      have HM := Lib.hid hm
      have HC1 := Lib.hid (HC1.out.below hb)
      have HC2 := Lib.hid (HC2.out.below hb)
      have HBN := Lib.hid (HB3.out.trans (hb.mono HB3.out.size))
      have HLX := Lib.hid (HC1.out.lt)
      have HLW := Lib.hid (show p < bk ∧ d < bk by have := HB0.out; have := HPRE.out; omega)
      clear hb0 hm hb
      go_wp2_with fail
      refine (puts_any w4 p d cap s0 _ _ _ _ (programW y v HYI.out HV.out) HC1.out HO0.out HM.out (Nat.le_refl _) (Off.new HLW.out.1 HLW.out.2) (by simp [programW, maxLen])).mono ?_
      rintro e w5 ⟨rfl, hz⟩
      rw [HE1.out] at hz
      have HC2 := Lib.hid (HC2.out.aside HC1.out hz HNE.out)
      have HC1 := Lib.hid hz.1
      have HBw5 := Lib.hid (HBN.out.trans (hz.far (N := w.heap.size) HP.out HD.out HBN.out.size))
      clear hz HB0 HM HBN HLX HLW
      have HPRE := Lib.hid HC2.out.lt
      go_wp2_with fail
      refine (program_put w5 y v HYI.out HV.out).mono ?_
      rintro e w6 ⟨bk, rfl, hb0, hm, hb⟩
      have HB0 := Lib.hid hb0
      have HM := Lib.hid hm
      have HC1 := Lib.hid (HC1.out.below hb)
      have HC2 := Lib.hid (HC2.out.below hb)
      have HBN := Lib.hid (HBw5.out.trans (hb.mono HBw5.out.size))
      have HLX := Lib.hid (HC2.out.lt)
      have HLW := Lib.hid (show p2 < bk ∧ d2 < bk by have := HB0.out; have := HPRE.out; omega)
      clear hb0 hm hb
      go_wp2_with fail
      refine (puts_any w6 p2 d2 cap2 s0 _ _ _ _ (programW y v HYI.out HV.out) HC2.out HO0.out HM.out (Nat.le_refl _) (Off.new HLW.out.1 HLW.out.2) (by simp [programW, maxLen])).mono ?_
      rintro e w7 ⟨rfl, hz⟩
      rw [HE1.out] at hz
      have HC1 := Lib.hid (HC1.out.aside HC2.out hz HEN.out)
      have HC2 := Lib.hid hz.1
      have HBw7 := Lib.hid (HBN.out.trans (hz.far (N := w.heap.size) HP2.out HD2.out HBN.out.size))
      clear hz HB0 HM HBN HLX HLW
      go_wp2_with fail
      refine (puts_any w7 p d cap s1 A2 n2 c2 w.heap.size l HC1.out HO1.out (HL.out.below HBw7.out) HBw7.out.size (HOP.out p d HP.out HD.out) (by unfold maxLen; omega)).mono ?_
      rintro e w8 ⟨rfl, hz⟩
      rw [HEL.out, ← HT0.out] at hz
      have HC2 := Lib.hid (HC2.out.aside HC1.out hz HNE.out)
      have HC1 := Lib.hid hz.1
      have HBw8 := Lib.hid (HBw7.out.trans (hz.far (N := w.heap.size) HP.out HD.out HBw7.out.size))
      clear hz
      go_wp2_with fail
      go_loopw [17, 18, 19] (fun la i _ wr => ∃ t : Nat, t ≤ r ∧ i = .int .i64 t ∧ la = .int .u8 (turnOf (t + 1)) ∧ ChipAt wr p d cap (sT t) ∧ ChipAt wr p2 d2 cap2 s1 ∧ Below w.heap.size w wr) (fun _ i _ _ => r - (intOf i).toNat)
      case atStart => exact ⟨0, Nat.zero_le _, rfl, rfl, HC1.out, HC2.out, HBw8.out⟩
      case round =>
        obtain ⟨t, ht, rfl, rfl, hc1, hc2, hbl⟩ := hrel
        have HC1 := Lib.hid hc1
        have HC2 := Lib.hid hc2
        have HBR := Lib.hid hbl
        clear hc1 hc2 hbl
        by_cases hlt : t < r
        · have ht1 : (t : Int) < (r : Int) := by omega
          have ht0 : (0 : Int) ≤ (t : Int) := by omega
          have HX := Lib.hid (HTT.out t (t : Int))
          have HNX := Lib.hid (turnOf_next t)
          by_cases hvl : v < 128
          · have hv1' : decide (128 ≤ v) = false := decide_eq_false (by omega)
            by_cases hev : t % 2 = 0
            · have hz4 : (if v < 128 then turnOf t + 128 else turnOf t) = 128 := by rw [if_pos hvl]; unfold turnOf; rw [if_pos (by omega)] <;> rfl
              rw [hz4] at HX
              have HTN := Lib.hid (show turnOf (t + 1) = 64 by unfold turnOf; rw [if_neg (by omega)])
              rw [HTN.out]
              have HTM := Lib.hid (show turnOf (t + 1 + 1) = 0 by unfold turnOf; rw [if_pos (by omega)])
              have b1 : bits .and .u8 128 64 = 0 := by decide
              have b2 : bits .and .u8 128 63 = 0 := by decide
              clear hz4
              go_wp2_with fail
              refine (read_any wr p d cap (sT t) (t : Int) HC1.out (HTO.out t)).mono ?_
              rintro e wx ⟨rfl, hz⟩
              rw [HX.out]
              rw [HTR.out] at hz
              have HC2 := Lib.hid (HC2.out.aside HC1.out hz HNE.out)
              have HC1 := Lib.hid hz.1
              have HBwx := Lib.hid (HBR.out.trans (hz.far (N := w.heap.size) HP.out HD.out HBR.out.size))
              clear hz
              go_wp2_with fail
              go_roundw
              case rel => exact ⟨t + 1, by omega, by go_num, by rw [HTM.out], HC1.out, HC2.out, HBwx.out⟩
              case measure => simp [intOf]; omega
            · have hz4 : (if v < 128 then turnOf t + 128 else turnOf t) = 192 := by rw [if_pos hvl]; unfold turnOf; rw [if_neg (by omega)] <;> rfl
              rw [hz4] at HX
              have HTN := Lib.hid (show turnOf (t + 1) = 0 by unfold turnOf; rw [if_pos (by omega)])
              rw [HTN.out]
              have HTM := Lib.hid (show turnOf (t + 1 + 1) = 64 by unfold turnOf; rw [if_neg (by omega)])
              have b1 : bits .and .u8 192 64 = 64 := by decide
              have b2 : bits .and .u8 192 63 = 0 := by decide
              clear hz4
              go_wp2_with fail
              refine (read_any wr p d cap (sT t) (t : Int) HC1.out (HTO.out t)).mono ?_
              rintro e wx ⟨rfl, hz⟩
              rw [HX.out]
              rw [HTR.out] at hz
              have HC2 := Lib.hid (HC2.out.aside HC1.out hz HNE.out)
              have HC1 := Lib.hid hz.1
              have HBwx := Lib.hid (HBR.out.trans (hz.far (N := w.heap.size) HP.out HD.out HBR.out.size))
              clear hz
              go_wp2_with fail
              go_roundw
              case rel => exact ⟨t + 1, by omega, by go_num, by rw [HTM.out], HC1.out, HC2.out, HBwx.out⟩
              case measure => simp [intOf]; omega
          · have hv1' : decide (128 ≤ v) = true := decide_eq_true (by omega)
            by_cases hev : t % 2 = 0
            · have hz4 : (if v < 128 then turnOf t + 128 else turnOf t) = 0 := by rw [if_neg hvl]; unfold turnOf; rw [if_pos (by omega)] <;> rfl
              rw [hz4] at HX
              have HTN := Lib.hid (show turnOf (t + 1) = 64 by unfold turnOf; rw [if_neg (by omega)])
              rw [HTN.out]
              have HTM := Lib.hid (show turnOf (t + 1 + 1) = 0 by unfold turnOf; rw [if_pos (by omega)])
              have b1 : bits .and .u8 0 64 = 0 := by decide
              have b2 : bits .and .u8 0 63 = 0 := by decide
              clear hz4
              go_wp2_with fail
              refine (read_any wr p d cap (sT t) (t : Int) HC1.out (HTO.out t)).mono ?_
              rintro e wx ⟨rfl, hz⟩
              rw [HX.out]
              rw [HTR.out] at hz
              have HC2 := Lib.hid (HC2.out.aside HC1.out hz HNE.out)
              have HC1 := Lib.hid hz.1
              have HBwx := Lib.hid (HBR.out.trans (hz.far (N := w.heap.size) HP.out HD.out HBR.out.size))
              clear hz
              go_wp2_with fail
              go_roundw
              case rel => exact ⟨t + 1, by omega, by go_num, by rw [HTM.out], HC1.out, HC2.out, HBwx.out⟩
              case measure => simp [intOf]; omega
            · have hz4 : (if v < 128 then turnOf t + 128 else turnOf t) = 64 := by rw [if_neg hvl]; unfold turnOf; rw [if_neg (by omega)] <;> rfl
              rw [hz4] at HX
              have HTN := Lib.hid (show turnOf (t + 1) = 0 by unfold turnOf; rw [if_pos (by omega)])
              rw [HTN.out]
              have HTM := Lib.hid (show turnOf (t + 1 + 1) = 64 by unfold turnOf; rw [if_neg (by omega)])
              have b1 : bits .and .u8 64 64 = 64 := by decide
              have b2 : bits .and .u8 64 63 = 0 := by decide
              clear hz4
              go_wp2_with fail
              refine (read_any wr p d cap (sT t) (t : Int) HC1.out (HTO.out t)).mono ?_
              rintro e wx ⟨rfl, hz⟩
              rw [HX.out]
              rw [HTR.out] at hz
              have HC2 := Lib.hid (HC2.out.aside HC1.out hz HNE.out)
              have HC1 := Lib.hid hz.1
              have HBwx := Lib.hid (HBR.out.trans (hz.far (N := w.heap.size) HP.out HD.out HBR.out.size))
              clear hz
              go_wp2_with fail
              go_roundw
              case rel => exact ⟨t + 1, by omega, by go_num, by rw [HTM.out], HC1.out, HC2.out, HBwx.out⟩
              case measure => simp [intOf]; omega
        · obtain rfl : t = r := by omega
          go_wp2_with fail
          refine (ticks_any wr p d cap (sT t) 10 HC1.out (HTO.out t) (by omega)).mono ?_
          rintro e w9 ⟨rfl, hz⟩
          rw [HE6.out] at hz
          have HC2 := Lib.hid (HC2.out.aside HC1.out hz HNE.out)
          have HC1 := Lib.hid hz.1
          have HBw9 := Lib.hid (HBR.out.trans (hz.far (N := w.heap.size) HP.out HD.out HBR.out.size))
          clear hz
          go_wp2_with fail
          refine (ticks_any w9 p2 d2 cap2 s1 10 HC2.out HO1.out (by omega)).mono ?_
          rintro e w10 ⟨rfl, hz⟩
          rw [HE5.out] at hz
          have HC1 := Lib.hid (HC1.out.aside HC2.out hz HEN.out)
          have HC2 := Lib.hid hz.1
          have HBw10 := Lib.hid (HBw9.out.trans (hz.far (N := w.heap.size) HP2.out HD2.out HBw9.out.size))
          clear hz
          go_wp2_with fail
          refine (bytes_any w10 p d cap s6 HC1.out HO6.out).mono ?_
          rintro e w11 ⟨vv, rfl, hv, hb⟩
          rw [HD6.out] at hv
          obtain ⟨Ba, cba, rfl, _, hn⟩ := hv.nums fun x hx => byte_wf (HDB5.out x hx)
          rw [HDL5.out] at hn ⊢
          have HNa := Lib.hid hn
          have HC1 := Lib.hid (HC1.out.below hb)
          have HC2 := Lib.hid (HC2.out.below hb)
          have HXa := Lib.hid hb
          have HBw11 := Lib.hid (HBw10.out.trans (hb.mono HBw10.out.size))
          clear hv hb hn
          go_wp2_with fail
          refine (bytes_any w11 p2 d2 cap2 s5 HC2.out HO5.out).mono ?_
          rintro e w12 ⟨vv, rfl, hv, hb⟩
          rw [HD5.out] at hv
          obtain ⟨Bb, cbb, rfl, _, hn⟩ := hv.nums fun x hx => byte_wf (HDB5.out x hx)
          rw [HDL5.out] at hn ⊢
          have HNb := Lib.hid hn
          have HC1 := Lib.hid (HC1.out.below hb)
          have HC2 := Lib.hid (HC2.out.below hb)
          have HXb := Lib.hid hb
          have HBw12 := Lib.hid (HBw11.out.trans (hb.mono HBw11.out.size))
          clear hv hb hn
          go_wp2_with fail
          refine (same_refl Ba Bb z cba cbb w12.heap.size D5 w12 (by unfold maxLen; omega) ((HNa.out.below HXb.out).mono HXb.out.size) HNb.out (Nat.le_refl _)).mono ?_
          rintro e w13 ⟨rfl, hb⟩
          have HC1 := Lib.hid (HC1.out.below hb)
          have HC2 := Lib.hid (HC2.out.below hb)
          have HBw13 := Lib.hid (HBw12.out.trans (hb.mono HBw12.out.size))
          clear hb
          go_wp2_with fail
          refine (left_any w13 p d cap s6 HC1.out).mono ?_
          rintro e w14 ⟨rfl, rfl⟩
          rw [HL6.out]
          go_wp2_with fail
          refine (read_any w13 p d cap s6 y HC1.out HO6.out).mono ?_
          rintro e w14 ⟨rfl, hz⟩
          rw [HQ.out]
          have HC2 := Lib.hid (HC2.out.aside HC1.out hz HNE.out)
          have HC1 := Lib.hid hz.1
          have HBw14 := Lib.hid (HBw13.out.trans (hz.far (N := w.heap.size) HP.out HD.out HBw13.out.size))
          clear hz
          go_wp2_with fail
          refine (read_any w14 p2 d2 cap2 s5 y HC2.out HO5.out).mono ?_
          rintro e w15 ⟨rfl, hz⟩
          rw [HTE.out, HQ.out]
          have HC1 := Lib.hid (HC1.out.aside HC2.out hz HEN.out)
          have HC2 := Lib.hid hz.1
          have HBw15 := Lib.hid (HBw14.out.trans (hz.far (N := w.heap.size) HP2.out HD2.out HBw14.out.size))
          clear hz
          go_wp2_with fail
          go_ret
          exact ⟨rfl, HBw15.out⟩
    · have hb2' : decide (40 < (n2 : Int)) = true := decide_eq_true (by omega)
      go_enter Try.func8, Try.ntmps8
      go_wp2_with fail
      refine (awake_any w).mono ?_
      rintro e w1 ⟨rfl, hb⟩
      have HB1 := Lib.hid hb
      clear hb
      go_wp2_with fail
      go_ret
      exact ⟨rfl, HB1.out⟩
  · have hb1' : decide (40 < (n1 : Int)) = true := decide_eq_true (by omega)
    go_enter Try.func8, Try.ntmps8
    go_wp2_with fail
    refine (awake_any w).mono ?_
    rintro e w1 ⟨rfl, hb⟩
    have HB1 := Lib.hid hb
    clear hb
    go_wp2_with fail
    go_ret
    exact ⟨rfl, HB1.out⟩
end Go.Proofs.Ytojdbmkbcjaikaa
