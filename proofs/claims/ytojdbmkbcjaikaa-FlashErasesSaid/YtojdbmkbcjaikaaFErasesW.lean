/-
  THE WALK OF FlashErases.
-/
import Derived.Test.YtojdbmkbcjaikaaFAwake
import Derived.Test.YtojdbmkbcjaikaaFVals
import Derived.Test.YtojdbmkbcjaikaaBSame
import Derived.Deep.RegionHeld3
import Derived.IntWalk
namespace Go.Proofs.Ytojdbmkbcjaikaa
open Go.RowKit
set_option maxRecDepth 20000

theorem sector_same (i j : Nat) : (((j : Int) - (j : Int) % 256 ≤ (i : Int) ∧ (i : Int) < (j : Int) - (j : Int) % 256 + ((256 : Nat) : Int))) ↔ i / 256 = j / 256 := by omega
theorem ones (z : Nat) : fillL [255] z = List.replicate z 255 := by
  refine ext_getD (by simp [fillL_len]) fun i hi => ?_
  rw [fillL_len] at hi
  rw [fillL_get _ _ _ hi]
  simp [List.getD, hi, Nat.mod_one]
set_option maxRecDepth 100000 in
set_option maxHeartbeats 4000000 in
theorem flashErases_walk (w : World) (a : Int) (wa : (Lit.int .u8 a).wf = true) (A1 : Option Addr) (n1 c1 : Nat) (z1 : List Int) (r1 : IsRow .u8 w A1 n1 c1 z1) (y : Int) (wy : (Lit.int .u16 y).wf = true) :
    Calls Try.prog 6 #[.int .u8 a, .slice A1 n1 c1, .int .u16 y] w fun e w' => e = .returned (.bool true) ∧ Below w.heap.size w w' := by
  have ha : 0 ≤ a ∧ a ≤ 255 := by simpa [Lit.wf, IntKind.min, IntKind.max, IntKind.signed, IntKind.bits] using wa
  have HN1 := Lib.hid r1.nums
  have hm1 := r1.len_le.2
  unfold maxLen at hm1
  obtain ⟨ha0, ha1⟩ := ha
  clear r1 wa
  obtain ⟨b, hl1⟩ : ∃ l, z1.take n1 = l := ⟨_, rfl⟩
  rw [hl1] at HN1
  clear hl1
  obtain ⟨k, hkr⟩ : ∃ k : Nat, 1 + a % 4 = (k : Int) := ⟨(1 + a % 4).toNat, by omega⟩
  have hk1 : 1 ≤ k := by omega
  have hk4 : k ≤ 4 := by omega
  have HK := Lib.hid (show 1 ≤ k ∧ k ≤ 64 by omega)
  obtain ⟨z, hz⟩ : ∃ z : Nat, 256 * k = z := ⟨_, rfl⟩
  have hzr : 256 * (k : Int) = (z : Int) := by omega
  have hz0 : 256 ≤ z := by omega
  have hz1 : z ≤ 1024 := by omega
  have HZ := Lib.hid hz
  have HO0 := Lib.hid (show (made k b).Ok from made_ok HK.out HN1.out.byte)
  obtain ⟨D, hDD⟩ : ∃ D, (made k b).data = D := ⟨_, rfl⟩
  have HSD := Lib.hid hDD
  have HDL := Lib.hid (show D.length = z by rw [← hDD, ← hz]; exact fillL_len _ _)
  have HDB := Lib.hid (show ∀ v ∈ D, 0 ≤ v ∧ v ≤ 255 by rw [← hDD]; exact HO0.out.byte)
  have hsize : (made k b).data.length = z := by rw [hDD]; exact HDL.out
  obtain ⟨s0, hs0⟩ : ∃ s, made k b = s := ⟨_, rfl⟩
  have HS0 := Lib.hid hs0
  have hs0l : s0.left = 0 := by rw [← hs0]; rfl
  have hs0k : s0.k = 0 := by rw [← hs0]; rfl
  have hs0n : s0.named = false := by rw [← hs0]; rfl
  rw [hs0] at HO0 HSD hsize
  have HSZ := Lib.hid hsize
  clear hs0 hz hDD
  have hy : 0 ≤ y ∧ y ≤ 65535 := by simpa [Lit.wf, IntKind.min, IntKind.max, IntKind.signed, IntKind.bits] using wy
  obtain ⟨hy0, hy1⟩ := hy
  clear wy
  by_cases hb1 : n1 ≤ 40
  · have hb1' : decide (40 < (n1 : Int)) = false := decide_eq_false (by omega)
    obtain ⟨j, hj⟩ : ∃ j : Nat, y % (z : Int) = j := ⟨(y % (z : Int)).toNat, by have := Int.emod_nonneg y (show (z : Int) ≠ 0 by omega); omega⟩
    have hjz : j < z := by have := Int.emod_lt_of_pos y (show (0 : Int) < z by omega); omega
    have hji : IsInt (j : Int) := ⟨by omega, by omega⟩
    have HJI := Lib.hid hji
    have hpl : s0.place (j : Int) = j := by
      unfold Flash.place Flash.size
      rw [hsize, Int.max_eq_left (by omega)]
      exact Int.emod_eq_of_lt (by omega) (by omega)
    obtain ⟨s1, hs1⟩ : ∃ s : Flash, s0.busy 100 2 ((j : Int) - (j : Int) % 256) 256 0 = s := ⟨_, rfl⟩
    have HE1 := Lib.hid (show s0.puts (eraseW (j : Int) HJI.out) = s1 by rw [Flash.puts_erase HO0.out hs0l hs0k, hpl]; exact hs1)
    have HO1 := Lib.hid (show s1.Ok by rw [← HE1.out]; exact puts_ok _ HO0.out)
    obtain ⟨s2, hs2⟩ : ∃ s : Flash, { s1 with left := 1 } = s := ⟨_, rfl⟩
    have HE2 := Lib.hid (show s1.ticks 99 = s2 by rw [Flash.ticks_lt 99 (by rw [← hs1]; show (99 : Int) < 100; decide), ← hs2, ← hs1]; rfl)
    have HO2 := Lib.hid (show s2.Ok by rw [← HE2.out]; exact ticks_ok _ HO1.out)
    have HD2 := Lib.hid (show s2.data = D by rw [← hs2, ← hs1]; exact HSD.out)
    have HL2 := Lib.hid (show s2.left = 1 by rw [← hs2])
    obtain ⟨s3, hs3⟩ : ∃ s : Flash, s2.ticks 1 = s := ⟨_, rfl⟩
    have HE3 := Lib.hid hs3
    have HO3 := Lib.hid (show s3.Ok by rw [← HE3.out]; exact ticks_ok _ HO2.out)
    have hs3' : s3 = ({ s2 with left := 0 } : Flash).finish := by rw [← hs3]; exact Flash.ticks_end 0 (by rw [HL2.out]; rfl)
    have hs3l : s3.left = 0 := by rw [hs3']; rfl
    have hs3k : s3.k = 0 := by rw [hs3', ← hs2, ← hs1]; rfl
    obtain ⟨D', hd3⟩ : ∃ D', s3.data = D' := ⟨_, rfl⟩
    have HD3 := Lib.hid hd3
    have HDL' := Lib.hid (show D'.length = z by
      rw [← hd3, hs3']
      show (Flash.doneTo { s2 with left := 0 } _).length = z
      rw [Flash.doneTo_len]
      show s2.data.length = z
      rw [HD2.out]
      exact HDL.out)
    have HDB' := Lib.hid (show ∀ v ∈ D', 0 ≤ v ∧ v ≤ 255 by rw [← hd3]; exact HO3.out.byte)
    have HGET := Lib.hid (show ∀ i, i < z → D'.getD i 0 = if i / 256 = j / 256 then 255 else D.getD i 0 by
      intro i hi
      rw [← hd3, hs3']
      show (Flash.doneTo { s2 with left := 0 } _).getD i 0 = _
      rw [Flash.doneTo_get _ _ _ (by show i < s2.data.length; rw [HD2.out, HDL.out]; exact hi)]
      show (if s2.wf ≤ (i : Int) ∧ (i : Int) < s2.wf + ((s2.wm.toNat : Nat) : Int) then Flash.upd { s2 with left := 0 } (s2.data.getD i 0) else s2.data.getD i 0) = _
      rw [HD2.out, ← hs2, ← hs1]
      show (if (j : Int) - (j : Int) % 256 ≤ (i : Int) ∧ (i : Int) < (j : Int) - (j : Int) % 256 + ((256 : Nat) : Int) then (255 : Int) else D.getD i 0) = _
      simp only [sector_same])
    have hsz3 : s3.size = z := by unfold Flash.size; rw [hd3, HDL'.out]
    obtain ⟨s4, hs4⟩ : ∃ s : Flash, s3.busy 200 2 0 (z : Int) 0 = s := ⟨_, rfl⟩
    have HE4 := Lib.hid (show s3.puts wholeW = s4 by rw [Flash.puts_whole HO3.out hs3l hs3k, hsz3]; exact hs4)
    have HO4 := Lib.hid (show s4.Ok by rw [← HE4.out]; exact puts_ok _ HO3.out)
    have HL4 := Lib.hid (show s4.left = 200 by rw [← hs4]; rfl)
    obtain ⟨s5, hs5⟩ : ∃ s : Flash, s4.ticks 200 = s := ⟨_, rfl⟩
    have HE5 := Lib.hid hs5
    have HO5 := Lib.hid (show s5.Ok by rw [← HE5.out]; exact ticks_ok _ HO4.out)
    have hs5' : s5 = ({ s4 with left := 0 } : Flash).finish := by rw [← hs5]; exact Flash.ticks_end 199 (by rw [HL4.out]; rfl)
    obtain ⟨D5, hD5⟩ : ∃ D5, fillL [255] z = D5 := ⟨_, rfl⟩
    have HF5 := Lib.hid hD5
    have HDL5 := Lib.hid (show D5.length = z by rw [← hD5, fillL_len])
    have HDB5 := Lib.hid (show ∀ v ∈ D5, 0 ≤ v ∧ v ≤ 255 by rw [← hD5]; exact fillL_in _ (by decide))
    have HD5 := Lib.hid (show s5.data = D5 by
      rw [← hD5, ones, hs5']
      have hl4 : s4.data.length = z := by rw [← hs4]; show s3.data.length = z; rw [hd3, HDL'.out]
      refine ext_getD (by rw [List.length_replicate]; exact (Eq.trans (Flash.doneTo_len _ _) hl4).symm) fun i hi => ?_
      have hi' : i < z := by
        have : (Flash.finish { s4 with left := 0 }).data.length = z := Eq.trans (Flash.doneTo_len _ _) hl4
        rwa [this] at hi
      show (Flash.doneTo { s4 with left := 0 } _).getD i 0 = _
      rw [Flash.doneTo_get _ _ _ (by show i < s4.data.length; omega)]
      show (if s4.wf ≤ (i : Int) ∧ (i : Int) < s4.wf + ((s4.wm.toNat : Nat) : Int) then Flash.upd { s4 with left := 0 } (s4.data.getD i 0) else s4.data.getD i 0) = _
      rw [if_pos (by rw [← hs4]; show (0 : Int) ≤ (i : Int) ∧ (i : Int) < 0 + (((z : Int).toNat : Nat) : Int); omega)]
      rw [← hs4]
      show (255 : Int) = _
      simp [List.getD, hi'])
    have hj0 : (0 : Int) ≤ (j : Int) := by omega
    have hjz' : (j : Int) < (z : Int) := by omega
    clear hs1 hs2 hs3 hs3' hd3 hs0l hs0k hs0n hsize hji hpl hs4 hs5 hs5' hD5 hsz3 hs3l hs3k
    go_enter Try.func6, Try.ntmps6
    go_wp2_with fail
    refine (awake_any w).mono ?_
    rintro e w1 ⟨rfl, hb⟩
    have HB1 := Lib.hid hb
    clear hb
    go_wp2_with fail
    refine (made_any k A1 n1 c1 w.heap.size b w1 (HN1.out.below HB1.out) HB1.out.size (by omega) HK.out).mono ?_
    rintro e w2 ⟨v, rfl, p, d, cap, rfl, hc, hp, hd, hb⟩
    rw [HS0.out] at hc
    have HC := Lib.hid hc
    have HP := Lib.hid (show w.heap.size ≤ p by have := HB1.out.size; omega)
    have HD := Lib.hid (show w.heap.size ≤ d by have := HB1.out.size; omega)
    have HB2 := Lib.hid (HB1.out.trans (hb.mono HB1.out.size))
    have HLT := Lib.hid hc.lt
    clear hc hp hd hb
    go_wp2_with fail
    refine (bytes_any w2 p d cap s0 HC.out HO0.out).mono ?_
    rintro e w3 ⟨v, rfl, hv, hb⟩
    rw [HSD.out] at hv
    obtain ⟨g, c3, rfl, hg1, hg2, hn3⟩ : ∃ g c3, v = .slice (some ⟨g, 0, none⟩) z c3 ∧ w2.heap.size ≤ g ∧ g < w3.heap.size ∧ Nums .u8 w3 w3.heap.size (some ⟨g, 0, none⟩) z D := by
      obtain ⟨A3, c3, rfl, _, hm⟩ := hv.mine
      rw [HDL.out] at hm ⊢
      obtain ⟨g, rfl, hg1, hg2, _⟩ := hm.2 (by omega)
      exact ⟨g, c3, rfl, hg1, hg2, hm.nums fun x hx => byte_wf (HDB.out x hx)⟩
    have HW := Lib.hid hv
    have HN3 := Lib.hid hn3
    have HB3 := Lib.hid (HB2.out.trans (hb.mono HB2.out.size))
    have Z0 := Lib.hid (HC.out.below hb).went
    have HG := Lib.hid (show p < g ∧ d < g by have := HLT.out; omega)
    have HGL := Lib.hid hg2
    clear hv hb hn3 hg1 hg2
    go_wp2_with fail
    refine (erase_put w3 (j : Int) HJI.out).mono ?_
    rintro e w4 ⟨bk, rfl, hb0, hm, hb⟩
    have HB0 := Lib.hid hb0
    have HM := Lib.hid hm
    have HBB := Lib.hid hb
    clear hb0 hm hb
    go_wp2_with fail
    refine (puts_any w4 p d cap s0 _ _ _ _ (eraseW (j : Int) HJI.out) (Z0.out.1.below HBB.out) HO0.out HM.out (Nat.le_refl _) (Off.new (by have := HB0.out; have := Z0.out.1.lt; omega) (by have := HB0.out; have := Z0.out.1.lt; omega)) (by simp [eraseW, maxLen])).mono ?_
    rintro e w5 ⟨rfl, hz⟩
    rw [HE1.out] at hz
    have Zw5 := Lib.hid (Z0.out.then_ (Went.after HBB.out hz))
    clear hz HB0 HM HBB
    go_wp2_with fail
    refine (ticks_any w5 p d cap s1 99 Zw5.out.1 HO1.out (by omega)).mono ?_
    rintro e w6 ⟨rfl, hz⟩
    rw [HE2.out] at hz
    have Zw6 := Lib.hid (Zw5.out.then_ hz)
    clear hz
    go_wp2_with fail
    refine (bytes_any w6 p d cap s2 Zw6.out.1 HO2.out).mono ?_
    rintro e w7 ⟨v, rfl, hv, hb⟩
    rw [HD2.out] at hv
    obtain ⟨Ba, cba, rfl, _, hn⟩ := hv.nums fun x hx => byte_wf (HDB.out x hx)
    rw [HDL.out] at hn ⊢
    have HNa := Lib.hid hn
    have Zw7 := Lib.hid (Zw6.out.calm hb)
    clear hv hb hn
    go_wp2_with fail
    refine (same_refl Ba (some ⟨g, 0, none⟩) z cba c3 w7.heap.size D w7 (by unfold maxLen; omega) HNa.out ((HN3.out.off Zw7.out.2 (Nat.le_refl _) (Off.new HG.out.1 HG.out.2)).mono Zw7.out.2.size) (Nat.le_refl _)).mono ?_
    rintro e w8 ⟨rfl, hb⟩
    have Zw8 := Lib.hid (Zw7.out.calm hb)
    clear hb
    go_wp2_with fail
    refine (ticks_any w8 p d cap s2 1 Zw8.out.1 HO2.out (by omega)).mono ?_
    rintro e w9 ⟨rfl, hz⟩
    rw [HE3.out] at hz
    have Zw9 := Lib.hid (Zw8.out.then_ hz)
    clear hz
    go_wp2_with fail
    refine (bytes_any w9 p d cap s3 Zw9.out.1 HO3.out).mono ?_
    rintro e w10 ⟨v, rfl, hv, hb⟩
    rw [HD3.out] at hv
    obtain ⟨Bb, cbb, rfl, _, hn⟩ := hv.nums fun x hx => byte_wf (HDB'.out x hx)
    rw [HDL'.out] at hn ⊢
    have HNb := Lib.hid hn
    have Zw10 := Lib.hid (Zw9.out.calm hb)
    clear hv hb hn
    have HNG := Lib.hid ((HN3.out.off Zw10.out.2 (Nat.le_refl _) (Off.new HG.out.1 HG.out.2)).mono Zw10.out.2.size)
    go_wp2_with fail
    go_loopw [14] (fun i wr => ∃ t : Nat, t ≤ z ∧ i = .int .i64 t ∧ Below w10.heap.size w10 wr) (fun i _ => z - (intOf i).toNat)
    case atStart => exact ⟨0, Nat.zero_le _, rfl, Below.refl _ _⟩
    case round =>
      obtain ⟨t, ht, rfl, hbl⟩ := hrel
      have HBL := Lib.hid hbl
      clear hbl
      by_cases hlt : t < z
      · have ht1 : (t : Int) < (z : Int) := by omega
        have ht0 : (0 : Int) ≤ (t : Int) := by omega
        obtain ⟨bb, oo, rfl, cb⟩ := HNb.out.cell HBL.out t hlt
        obtain ⟨bg, og, hge, cg⟩ := HNG.out.cell HBL.out t hlt
        injection hge with hge
        injection hge with hg1 hg2 hg3
        subst hg1 hg2
        rw [Nat.zero_add] at cg
        rw [HGET.out t hlt] at cb
        by_cases hsec : t / 256 = j / 256
        · rw [if_pos hsec] at cb
          generalize D.getD t 0 = x at *
          have q1 : ((t : Int) / 256 == (j : Int) / 256) = true := by simp; omega
          have q2 : ((t : Int) / 256 != (j : Int) / 256) = false := by simp; omega
          clear hsec
          go_wp2_with fail
          go_quiet (fail)
          go_wp2_with fail
          go_roundw
          case rel => exact ⟨t + 1, by omega, by go_num, below_drewN HBL.out _⟩
          case measure => simp [intOf]; omega
        · rw [if_neg hsec] at cb
          generalize D.getD t 0 = x at *
          have q1 : ((t : Int) / 256 == (j : Int) / 256) = false := by simp; omega
          have q2 : ((t : Int) / 256 != (j : Int) / 256) = true := by simp; omega
          have q3 : (x != x) = false := by simp
          clear hsec
          go_wp2_with fail
          go_quiet (fail)
          go_wp2_with fail
          go_roundw
          case rel => exact ⟨t + 1, by omega, by go_num, below_drewN HBL.out _⟩
          case measure => simp [intOf]; omega
      · obtain rfl : t = z := by omega
        have ZR := Lib.hid (Zw10.out.calm HBL.out)
        go_wp2_with fail
        refine (whole_put wr).mono ?_
        rintro e w21 ⟨bk, rfl, hb0, hm, hb⟩
        have HB0 := Lib.hid hb0
        have HM := Lib.hid hm
        have HBB := Lib.hid hb
        clear hb0 hm hb
        go_wp2_with fail
        refine (puts_any w21 p d cap s3 _ _ _ _ wholeW (ZR.out.1.below HBB.out) HO3.out HM.out (Nat.le_refl _) (Off.new (by have := HB0.out; have := ZR.out.1.lt; omega) (by have := HB0.out; have := ZR.out.1.lt; omega)) (by decide)).mono ?_
        rintro e w22 ⟨rfl, hz⟩
        rw [HE4.out] at hz
        have Zw22 := Lib.hid (ZR.out.then_ (Went.after HBB.out hz))
        clear hz HB0 HM HBB
        go_wp2_with fail
        refine (left_any w22 p d cap s4 Zw22.out.1).mono ?_
        rintro e w23 ⟨rfl, rfl⟩
        rw [HL4.out]
        go_wp2_with fail
        refine (ticks_any w22 p d cap s4 200 Zw22.out.1 HO4.out (by omega)).mono ?_
        rintro e w23 ⟨rfl, hz⟩
        rw [HE5.out] at hz
        have Zw23 := Lib.hid (Zw22.out.then_ hz)
        clear hz
        go_wp2_with fail
        refine (bytes_any w23 p d cap s5 Zw23.out.1 HO5.out).mono ?_
        rintro e w24 ⟨v, rfl, hv, hb⟩
        rw [HD5.out] at hv
        obtain ⟨Bc, cbc, rfl, _, hn⟩ := hv.nums fun x hx => byte_wf (HDB5.out x hx)
        rw [HDL5.out] at hn ⊢
        have HNc := Lib.hid hn
        have Zw24 := Lib.hid (Zw23.out.calm hb)
        clear hv hb hn
        go_wp2_with fail
        have HN9 := Lib.hid (show Nums .u8 (w24.alloc (.cells #[.int .u8 255] 5)) (w24.heap.size + 1) (some ⟨w24.heap.size, 0, none⟩) 1 [255] from ⟨rfl, by decide, fun _ => ⟨_, 0, rfl, by omega, fun i hi => by
          obtain rfl : i = 0 := by omega
          exact (Blk.new w24 5 #[.int .u8 255]).cell 0⟩⟩)
        have HBB9 := Lib.hid (below_box w24 (.cells #[.int .u8 255] 5))
        refine (fill_any _ 1 1 _ t [255] _ HN9.out (by simp) (by omega) (by omega)).mono ?_
        rintro e w40 ⟨v, rfl, hv, hb⟩
        rw [HF5.out] at hv
        obtain ⟨Bf, cbf, rfl, _, hn⟩ := hv.nums fun x hx => byte_wf (HDB5.out x hx)
        rw [HDL5.out] at hn ⊢
        have HNf := Lib.hid hn
        have HBB8 := Lib.hid (HBB9.out.trans (hb.mono (by simp)))
        clear hv hb hn
        go_wp2_with fail
        refine (same_refl Bc Bf t cbc cbf w40.heap.size D5 w40 (by unfold maxLen; omega) ((HNc.out.below HBB8.out).mono HBB8.out.size) HNf.out (Nat.le_refl _)).mono ?_
        rintro e w41 ⟨rfl, hb⟩
        have HBB7 := Lib.hid (HBB8.out.trans (hb.mono HBB8.out.size))
        clear hb
        go_wp2_with fail
        go_ret
        exact ⟨rfl, HB3.out.trans (((Zw24.out.calm HBB7.out).far (N := w.heap.size) HP.out HD.out HB3.out.size))⟩
  · have hb1' : decide (40 < (n1 : Int)) = true := decide_eq_true (by omega)
    go_enter Try.func6, Try.ntmps6
    go_wp2_with fail
    refine (awake_any w).mono ?_
    rintro e w1 ⟨rfl, hb⟩
    have HB1 := Lib.hid hb
    clear hb
    go_wp2_with fail
    go_ret
    exact ⟨rfl, HB1.out⟩
end Go.Proofs.Ytojdbmkbcjaikaa
