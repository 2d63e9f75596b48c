/-
  THE WALK OF EepromBusy.
-/
import Derived.Test.YtfcdlnpfneinlaaDoorEBusyV
import Derived.Test.YtfcdlnpfneinlaaDoorEAwake
import Derived.Test.YtfcdlnpfneinlaaDoorBSame
namespace Go.Proofs.YtfcdlnpfneinlaaDoor
open Go.RowKit
set_option maxRecDepth 20000

set_option maxRecDepth 100000 in
set_option maxHeartbeats 8000000 in
theorem eepromBusy_walk (w : World) (a : Int) (wa : (Lit.int .u8 a).wf = true) (A1 : Option Addr) (n1 c1 : Nat) (z1 : List Int) (r1 : IsRow .u8 w A1 n1 c1 z1) (ad : Int) (wad : (Lit.int .u16 ad).wf = true) (x : Int) (wx : (Lit.int .u8 x).wf = true) (hT : Tab w) :
    Calls Tryd.prog 7 #[.int .u8 a, .slice A1 n1 c1, .int .u16 ad, .int .u8 x] w fun e w' => e = .returned (.bool true) ∧ Below w.heap.size w w' := by
  have hx : 0 ≤ x ∧ x ≤ 255 := by simpa [Lit.wf, IntKind.min, IntKind.max, IntKind.signed, IntKind.bits] using wx
  have had : 0 ≤ ad ∧ ad ≤ 65535 := by simpa [Lit.wf, IntKind.min, IntKind.max, IntKind.signed, IntKind.bits] using wad
  obtain ⟨hx0, hx1⟩ := hx
  obtain ⟨had0, had1⟩ := had
  clear wx wad
  have HT := Lib.hid hT
  have ha : 0 ≤ a ∧ a ≤ 255 := by simpa [Lit.wf, IntKind.min, IntKind.max, IntKind.signed, IntKind.bits] using wa
  have HN1 := Lib.hid r1.nums
  have hm1 := r1.len_le.2
  unfold maxLen at hm1
  obtain ⟨ha0, ha1⟩ := ha
  clear hT r1 wa
  obtain ⟨b, hl1⟩ : ∃ l, z1.take n1 = l := ⟨_, rfl⟩
  rw [hl1] at HN1
  clear hl1
  obtain ⟨k, hk⟩ : ∃ k, 1 + a % 5 = k := ⟨_, rfl⟩
  have hk1 : 1 ≤ k := by omega
  have hk5 : k ≤ 5 := by omega
  have HK := Lib.hid (show 1 ≤ k ∧ k ≤ 10 by omega)
  have hks := kind_size HK.out
  obtain ⟨z, hz⟩ : ∃ z : Nat, gcol k 0 = z := ⟨(gcol k 0).toNat, by omega⟩
  have HZ := Lib.hid hz
  have hz0 : 128 ≤ z := by omega
  have hz1 : z ≤ 65536 := by omega
  have hkr : 1 + a % 5 = k := hk
  clear hks hz
  obtain ⟨D, hD⟩ : ∃ D, fillL b z = D := ⟨_, rfl⟩
  have HD := Lib.hid hD
  have HDL := Lib.hid (show D.length = z by rw [← hD, fillL_len])
  have HDB := Lib.hid (show ∀ v ∈ D, 0 ≤ v ∧ v ≤ 255 by rw [← hD]; exact fillL_in z HN1.out.byte)
  obtain ⟨s0, hs0⟩ : ∃ s0, fresh k D = s0 := ⟨_, rfl⟩
  have HO0 := Lib.hid (show Chip.Ok 0 s0 by rw [← hs0]; exact fresh_ok k D HK.out (by rw [HDL.out, HZ.out]) HDB.out)
  have HJ0 := Lib.hid (show s0.join = false by rw [← hs0]; rfl)
  have HI0 := Lib.hid (show Id k D 0 s0 by rw [← hs0]; exact ⟨rfl, rfl, rfl, rfl, rfl, rfl, rfl, rfl, rfl, rfl, rfl⟩)
  have HS0 := Lib.hid hs0
  clear hD
  by_cases hb1 : n1 ≤ 40
  · have hb1' : decide (40 < (n1 : Int)) = false := decide_eq_false (by omega)
    have hzp : (0 : Int) < (z : Int) := by omega
    obtain ⟨at_, hat⟩ : ∃ y, ad % (z : Int) = y := ⟨_, rfl⟩
    have hat1 : 0 ≤ at_ ∧ at_ < (z : Int) := by rw [← hat]; exact ⟨Int.emod_nonneg _ (by omega), Int.emod_lt_of_pos _ hzp⟩
    obtain ⟨hat2, hat3⟩ := hat1
    obtain ⟨s1, hs1⟩ : ∃ s1, s0.aim k at_ = s1 := ⟨_, rfl⟩
    have HS1 := Lib.hid hs1
    have HO1 := Lib.hid (show Chip.Ok 85 s1 by rw [← hs1]; exact aim_ok k at_ HO0.out (by omega))
    have HJ1 := Lib.hid (show s1.join = false by rw [← hs1]; exact aim_join k at_ HJ0.out)
    clear hs1
    obtain ⟨s2, hs2⟩ : ∃ s2, s1.put x = s2 := ⟨_, rfl⟩
    have HS2 := Lib.hid hs2
    have HO2 := Lib.hid (show Chip.Ok 112 s2 by rw [← hs2]; exact put_ok x HO1.out (by omega))
    have HJ2 := Lib.hid (show s2.join = false by rw [← hs2]; exact put_join x HJ1.out)
    clear hs2
    obtain ⟨s3, hs3⟩ : ∃ s3, s2.steps true endL = s3 := ⟨_, rfl⟩
    have HS3 := Lib.hid hs3
    have HO3 := Lib.hid (show Chip.Ok 115 s3 by rw [← hs3]; exact steps_ok true endL HO2.out (by omega))
    have HJ3 := Lib.hid (show s3.join = false by rw [← hs3]; exact steps_join true endL HJ2.out)
    clear hs3
    obtain ⟨s4, hs4⟩ : ∃ s4, s3.aim k at_ = s4 := ⟨_, rfl⟩
    have HS4 := Lib.hid hs4
    have HO4 := Lib.hid (show Chip.Ok 200 s4 by rw [← hs4]; exact aim_ok k at_ HO3.out (by omega))
    have HJ4 := Lib.hid (show s4.join = false by rw [← hs4]; exact aim_join k at_ HJ3.out)
    clear hs4
    obtain ⟨s5, hs5⟩ : ∃ s5, s4.put x = s5 := ⟨_, rfl⟩
    have HS5 := Lib.hid hs5
    have HO5 := Lib.hid (show Chip.Ok 227 s5 by rw [← hs5]; exact put_ok x HO4.out (by omega))
    have HJ5 := Lib.hid (show s5.join = false by rw [← hs5]; exact put_join x HJ4.out)
    clear hs5
    obtain ⟨s6, hs6⟩ : ∃ s6, s5.steps false beginL = s6 := ⟨_, rfl⟩
    have HS6 := Lib.hid hs6
    have HO6 := Lib.hid (show Chip.Ok 231 s6 by rw [← hs6]; exact steps_ok false beginL HO5.out (by omega))
    have HJ6 := Lib.hid (show s6.join = false by rw [← hs6]; exact steps_join false beginL HJ5.out)
    clear hs6
    obtain ⟨s7, hs7⟩ : ∃ s7, s6.steps false endL = s7 := ⟨_, rfl⟩
    have HS7 := Lib.hid hs7
    have HO7 := Lib.hid (show Chip.Ok 234 s7 by rw [← hs7]; exact steps_ok false endL HO6.out (by omega))
    have HJ7 := Lib.hid (show s7.join = false by rw [← hs7]; exact steps_join false endL HJ6.out)
    clear hs7
    obtain ⟨s8, hs8⟩ : ∃ s8, s7.aim k at_ = s8 := ⟨_, rfl⟩
    have HS8 := Lib.hid hs8
    have HO8 := Lib.hid (show Chip.Ok 319 s8 by rw [← hs8]; exact aim_ok k at_ HO7.out (by omega))
    have HJ8 := Lib.hid (show s8.join = false by rw [← hs8]; exact aim_join k at_ HJ7.out)
    clear hs8
    obtain ⟨s9, hs9⟩ : ∃ s9, s8.put x = s9 := ⟨_, rfl⟩
    have HS9 := Lib.hid hs9
    have HO9 := Lib.hid (show Chip.Ok 346 s9 by rw [← hs9]; exact put_ok x HO8.out (by omega))
    have HJ9 := Lib.hid (show s9.join = false by rw [← hs9]; exact put_join x HJ8.out)
    clear hs9
    obtain ⟨s10, hs10⟩ : ∃ s10, s9.steps false endL = s10 := ⟨_, rfl⟩
    have HS10 := Lib.hid hs10
    have HO10 := Lib.hid (show Chip.Ok 349 s10 by rw [← hs10]; exact steps_ok false endL HO9.out (by omega))
    have HJ10 := Lib.hid (show s10.join = false by rw [← hs10]; exact steps_join false endL HJ9.out)
    clear hs10
    obtain ⟨s11, hs11⟩ : ∃ s11, s10.steps false beginL = s11 := ⟨_, rfl⟩
    have HS11 := Lib.hid hs11
    have HO11 := Lib.hid (show Chip.Ok 353 s11 by rw [← hs11]; exact steps_ok false beginL HO10.out (by omega))
    have HJ11 := Lib.hid (show s11.join = false by rw [← hs11]; exact steps_join false beginL HJ10.out)
    clear hs11
    obtain ⟨s12, hs12⟩ : ∃ s12, s11.put 160 = s12 := ⟨_, rfl⟩
    have HS12 := Lib.hid hs12
    have HO12 := Lib.hid (show Chip.Ok 380 s12 by rw [← hs12]; exact put_ok 160 HO11.out (by omega))
    have HJ12 := Lib.hid (show s12.join = false by rw [← hs12]; exact put_join 160 HJ11.out)
    clear hs12
    have hat0 : 0 ≤ at_ := by omega
    have HA1 := aim_rd (HI0.out.begin false) HK.out (by rw [HDL.out, HZ.out]) (z := at_) (by omega) (by rw [HZ.out]; omega)
    rw [HS1.out] at HA1
    have R2 := (HA1.1.dat x hx0 hx1).2
    rw [HS2.out] at R2
    have R3 := R2.stop_no
    rw [HS3.out] at R3
    have HV3 := Lib.hid R3.left
    have R4 := (aim_rd (R3.begin false) HK.out (by rw [HDL.out, HZ.out]) (z := at_) (by omega) (by rw [HZ.out]; omega)).1
    rw [HS4.out] at R4
    have R5 := (R4.dat x hx0 hx1).2
    rw [HS5.out] at R5
    have R6 := R5.begin false
    rw [HS6.out] at R6
    have R7 := R6.stop_dev false
    rw [HS7.out] at R7
    have HV7 := Lib.hid R7.left
    have R8 := (aim_rd (R7.begin false) HK.out (by rw [HDL.out, HZ.out]) (z := at_) (by omega) (by rw [HZ.out]; omega)).1
    rw [HS8.out] at R8
    have R9 := (R8.dat x hx0 hx1).2
    rw [HS9.out] at R9
    have R10 := R9.stop_yes (by simp)
    rw [HS10.out] at R10
    have HV10 := Lib.hid R10.left
    obtain ⟨t, ht, hte⟩ := R10.mask
    have e11 := mask_begin ht 50 ([] ++ [(at_, x)]) (by omega) false
    rw [← hte, HS11.out] at e11
    have R12 := mask_put (ht.begin false) 160 46 ([] ++ [(at_, x)]) (by omega)
    rw [show (50 : Int) - 4 = 46 from rfl] at e11
    rw [← e11] at R12
    have HV12 := Lib.hid R12.1
    have HV12D := Lib.hid (show s12.data = D by rw [← HS12.out]; exact R12.2)
    clear HA1 R2 R3 R4 R5 R6 R7 R8 R9 R10 ht hte e11 R12
    go_enter Tryd.func7, Tryd.ntmps7
    go_wp2_with fail
    refine (awake_any w HT.out).mono ?_
    rintro e w1 ⟨rfl, hb⟩
    have HB1 := Lib.hid hb
    have HT1 := Lib.hid (tab_below HT.out hb (tab_pos HT.out))
    clear hb
    go_wp2_with fail
    refine (refEeprom_any k z w1 w1 (On.start HT1.out) HZ.out).mono ?_
    rintro e w2 ⟨rfl, hb⟩
    have HB2 := Lib.hid (HB1.out.trans (hb.bel.mono HB1.out.size))
    have HT2 := Lib.hid hb.tab
    clear hb
    go_wp2_with fail
    refine (fill_any A1 n1 c1 w.heap.size z b w2 (HN1.out.below HB2.out) HB2.out.size (by omega) (by omega)).mono ?_
    rintro e w3 ⟨v, rfl, hv, hb⟩
    rw [HD.out] at hv
    obtain ⟨A3, c3, rfl, _, hn3⟩ := hv.nums fun x hx => byte_wf (HDB.out x hx)
    rw [HDL.out] at hn3 ⊢
    have HN3 := Lib.hid hn3
    have HB3 := Lib.hid (HB2.out.trans (hb.mono HB2.out.size))
    have HT3 := Lib.hid (tab_below HT2.out hb (tab_pos HT2.out))
    clear hv hb hn3
    go_wp2_with fail
    refine (newChip_ok k A3 z c3 w3.heap.size D w3 HT3.out HN3.out (Nat.le_refl _) HK.out HZ.out.symm).mono ?_
    rintro e w4 ⟨p, rfl, hc, hb⟩
    rw [HS0.out] at hc
    have HB4 := Lib.hid hb
    have HT4 := Lib.hid hc.tab
    have Z0 := Lib.hid (show Went p (NewF w3 w4) s0 w4 w4 from hc.went)
    have HF3 := Lib.hid (show ∀ b, NewF w3 w4 b → w3.heap.size ≤ b from fun b hb => hb.1)
    clear hc hb
    go_wp2_with fail
    refine (aim_any w4 p _ s0 0 k at_ Z0.out.1 HO0.out HJ0.out (by omega) (by omega) HK.out (by omega) (by rw [HZ.out]; omega)).mono ?_
    rintro e w5 ⟨rfl, hz⟩
    rw [HS1.out] at hz
    have Z1 := Lib.hid (Z0.out.then_ hz HT4.out)
    clear hz
    go_wp2_with fail
    refine (put_any w5 p _ s1 85 x Z1.out.1 HO1.out HJ1.out (by omega) (by omega) (by omega) (by omega)).mono ?_
    rintro e w6 ⟨rfl, hz⟩
    rw [HS2.out] at hz
    have Z2 := Lib.hid (Z1.out.then_ hz HT4.out)
    clear hz
    go_wp2_with fail
    refine (end_any w6).mono ?_
    rintro e w7 ⟨vv, rfl, ho, hb⟩
    obtain ⟨A7, c7, rfl⟩ := ho.form
    have HL3 := Lib.hid ho
    have HSP3 := Lib.hid (beside Z2.out.1 ho)
    have HC3 := Lib.hid (Z2.out.1.below hb)
    have HBB3 := Lib.hid hb
    clear ho hb
    go_wp2_with fail
    refine (stepsLaw_any w7 p _ s2 112 A7 endL.length c7 _ _ endL true HC3.out HO2.out HJ2.out (by omega) HL3.out HSP3.out rfl (by decide)).mono ?_
    rintro e w8 ⟨rfl, hz⟩
    rw [HS3.out] at hz
    have Z3 := Lib.hid (Z2.out.then_ (Went.after HBB3.out hz Z2.out.1.tab) HT4.out)
    clear hz
    go_wp2_with fail
    refine (left_any w8 p _ s3 Z3.out.1).mono ?_
    rintro e w8' ⟨rfl, rfl⟩
    rw [HV3.out]
    go_wp2_with fail
    refine (aim_any w8 p _ s3 115 k at_ Z3.out.1 HO3.out HJ3.out (by omega) (by omega) HK.out (by omega) (by rw [HZ.out]; omega)).mono ?_
    rintro e w9 ⟨rfl, hz⟩
    rw [HS4.out] at hz
    have Z4 := Lib.hid (Z3.out.then_ hz HT4.out)
    clear hz
    go_wp2_with fail
    refine (put_any w9 p _ s4 200 x Z4.out.1 HO4.out HJ4.out (by omega) (by omega) (by omega) (by omega)).mono ?_
    rintro e w10 ⟨rfl, hz⟩
    rw [HS5.out] at hz
    have Z5 := Lib.hid (Z4.out.then_ hz HT4.out)
    clear hz
    go_wp2_with fail
    refine (begin_any w10).mono ?_
    rintro e w11 ⟨vv, rfl, ho, hb⟩
    obtain ⟨A11, c11, rfl⟩ := ho.form
    have HL6 := Lib.hid ho
    have HSP6 := Lib.hid (beside Z5.out.1 ho)
    have HC6 := Lib.hid (Z5.out.1.below hb)
    have HBB6 := Lib.hid hb
    clear ho hb
    go_wp2_with fail
    refine (stepsLaw_any w11 p _ s5 227 A11 beginL.length c11 _ _ beginL false HC6.out HO5.out HJ5.out (by omega) HL6.out HSP6.out rfl (by decide)).mono ?_
    rintro e w12 ⟨rfl, hz⟩
    rw [HS6.out] at hz
    have Z6 := Lib.hid (Z5.out.then_ (Went.after HBB6.out hz Z5.out.1.tab) HT4.out)
    clear hz
    go_wp2_with fail
    refine (end_any w12).mono ?_
    rintro e w13 ⟨vv, rfl, ho, hb⟩
    obtain ⟨A13, c13, rfl⟩ := ho.form
    have HL7 := Lib.hid ho
    have HSP7 := Lib.hid (beside Z6.out.1 ho)
    have HC7 := Lib.hid (Z6.out.1.below hb)
    have HBB7 := Lib.hid hb
    clear ho hb
    go_wp2_with fail
    refine (stepsLaw_any w13 p _ s6 231 A13 endL.length c13 _ _ endL false HC7.out HO6.out HJ6.out (by omega) HL7.out HSP7.out rfl (by decide)).mono ?_
    rintro e w14 ⟨rfl, hz⟩
    rw [HS7.out] at hz
    have Z7 := Lib.hid (Z6.out.then_ (Went.after HBB7.out hz Z6.out.1.tab) HT4.out)
    clear hz
    go_wp2_with fail
    refine (left_any w14 p _ s7 Z7.out.1).mono ?_
    rintro e w14' ⟨rfl, rfl⟩
    rw [HV7.out]
    go_wp2_with fail
    refine (aim_any w14 p _ s7 234 k at_ Z7.out.1 HO7.out HJ7.out (by omega) (by omega) HK.out (by omega) (by rw [HZ.out]; omega)).mono ?_
    rintro e w15 ⟨rfl, hz⟩
    rw [HS8.out] at hz
    have Z8 := Lib.hid (Z7.out.then_ hz HT4.out)
    clear hz
    go_wp2_with fail
    refine (put_any w15 p _ s8 319 x Z8.out.1 HO8.out HJ8.out (by omega) (by omega) (by omega) (by omega)).mono ?_
    rintro e w16 ⟨rfl, hz⟩
    rw [HS9.out] at hz
    have Z9 := Lib.hid (Z8.out.then_ hz HT4.out)
    clear hz
    go_wp2_with fail
    refine (end_any w16).mono ?_
    rintro e w17 ⟨vv, rfl, ho, hb⟩
    obtain ⟨A17, c17, rfl⟩ := ho.form
    have HL10 := Lib.hid ho
    have HSP10 := Lib.hid (beside Z9.out.1 ho)
    have HC10 := Lib.hid (Z9.out.1.below hb)
    have HBB10 := Lib.hid hb
    clear ho hb
    go_wp2_with fail
    refine (stepsLaw_any w17 p _ s9 346 A17 endL.length c17 _ _ endL false HC10.out HO9.out HJ9.out (by omega) HL10.out HSP10.out rfl (by decide)).mono ?_
    rintro e w18 ⟨rfl, hz⟩
    rw [HS10.out] at hz
    have Z10 := Lib.hid (Z9.out.then_ (Went.after HBB10.out hz Z9.out.1.tab) HT4.out)
    clear hz
    go_wp2_with fail
    refine (left_any w18 p _ s10 Z10.out.1).mono ?_
    rintro e w18' ⟨rfl, rfl⟩
    rw [HV10.out]
    go_wp2_with fail
    refine (begin_any w18).mono ?_
    rintro e w19 ⟨vv, rfl, ho, hb⟩
    obtain ⟨A19, c19, rfl⟩ := ho.form
    have HL11 := Lib.hid ho
    have HSP11 := Lib.hid (beside Z10.out.1 ho)
    have HC11 := Lib.hid (Z10.out.1.below hb)
    have HBB11 := Lib.hid hb
    clear ho hb
    go_wp2_with fail
    refine (stepsLaw_any w19 p _ s10 349 A19 beginL.length c19 _ _ beginL false HC11.out HO10.out HJ10.out (by omega) HL11.out HSP11.out rfl (by decide)).mono ?_
    rintro e w20 ⟨rfl, hz⟩
    rw [HS11.out] at hz
    have Z11 := Lib.hid (Z10.out.then_ (Went.after HBB11.out hz Z10.out.1.tab) HT4.out)
    clear hz
    go_wp2_with fail
    refine (put_any w20 p _ s11 353 160 Z11.out.1 HO11.out HJ11.out (by omega) (by omega) (by omega) (by omega)).mono ?_
    rintro e w21 ⟨rfl, hz⟩
    rw [HS12.out] at hz
    have Z12 := Lib.hid (Z11.out.then_ hz HT4.out)
    clear hz
    rw [HV12.out]
    go_wp2_with fail
    refine (bytes_any w21 p _ s12 380 Z12.out.1 HO12.out).mono ?_
    rintro e w22 ⟨vb, rfl, hv, hb⟩
    rw [HV12D.out] at hv
    obtain ⟨Bb, cbb, rfl, _, hnb⟩ := hv.nums fun x hx => byte_wf (HDB.out x hx)
    rw [HDL.out] at hnb ⊢
    have HNBb := Lib.hid hnb
    have Zb := Lib.hid (Z12.out.calm hb HT4.out)
    clear hv hb hnb
    go_wp2_with fail
    refine (same_refl Bb A3 z cbb c3 w22.heap.size D w22 (by unfold maxLen; omega) HNBb.out (((HN3.out.below HB4.out).below (Zb.out.far (N := w3.heap.size) HF3.out HB4.out.size)).mono (Nat.le_trans HB4.out.size Zb.out.2.size)) (Nat.le_refl _)).mono ?_
    rintro e w23 ⟨rfl, hb⟩
    have HB9 := Lib.hid (((HB3.out.trans (HB4.out.mono HB3.out.size)).trans ((Zb.out.far (N := w3.heap.size) HF3.out HB4.out.size).mono HB3.out.size)).trans (hb.mono (Nat.le_trans (Nat.le_trans HB3.out.size HB4.out.size) Zb.out.2.size)))
    clear hb
    go_wp2_with fail
    go_ret
    exact ⟨rfl, HB9.out⟩
  · have hb1' : decide (40 < (n1 : Int)) = true := decide_eq_true (by omega)
    go_enter Tryd.func7, Tryd.ntmps7
    go_wp2_with fail
    refine (awake_any w HT.out).mono ?_
    rintro e w1 ⟨rfl, hb⟩
    have HB1 := Lib.hid hb
    clear hb
    go_wp2_with fail
    go_ret
    exact ⟨rfl, HB1.out⟩
end Go.Proofs.YtfcdlnpfneinlaaDoor
