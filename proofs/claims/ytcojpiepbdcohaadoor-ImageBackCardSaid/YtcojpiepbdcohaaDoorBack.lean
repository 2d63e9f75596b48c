/-
  THE WALK OF keepsakelaw05.ImageBack.
-/
import Derived.Test.YtcojpiepbdcohaaDoorUnpack
namespace Go.Proofs.YtcojpiepbdcohaaDoor
open Go.RowKit

theorem back_long (w : World) (a b c : Int) (A : Option Addr) (n k : Nat) (hm : n ≤ maxLen) (hn : 2000 < n) (hT : Tab w) : Calls Tryd.prog 5 #[.agg #[.int .i64 a, .int .i64 b, .int .i64 c], .slice A n k] w fun e w' => e = .returned (.bool true) ∧ Below w.heap.size w w' := by
  unfold maxLen at hm
  have HT := Lib.hid (fun o => (On.start hT).next (below_box w o))
  clear hT
  go_enter Tryd.func5, Tryd.ntmps5
  go_wp2_with fail
  refine (awake_any _ (HT.out _).tab).mono ?_
  rintro e w1 ⟨rfl, hw1⟩
  have HO := Lib.hid ((HT.out _).next hw1.bel)
  have ht1 := (Tri.new w a b c 23).next hw1.bel
  clear hw1
  have HT1 := Lib.hid ht1
  obtain ⟨hc0, hc1, hc2⟩ := ht1
  go_wp2_with fail
  go_ret
  exact ⟨rfl, HO.out.bel⟩

theorem back_geo (w : World) (a b c : Int) (A : Option Addr) (n k : Nat) (hn : n ≤ 2000) (hr : right a b c = false) (hT : Tab w) : Calls Tryd.prog 5 #[.agg #[.int .i64 a, .int .i64 b, .int .i64 c], .slice A n k] w fun e w' => e = .returned (.bool true) ∧ Below w.heap.size w w' := by
  have HT := Lib.hid (fun o => (On.start hT).next (below_box w o))
  have HR := Lib.hid hr
  clear hT hr
  go_enter Tryd.func5, Tryd.ntmps5
  go_wp2_with fail
  refine (awake_any _ (HT.out _).tab).mono ?_
  rintro e w1 ⟨rfl, hw1⟩
  have HO := Lib.hid ((HT.out _).next hw1.bel)
  have ht1 := (Tri.new w a b c 23).next hw1.bel
  clear hw1
  have HT1 := Lib.hid ht1
  obtain ⟨hc0, hc1, hc2⟩ := ht1
  go_wp2_with fail
  refine (unpack_geo a b c A n k _ HO.out.tab HR.out).mono ?_
  rintro e w2 ⟨rfl, hw2⟩
  have HO2 := Lib.hid (HO.out.next hw2.bel)
  have ht2 := HT1.out.next hw2.bel
  clear hw2 hc0 hc1 hc2 HT1
  have HT2 := Lib.hid ht2
  obtain ⟨hc0, hc1, hc2⟩ := ht2
  go_wp2_with fail
  refine (refRight_at a b c false _ HO2.out.tab HR.out).mono ?_
  rintro e w3 ⟨rfl, hw3⟩
  have HO3 := Lib.hid (HO2.out.next hw3.bel)
  have ht3 := HT2.out.next hw3.bel
  clear hw3 hc0 hc1 hc2 HT2
  have HT3 := Lib.hid ht3
  obtain ⟨hc0, hc1, hc2⟩ := ht3
  go_wp2_with fail
  go_ret
  exact ⟨rfl, HO3.out.bel⟩

theorem back_arg (w : World) (a b c t : Int) (A : Option Addr) (n k : Nat) (hn : n ≤ 2000) (hr : right a b c = true) (ht : total a b c = t) (hne : ¬ (n : Int) = t) (hT : Tab w) : Calls Tryd.prog 5 #[.agg #[.int .i64 a, .int .i64 b, .int .i64 c], .slice A n k] w fun e w' => e = .returned (.bool true) ∧ Below w.heap.size w w' := by
  have HT := Lib.hid (fun o => (On.start hT).next (below_box w o))
  have HR := Lib.hid hr
  have HTO := Lib.hid ht
  have HNE := Lib.hid hne
  have hb : ((n : Int) != t) = true := by simpa using hne
  clear hT hr ht hne
  go_enter Tryd.func5, Tryd.ntmps5
  go_wp2_with fail
  refine (awake_any _ (HT.out _).tab).mono ?_
  rintro e w1 ⟨rfl, hw1⟩
  have HO := Lib.hid ((HT.out _).next hw1.bel)
  have ht1 := (Tri.new w a b c 23).next hw1.bel
  clear hw1
  have HT1 := Lib.hid ht1
  obtain ⟨hc0, hc1, hc2⟩ := ht1
  go_wp2_with fail
  refine (unpack_arg a b c t A n k _ HO.out.tab HR.out HTO.out HNE.out).mono ?_
  rintro e w2 ⟨rfl, hw2⟩
  have HO2 := Lib.hid (HO.out.next hw2.bel)
  have ht2 := HT1.out.next hw2.bel
  clear hw2 hc0 hc1 hc2 HT1
  have HT2 := Lib.hid ht2
  obtain ⟨hc0, hc1, hc2⟩ := ht2
  go_wp2_with fail
  refine (refRight_at a b c true _ HO2.out.tab HR.out).mono ?_
  rintro e w3 ⟨rfl, hw3⟩
  have HO3 := Lib.hid (HO2.out.next hw3.bel)
  have ht3 := HT2.out.next hw3.bel
  clear hw3 hc0 hc1 hc2 HT2
  have HT3 := Lib.hid ht3
  obtain ⟨hc0, hc1, hc2⟩ := ht3
  go_wp2_with fail
  refine (refTotal_at a b c t _ HO3.out.tab HTO.out).mono ?_
  rintro e w4 ⟨rfl, hw4⟩
  have HO4 := Lib.hid (HO3.out.next hw4.bel)
  have ht4 := HT3.out.next hw4.bel
  clear hw4 hc0 hc1 hc2 HT3
  have HT4 := Lib.hid ht4
  obtain ⟨hc0, hc1, hc2⟩ := ht4
  go_wp2_with fail
  go_ret
  exact ⟨rfl, HO4.out.bel⟩

theorem back_ok (w : World) (a b c : Int) (x y z p n : Nat) (A : Option Addr) (k : Nat) (l : List Int) (hl : Bytes w w.heap.size A n l) (hn : n ≤ 2000) (hr : right a b c = true) (hx : col a 0 = (x : Nat)) (hy : bytesOf b 64 256 = (y : Nat)) (hz : bytesOf c 128 64 = (z : Nat)) (ht : total a b c = (n : Nat)) (hp : x + y = p) (hpn : p + z = n) (hT : Tab w) : Calls Tryd.prog 5 #[.agg #[.int .i64 a, .int .i64 b, .int .i64 c], .slice A n k] w fun e w' => e = .returned (.bool true) ∧ Below w.heap.size w w' := by
  have HT := Lib.hid (fun o => (On.start hT).next (below_box w o))
  have HR := Lib.hid hr
  obtain ⟨t, hte⟩ : ∃ t : Int, t = (n : Nat) := ⟨_, rfl⟩
  have HTN := Lib.hid ht
  have HTO := Lib.hid (show total a b c = t by rw [ht, hte])
  have hb : ((n : Int) != t) = false := by simp [hte]
  have HX := Lib.hid hx
  have HY := Lib.hid hy
  have HZ := Lib.hid hz
  have HP := Lib.hid hp
  have HPN := Lib.hid hpn
  have HL := Lib.hid hl
  have HLI := Lib.hid hl.2.1
  have HLN := Lib.hid hl.1
  have HE := Lib.hid (show l.take x ++ (l.drop x).take y ++ (l.drop p).take z = l by
    subst hp
    rw [List.append_assoc, List.take_of_length_le (l := l.drop (x + y)) (by simp; have := hl.1; omega)]
    rw [← List.drop_drop, List.take_append_drop, List.take_append_drop])
  have hxn : x ≤ n := by omega
  have hyn : y ≤ n := by omega
  have hzn : z ≤ n := by omega
  have hxx : ((x : Int) == (x : Int)) = true := by simp
  have hzz : ((z : Int) == (z : Int)) = true := by simp
  clear hT hr hte hx hy hz ht hp hpn hl
  go_enter Tryd.func5, Tryd.ntmps5
  go_wp2_with fail
  refine (awake_any _ (HT.out _).tab).mono ?_
  rintro e w1 ⟨rfl, hw1⟩
  have HO := Lib.hid ((HT.out _).next hw1.bel)
  have ht1 := (Tri.new w a b c 23).next hw1.bel
  clear hw1
  have HT1 := Lib.hid ht1
  obtain ⟨hc0, hc1, hc2⟩ := ht1
  go_wp2_with fail
  refine (unpack_ok a b c x y z n p A k w.heap.size l _ HO.out.tab HR.out HX.out HY.out HTN.out HP.out HPN.out (bytes_below HL.out HO.out.bel) HO.out.bel.size (by omega)).mono ?_
  rintro e w2 ⟨A1, k1, A2, k2, A3, k3, rfl, hw2, hb1, hb2, hb3⟩
  have HB1 := Lib.hid hb1
  have HB2 := Lib.hid hb2
  have HB3 := Lib.hid hb3
  clear hb1 hb2 hb3
  have HO2 := Lib.hid (HO.out.next hw2.bel)
  have ht2 := HT1.out.next hw2.bel
  clear hw2 hc0 hc1 hc2 HT1
  have HT2 := Lib.hid ht2
  obtain ⟨hc0, hc1, hc2⟩ := ht2
  go_wp2_with fail
  refine (refRight_at a b c true _ HO2.out.tab HR.out).mono ?_
  rintro e w3 ⟨rfl, hw3⟩
  have HB1' := Lib.hid (HB1.out.next hw3.bel)
  have HB2' := Lib.hid (HB2.out.next hw3.bel)
  have HB3' := Lib.hid (HB3.out.next hw3.bel)
  clear HB1 HB2 HB3
  have HO3 := Lib.hid (HO2.out.next hw3.bel)
  have ht3 := HT2.out.next hw3.bel
  clear hw3 hc0 hc1 hc2 HT2
  have HT3 := Lib.hid ht3
  obtain ⟨hc0, hc1, hc2⟩ := ht3
  go_wp2_with fail
  refine (refTotal_at a b c t _ HO3.out.tab HTO.out).mono ?_
  rintro e w4 ⟨rfl, hw4⟩
  have HB1 := Lib.hid (HB1'.out.next hw4.bel)
  have HB2 := Lib.hid (HB2'.out.next hw4.bel)
  have HB3 := Lib.hid (HB3'.out.next hw4.bel)
  clear HB1' HB2' HB3'
  have HO4 := Lib.hid (HO3.out.next hw4.bel)
  have ht4 := HT3.out.next hw4.bel
  clear hw4 hc0 hc1 hc2 HT3
  have HT4 := Lib.hid ht4
  obtain ⟨hc0, hc1, hc2⟩ := ht4
  go_wp2_with fail
  refine (pack_ok a b c _ _ _ A1 A2 A3 x k1 y k2 z k3 _ _ _ _ HO4.out.tab HR.out rfl rfl rfl HX.out.symm HY.out.symm HZ.out.symm HB1.out HB2.out HB3.out).mono ?_
  rintro e w5 ⟨v5, rfl, hw5, ho5⟩
  rw [HE.out] at ho5
  obtain ⟨A4, c4, rfl, _, hy5⟩ := ho5.bytes HLI.out
  rw [HLN.out] at hy5 ⊢
  have HB4 := Lib.hid hy5
  have HB1' := Lib.hid (HB1.out.next hw5.bel)
  have HB2' := Lib.hid (HB2.out.next hw5.bel)
  have HB3' := Lib.hid (HB3.out.next hw5.bel)
  clear HB1 HB2 HB3 ho5 hy5
  have HO5 := Lib.hid (HO4.out.next hw5.bel)
  have ht5 := HT4.out.next hw5.bel
  clear hw5 hc0 hc1 hc2 HT4
  have HT5 := Lib.hid ht5
  obtain ⟨hc0, hc1, hc2⟩ := ht5
  go_wp2_with fail
  refine (unpack_ok a b c x y z n p A4 c4 _ l _ HO5.out.tab HR.out HX.out HY.out HTN.out HP.out HPN.out HB4.out (Nat.le_refl _) (by omega)).mono ?_
  rintro e w6 ⟨A5, k5, A6, k6, A7, k7, rfl, hw6, hb5, hb6, hb7⟩
  have HB1 := Lib.hid (HB1'.out.next hw6.bel)
  have HB2 := Lib.hid (HB2'.out.next hw6.bel)
  have HB3 := Lib.hid (HB3'.out.next hw6.bel)
  have HB4' := Lib.hid (bytes_mono (bytes_below HB4.out hw6.bel) hw6.bel.size)
  have HB5 := Lib.hid hb5
  have HB6 := Lib.hid hb6
  have HB7 := Lib.hid hb7
  clear HB1' HB2' HB3' HB4 hb5 hb6 hb7
  have HO6 := Lib.hid (HO5.out.next hw6.bel)
  have ht6 := HT5.out.next hw6.bel
  clear hw6 hc0 hc1 hc2 HT5
  have HT6 := Lib.hid ht6
  obtain ⟨hc0, hc1, hc2⟩ := ht6
  go_wp2_with fail
  refine (same_refl A A4 n k c4 w6.heap.size l w6 (by unfold maxLen; omega) (bytes_mono (bytes_below HL.out HO6.out.bel) HO6.out.bel.size) HB4'.out (Nat.le_refl _)).mono ?_
  rintro e w7 ⟨rfl, hw7⟩
  have HB1' := Lib.hid (HB1.out.next hw7)
  have HB2' := Lib.hid (HB2.out.next hw7)
  have HB3' := Lib.hid (HB3.out.next hw7)
  have HB5' := Lib.hid (HB5.out.next hw7)
  have HB6' := Lib.hid (HB6.out.next hw7)
  have HB7' := Lib.hid (HB7.out.next hw7)
  clear HB1 HB2 HB3 HB4' HB5 HB6 HB7
  have HO7 := Lib.hid (HO6.out.next hw7)
  have ht7 := HT6.out.next hw7
  clear hw7 hc0 hc1 hc2 HT6
  have HT7 := Lib.hid ht7
  obtain ⟨hc0, hc1, hc2⟩ := ht7
  go_wp2_with fail
  refine (same_refl A1 A5 x k1 k5 w7.heap.size _ w7 (by unfold maxLen; omega) HB1'.out.of.2 HB5'.out.of.2 (Nat.le_refl _)).mono ?_
  rintro e w8 ⟨rfl, hw8⟩
  have HB2 := Lib.hid (HB2'.out.next hw8)
  have HB3 := Lib.hid (HB3'.out.next hw8)
  have HB6 := Lib.hid (HB6'.out.next hw8)
  have HB7 := Lib.hid (HB7'.out.next hw8)
  clear HB1' HB2' HB3' HB5' HB6' HB7'
  have HO8 := Lib.hid (HO7.out.next hw8)
  have ht8 := HT7.out.next hw8
  clear hw8 hc0 hc1 hc2 HT7
  have HT8 := Lib.hid ht8
  obtain ⟨hc0, hc1, hc2⟩ := ht8
  go_wp2_with fail
  refine (same_refl A2 A6 y k2 k6 w8.heap.size _ w8 (by unfold maxLen; omega) HB2.out.of.2 HB6.out.of.2 (Nat.le_refl _)).mono ?_
  rintro e w9 ⟨rfl, hw9⟩
  have HB3' := Lib.hid (HB3.out.next hw9)
  have HB7' := Lib.hid (HB7.out.next hw9)
  clear HB2 HB3 HB6 HB7
  have HO9 := Lib.hid (HO8.out.next hw9)
  have ht9 := HT8.out.next hw9
  clear hw9 hc0 hc1 hc2 HT8
  have HT9 := Lib.hid ht9
  obtain ⟨hc0, hc1, hc2⟩ := ht9
  go_wp2_with fail
  refine (same_refl A3 A7 z k3 k7 w9.heap.size _ w9 (by unfold maxLen; omega) HB3'.out.of.2 HB7'.out.of.2 (Nat.le_refl _)).mono ?_
  rintro e w10 ⟨rfl, hw10⟩
  have HO10 := Lib.hid (HO9.out.next hw10)
  have ht10 := HT9.out.next hw10
  clear hw10 hc0 hc1 hc2 HT9
  have HT10 := Lib.hid ht10
  obtain ⟨hc0, hc1, hc2⟩ := ht10
  go_wp2_with fail
  refine (refEeprom_any a x _ _ (On.start HO10.out.tab) HX.out).mono ?_
  rintro e w11 ⟨rfl, hw11⟩
  have HO11 := Lib.hid (HO10.out.next hw11.bel)
  have ht11 := HT10.out.next hw11.bel
  clear hw11 hc0 hc1 hc2 HT10
  have HT11 := Lib.hid ht11
  obtain ⟨hc0, hc1, hc2⟩ := ht11
  go_wp2_with fail
  refine (refSram_any c z _ HZ.out).mono ?_
  rintro e w11 ⟨rfl, rfl⟩
  go_wp2_with fail
  go_ret
  exact ⟨rfl, HO11.out.bel⟩

theorem imageBack_walk (w : World) (a : Int) (_wa : (Lit.int .i64 a).wf = true) (b : Int) (_wb : (Lit.int .i64 b).wf = true) (c : Int) (_wc : (Lit.int .i64 c).wf = true) (A : Option Addr) (n k : Nat) (zs : List Int) (r : IsRow .u8 w A n k zs) (hT : Tab w) : Calls Tryd.prog 5 #[.agg #[.int .i64 a, .int .i64 b, .int .i64 c], .slice A n k] w fun e w' => e = .returned (.bool true) ∧ Below w.heap.size w w' := by
  by_cases hn : n ≤ 2000
  · cases hr : right a b c
    · exact back_geo w a b c A n k hn hr hT
    · by_cases ht : (n : Int) = total a b c
      · obtain ⟨x, hx⟩ := Int.eq_ofNat_of_zero_le (col0_bounds a).1
        obtain ⟨y, hy⟩ := Int.eq_ofNat_of_zero_le (bytesOf_bounds b 64 256 (by omega) (by omega) (by omega)).1
        obtain ⟨z, hz⟩ := Int.eq_ofNat_of_zero_le (bytesOf_bounds c 128 64 (by omega) (by omega) (by omega)).1
        have h5 := (fac_nums hr).2.2.2.2
        exact back_ok w a b c x y z (x + y) n A k _ r.bytes hn hr hx hy hz ht.symm rfl (by omega) hT
      · exact back_arg w a b c _ A n k hn hr rfl ht hT
  · exact back_long w a b c A n k r.len_le.2 (by omega) hT
end Go.Proofs.YtcojpiepbdcohaaDoor
