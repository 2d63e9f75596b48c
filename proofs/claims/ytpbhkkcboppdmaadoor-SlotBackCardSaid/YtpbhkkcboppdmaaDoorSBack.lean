/-
  THE WALK OF SlotBack.
-/
import Derived.Test.YtpbhkkcboppdmaaDoorSMore
namespace Go.Proofs.YtpbhkkcboppdmaaDoor
open Ks Go.RowKit
set_option maxRecDepth 20000

theorem mod100 {sz : Int} (_hs : 0 ≤ sz ∧ sz ≤ 255) : ∃ z : Nat, 32 + sz % 100 = z ∧ 32 ≤ z ∧ z ≤ 131 := ⟨(32 + sz % 100).toNat, by omega, by omega, by omega⟩
theorem span_nat (z : Nat) (a b c : Int) : ∃ k : Nat, 2 * spanOf z a b c = k := by
  have := spanOf_bounds z a b c
  exact ⟨(2 * spanOf z a b c).toNat, by omega⟩
set_option maxHeartbeats 2000000 in
theorem slotBack_walk (w : World) (a b c q sz : Int) (A : Option Addr) (n cap : Nat) (l : List Int) (second sync : Bool) (hT : Tab w) (hl : Bytes w w.heap.size A n l) (hs : 0 ≤ sz ∧ sz ≤ 255) (hq : 0 ≤ q ∧ q < 18446744073709551616) :
    Calls Tryd.prog 5 #[geoV a b c, .slice A n cap, .int .u8 sz, .bool second, .int .u64 q, .bool sync] w fun e w' => e = .returned (.bool true) ∧ Below w.heap.size w w' := by
  obtain ⟨g0, g1, g2⟩ := boxed w (.int .i64 a) (.int .i64 b) (.int .i64 c) 23
  have HGE := Lib.hid (And.intro g0 (And.intro g1 g2))
  have HB := Lib.hid (below_box w (.cells #[.int .i64 a, .int .i64 b, .int .i64 c] 23))
  have HT := Lib.hid (tab_below hT HB.out (tab_pos hT))
  have HL := Lib.hid (bytes_mono (bytes_below hl HB.out) HB.out.size)
  have HQ := Lib.hid hq
  have HS := Lib.hid hs
  have HLEN := Lib.hid hl.1
  clear hT hl hs hq g0 g1 g2
  obtain ⟨x1, hx1⟩ : ∃ x, few500 a b c = x := ⟨_, rfl⟩
  obtain ⟨x2, hx2⟩ : ∃ x, right a b c = x := ⟨_, rfl⟩
  obtain ⟨t, ht⟩ : ∃ t, total a b c = t := ⟨_, rfl⟩
  have HX1 := Lib.hid hx1
  have HX2 := Lib.hid hx2
  have HTT := Lib.hid ht
  clear hx1 hx2 ht
  go_enter Tryd.func5, Tryd.ntmps5
  go_wp2_with fail
  generalize w.alloc (.cells #[.int .i64 a, .int .i64 b, .int .i64 c] 23) = W at *
  refine (awake_any W HT.out).mono ?_
  rintro e w1 ⟨rfl, hb1⟩
  have O1 := Lib.hid (show On W w1 from ⟨tab_below HT.out hb1 (tab_pos HT.out), hb1⟩)
  obtain ⟨g0, g1, g2⟩ := geo_below HGE.out O1.out.bel
  clear hb1
  go_wp2_with fail
  refine (few_any a b c x1 _ _ O1.out HX1.out).mono ?_
  rintro e w2 ⟨rfl, hw2⟩
  have O2 := Lib.hid hw2
  clear hw2 g0 g1 g2 O1
  obtain ⟨g0, g1, g2⟩ := geo_below HGE.out O2.out.bel
  go_wp2_with fail
  refine (refRight_any a b c x2 _ _ O2.out HX2.out).mono ?_
  rintro e w3 ⟨rfl, hw3⟩
  have O3 := Lib.hid hw3
  clear hw3 g0 g1 g2 O2
  cases x1
  · have HE := Lib.hid (HB.out.trans (O3.out.bel.mono HB.out.size))
    go_wp2_with fail
    go_ret
    exact ⟨rfl, HE.out⟩
  cases x2
  · have HE := Lib.hid (HB.out.trans (O3.out.bel.mono HB.out.size))
    go_wp2_with fail
    go_ret
    exact ⟨rfl, HE.out⟩
  obtain ⟨g0, g1, g2⟩ := geo_below HGE.out O3.out.bel
  go_wp2_with fail
  refine (refTotal_any a b c t _ _ O3.out HTT.out).mono ?_
  rintro e w4 ⟨rfl, hw4⟩
  have O4 := Lib.hid hw4
  clear hw4 g0 g1 g2 O3
  by_cases hn : (n : Int) ≠ t
  · have hnb : ((n : Int) != t) = true := by simpa using hn
    have HE := Lib.hid (HB.out.trans (O4.out.bel.mono HB.out.size))
    go_wp2_with fail
    go_ret
    exact ⟨rfl, HE.out⟩
  have hn : (n : Int) = t := by omega
  have hnb : ((n : Int) != t) = false := by simpa using hn
  obtain ⟨z, hz, hz1, hz2⟩ := mod100 HS.out
  obtain ⟨k, hk⟩ := span_nat z a b c
  have h5 : n ≤ 500 := by
    have := HX1.out
    unfold few500 at this
    rw [HX2.out, HTT.out] at this
    simp at this
    omega
  have hln := HLEN.out
  obtain ⟨s1, s2, s3, s4, s5, s6, s7, p1, p2, p3, p4, p5, p6, p7, ⟨o0, o1, o2, o3, o4, o5, o6⟩, z1, z2, z3, z4, z5, z6⟩ := back_plan (q := q) (l := l) second sync hz1 (by omega) HX2.out (by rw [hln, HTT.out]; exact hn) (by omega) hk HL.out.2.1 HQ.out
  have HK4 := Lib.hid (fresh_room hz1 (by omega) HX2.out (by rw [HTT.out]; exact hn) h5 hk).1
  have HP1 := Lib.hid p1
  have HP2 := Lib.hid p2
  have HP3 := Lib.hid p3
  have HP4 := Lib.hid p4
  have HP5 := Lib.hid p5
  have HP6 := Lib.hid p6
  have HP7 := Lib.hid p7
  have HO := Lib.hid (show Ok 0 _ ∧ Ok 10000 s1 ∧ Ok 10000 s2 ∧ Ok 10000 s3 ∧ Ok 10000 s4 ∧ Ok 10000 s5 ∧ Ok 10000 s6 from ⟨o0, o1, o2, o3, o4, o5, o6⟩)
  have hmb := (many_bounds n z (by omega) (by omega)).2.2
  have HM := Lib.hid (show ∀ s : St, s.size = z → 10000 + 1 + many (total a b c).toNat s.size < 1000000 from fun s hs => by
    have e : (total a b c).toNat = n := by rw [HTT.out]; omega
    rw [hs, e]; omega)
  have HZ := Lib.hid (show s1.size = z ∧ s2.size = z ∧ s3.size = z ∧ s4.size = z ∧ s5.size = z ∧ s6.size = z from ⟨z1, z2, z3, z4, z5, z6⟩)
  have HZK := Lib.hid (And.intro hz hk)
  have HNM := Lib.hid hmb
  clear p1 p2 p3 p4 p5 p6 p7 o0 o1 o2 o3 o4 o5 o6 z1 z2 z3 z4 z5 z6 hz hk hmb hln
  obtain ⟨g0, g1, g2⟩ := geo_below HGE.out O4.out.bel
  go_wp2_with fail
  refine (fresh_any sz a b c z k _ O4.out.tab HS.out HZK.out.1 HZK.out.2 HK4.out).mono ?_
  rintro e w5 ⟨p, rfl, hd5, hk5⟩
  have D5 := Lib.hid (Dk.start O4.out.tab hk5 hd5)
  have B4 := Lib.hid O4.out.bel
  clear hd5 hk5 g0 g1 g2 O4
  generalize Dsk.Grow No w4 w5 = F5 at *
  have HG4 := Lib.hid (geo_below HGE.out B4.out)
  obtain ⟨which, hwh⟩ : ∃ wh, whOf second = wh := ⟨_, rfl⟩
  rw [hwh] at HP1 HP2 HP3 HP5 HP6 HP7
  obtain ⟨g0, g1, g2⟩ := geo_below HG4.out D5.out.bel
  have HL4 := Lib.hid (bytes_mono (bytes_below HL.out B4.out) B4.out.size)
  cases second <;> cases sync <;> (first | (obtain rfl : which = 0 := hwh.symm) | (obtain rfl : which = 1 := hwh.symm))
  all_goals
    clear hwh
    go_wp2_with fail
    refine (data_any w5 p 0 n cap F5 _ s1 _ a b c 0 A l D5.out.tab D5.out.disk HO.out.1 (by show 0 + many n z < 1000000; have := HNM.out; omega) (bytes_mono (bytes_below HL4.out D5.out.bel) D5.out.le) (by omega) HP1.out).mono ?_
    rintro e w6 ht
    have D6 := Lib.hid (D5.out.tells ht)
    obtain ⟨rfl, _⟩ := ht
    clear g0 g1 g2 D5
    generalize Dsk.Grow F5 w5 w6 = F6 at *
    obtain ⟨g0, g1, g2⟩ := geo_below HG4.out D6.out.bel
    go_wp2_with fail
    refine (read_is D6.out.tab (fun b hb => Nat.le_trans D6.out.two (D6.out.ge b hb)) D6.out.disk HO.out.2.1 (HM.out _ HZ.out.1) HP2.out).mono ?_
    rintro e w7 hrd
    have D7 := Lib.hid (D6.out.reads hrd)
    obtain ⟨_, _, v, rfl, ivv, rfl, hown⟩ := hrd
    obtain ⟨Av, nv, cv, rfl⟩ : ∃ A n c, ivv = .slice A n c := by
      rcases hown.2 with ⟨rfl, _⟩ | ⟨g, cap, cur, rfl, _⟩ <;> exact ⟨_, _, _, rfl⟩
    clear hown g0 g1 g2 D6
    have D8 := Lib.hid (D7.out.below (below_box w7 (.cells #[.int .i64 0, .int .i64 6, .int .u64 0, .slice Av nv cv] 37)))
    have X8 := Lib.hid (And.intro (Aside.new D7.out.disk (.cells #[.int .i64 0, .int .i64 6, .int .u64 0, .slice Av nv cv] 37)) (Blk.new w7 37 #[.int .i64 0, .int .i64 6, .int .u64 0, .slice Av nv cv]))
    obtain ⟨g0, g1, g2⟩ := geo_below HG4.out D8.out.bel
    clear D7
    go_wp2_with fail
    generalize hxb : w7.heap.size = xb at *
    clear hxb
    generalize w7.alloc (.cells #[.int .i64 0, .int .i64 6, .int .u64 0, .slice Av nv cv] 37) = w8 at *
    refine (seal_any w8 p 10000 n cap F6 s2 s3 _ a b c q 0 A l D8.out.tab D8.out.disk HO.out.2.2.1 (by omega) (bytes_mono (bytes_below HL4.out D8.out.bel) D8.out.le) HQ.out HP3.out).mono ?_
    rintro e w9 ht
    have D9 := Lib.hid (D8.out.tells ht)
    have X9 := Lib.hid (And.intro (X8.out.1.grow ht.2.2) (X8.out.1.blk ht.2.2 X8.out.2))
    obtain ⟨rfl, _⟩ := ht
    clear g0 g1 g2 D8 X8
    generalize Dsk.Grow F6 w8 w9 = F9 at *
    obtain ⟨g0, g1, g2⟩ := geo_below HG4.out D9.out.bel
    go_wp2_with fail
  all_goals
    first
      | (refine (sync_is D9.out.disk HO.out.2.2.2.1 (by omega) (show s3.sync = (s4, 0) from HP4.out)).mono ?_
         rintro e w10 ht
         have D10 := Lib.hid (D9.out.tells ht)
         have X10 := Lib.hid (And.intro (X9.out.1.grow ht.2.2) (X9.out.1.blk ht.2.2 X9.out.2))
         obtain ⟨rfl, _⟩ := ht
         clear g0 g1 g2 D9 X9
         generalize Dsk.Grow F9 w9 w10 = F10 at *
         obtain ⟨g0, g1, g2⟩ := geo_below HG4.out D10.out.bel
         go_wp2_with fail)
      | (obtain rfl : s3 = s4 := congrArg Prod.fst HP4.out
         have D10 := D9
         have X10 := X9
         clear D9 X9
         generalize w9 = w10 at *
         generalize F9 = F10 at *)
  all_goals
    refine (read_is D10.out.tab (fun b hb => Nat.le_trans D10.out.two (D10.out.ge b hb)) D10.out.disk HO.out.2.2.2.2.1 (HM.out _ HZ.out.2.2.2.1) HP5.out).mono ?_
    rintro e w11 hrd
    have D11 := Lib.hid (D10.out.reads hrd)
    have X11 := Lib.hid (And.intro (X10.out.1.keeps hrd.1) (X10.out.1.blk hrd.1 X10.out.2))
    obtain ⟨_, _, v, rfl, ivv, rfl, hown⟩ := hrd
    obtain ⟨Ay, cy, rfl, hcy, _⟩ := Own.bytes hown HL4.out.2.1
    have I11 := Lib.hid (Img.of_read hown D10.out.disk)
    rw [HLEN.out] at I11 hcy ⊢
    clear hown g0 g1 g2 D10 X10
    have b12 := below_box w11 (.cells #[.int .i64 2, .int .i64 0, .int .u64 q, .slice Ay n cy] 37)
    have D12 := Lib.hid (D11.out.below b12)
    have X12 := Lib.hid (And.intro (X11.out.1.keeps (Keeps.of_below b12).no) (X11.out.1.blk (Keeps.of_below b12).no X11.out.2))
    have Y12 := Lib.hid (And.intro (Aside.new D11.out.disk (.cells #[.int .i64 2, .int .i64 0, .int .u64 q, .slice Ay n cy] 37)) (Blk.new w11 37 #[.int .i64 2, .int .i64 0, .int .u64 q, .slice Ay n cy]))
    have I12 := Lib.hid (I11.out.below b12)
    obtain ⟨g0, g1, g2⟩ := geo_below HG4.out D12.out.bel
    clear D11 X11 I11 b12
    go_wp2_with fail
    generalize hyb : w11.heap.size = yb at *
    clear hyb
    generalize w11.alloc (.cells #[.int .i64 2, .int .i64 0, .int .u64 q, .slice Ay n cy] 37) = w12 at *
    refine (wipe_any w12 p 10000 F10 s5 s6 _ a b c 0 D12.out.tab D12.out.disk HO.out.2.2.2.2.2.1 (by omega) HP6.out).mono ?_
    rintro e w13 ht
    have D13 := Lib.hid (D12.out.tells ht)
    have X13 := Lib.hid (And.intro (X12.out.1.grow ht.2.2) (X12.out.1.blk ht.2.2 X12.out.2))
    have Y13 := Lib.hid (And.intro (Y12.out.1.grow ht.2.2) (Y12.out.1.blk ht.2.2 Y12.out.2))
    have I13 := Lib.hid (I12.out.grow ht.2.2)
    obtain ⟨rfl, _⟩ := ht
    clear g0 g1 g2 D12 X12 Y12 I12
    generalize Dsk.Grow F10 w12 w13 = F13 at *
    obtain ⟨g0, g1, g2⟩ := geo_below HG4.out D13.out.bel
    go_wp2_with fail
    refine (read_is D13.out.tab (fun b hb => Nat.le_trans D13.out.two (D13.out.ge b hb)) D13.out.disk HO.out.2.2.2.2.2.2 (HM.out _ HZ.out.2.2.2.2.2) HP7.out).mono ?_
    rintro e w14 hrd
    have D14 := Lib.hid (D13.out.reads hrd)
    have X14 := Lib.hid (And.intro (X13.out.1.keeps hrd.1) (X13.out.1.blk hrd.1 X13.out.2))
    have Y14 := Lib.hid (And.intro (Y13.out.1.keeps hrd.1) (Y13.out.1.blk hrd.1 Y13.out.2))
    have I14 := Lib.hid (I13.out.keeps hrd.1)
    obtain ⟨_, _, v, rfl, ivv, rfl, hown⟩ := hrd
    obtain ⟨Az, nz, cz, rfl⟩ : ∃ A n c, ivv = .slice A n c := by
      rcases hown.2 with ⟨rfl, _⟩ | ⟨g, cap, cur, rfl, _⟩ <;> exact ⟨_, _, _, rfl⟩
    clear hown g0 g1 g2 D13 X13 Y13 I13
    have b15 := below_box w14 (.cells #[.int .i64 0, .int .i64 6, .int .u64 0, .slice Az nz cz] 37)
    have D15 := Lib.hid (D14.out.below b15)
    have X15 := (X14.out.1.blk (Keeps.of_below b15).no X14.out.2)
    have Y15 := (Y14.out.1.blk (Keeps.of_below b15).no Y14.out.2)
    have Z15 := (Blk.new w14 37 #[.int .i64 0, .int .i64 6, .int .u64 0, .slice Az nz cz])
    have I15 := Lib.hid (I14.out.below b15)
    clear D14 X14 I14 b15 Y14
    obtain ⟨u0, u1, _, _⟩ := X15.c4
    obtain ⟨v0, _, v2, v3⟩ := Y15.c4
    have t0 := Z15.c4.1
    clear X15 Y15 Z15
    obtain ⟨A', c', hA', _, hby⟩ := I15.out.bytes HL4.out.2.1
    rw [HLEN.out] at hA' hby
    injection hA' with hA1 hA2 hA3
    subst hA1
    have HBY := Lib.hid (And.intro hby (bytes_mono (bytes_below HL4.out D15.out.bel) D15.out.le))
    have HE := Lib.hid (HB.out.trans ((B4.out.trans (D15.out.bel.mono B4.out.size)).mono HB.out.size))
    clear hby hA2 hA3
    go_wp2_with fail
    refine (same_refl _ _ n _ _ _ l _ (by unfold maxLen; omega) HBY.out.1 HBY.out.2 (Nat.le_refl _)).mono ?_
    rintro e w16 ⟨rfl, hb16⟩
    have HE2 := Lib.hid (HE.out.trans (hb16.mono HE.out.size))
    have t0' := (hb16.cell (p := ⟨w14.heap.size, 0, none⟩) (block_lt_of_cell t0)).trans t0
    clear t0 hb16
    go_wp2_with fail
    go_ret
    exact ⟨rfl, HE2.out⟩
theorem slotBack_law (w : World) (a : Int) (_ha : (Lit.int .i64 a).wf = true) (b : Int) (_hb : (Lit.int .i64 b).wf = true) (c : Int) (_hc : (Lit.int .i64 c).wf = true) (A : Option Addr) (n cap : Nat) (zs : List Int) (hr : IsRow .u8 w A n cap zs) (sz : Int) (hs : (Lit.int .u8 sz).wf = true) (second : Bool) (q : Int) (hq : (Lit.int .u64 q).wf = true) (sync : Bool) (hT : Tab w) :
    Calls Tryd.prog 5 #[geoV a b c, .slice A n cap, .int .u8 sz, .bool second, .int .u64 q, .bool sync] w fun e w' => e = .returned (.bool true) ∧ Below w.heap.size w w' :=
  slotBack_walk w a b c q sz A n cap _ second sync hT hr.bytes (by simp [Lit.wf, IntKind.min, IntKind.max, IntKind.signed, IntKind.bits] at hs; omega) (by simp [Lit.wf, IntKind.min, IntKind.max, IntKind.signed, IntKind.bits] at hq; omega)
end Go.Proofs.YtpbhkkcboppdmaaDoor
