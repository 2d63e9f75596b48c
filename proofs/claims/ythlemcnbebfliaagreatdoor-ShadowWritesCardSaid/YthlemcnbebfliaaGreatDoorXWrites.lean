/-
  THE WALK OF keepsakelaw07.ShadowWrites.
-/
import Derived.Test.YthlemcnbebfliaaGreatDoorXWPlan
namespace Go.Proofs.YthlemcnbebfliaaGreatDoor
open Ks Go.RowKit
set_option maxRecDepth 20000

set_option maxHeartbeats 4000000 in
theorem shadowWrites_walk (w : World) (a b c sz fl : Int) (A : Option Addr) (mm cap : Nat) (zs : List Int) (hT : Tab w) (hby : Bytes w w.heap.size A mm zs) (hs : 0 ≤ sz ∧ sz ≤ 255) (hf : 0 ≤ fl ∧ fl ≤ 255) :
    Calls Tryz.prog 6 #[geoV a b c, .int .u8 sz, .slice A mm cap, .int .u8 fl] w fun e w' => e = .returned (.bool true) ∧ Below w.heap.size w w' := by
  obtain ⟨g0, g1, g2⟩ := boxed w (.int .i64 a) (.int .i64 b) (.int .i64 c) 23
  have HGE := Lib.hid (And.intro g0 (And.intro g1 g2))
  have HB := Lib.hid (below_box w (.cells #[.int .i64 a, .int .i64 b, .int .i64 c] 23))
  have HBY := Lib.hid (bytes_below hby HB.out)
  have HT := Lib.hid (tab_below hT HB.out (tab_pos hT))
  have HS := Lib.hid hs
  have HF := Lib.hid hf
  obtain ⟨x1, hx1⟩ : ∃ x, few500 a b c = x := ⟨_, rfl⟩
  obtain ⟨x2, hx2⟩ : ∃ x, right a b c = x := ⟨_, rfl⟩
  have HX1 := Lib.hid hx1
  have HX2 := Lib.hid hx2
  clear hT hs hf hx1 hx2 g0 g1 g2 hby
  go_enter Tryz.func6, Tryz.ntmps6
  go_wp2_with fail
  have HWS := Lib.hid (show w.heap.size ≤ (w.alloc (.cells #[.int .i64 a, .int .i64 b, .int .i64 c] 23)).heap.size from HB.out.size)
  generalize w.alloc (.cells #[.int .i64 a, .int .i64 b, .int .i64 c] 23) = W at *
  refine (awake_any W HT.out).mono ?_
  rintro e w1 ⟨rfl, hb1⟩
  have O1 := Lib.hid (show On W w1 from ⟨tab_below HT.out hb1 (tab_pos HT.out), hb1⟩)
  obtain ⟨g0, g1, g2⟩ := geo_below HGE.out O1.out.bel
  clear hb1
  go_wp2_with fail
  refine (few_any a b c x1 _ _ O1.out HX1.out).mono ?_
  rintro e w2 ⟨rfl, hw2⟩
  have O2 := Lib.hid hw2
  clear hw2 g0 g1 g2 O1
  obtain ⟨g0, g1, g2⟩ := geo_below HGE.out O2.out.bel
  go_wp2_with fail
  refine (refRight_any a b c x2 _ _ O2.out HX2.out).mono ?_
  rintro e w3 ⟨rfl, hw3⟩
  have O3 := Lib.hid hw3
  clear hw3 g0 g1 g2 O2
  cases x1
  · have HE := Lib.hid (HB.out.trans (O3.out.bel.mono HB.out.size))
    go_wp2_with fail
    go_ret
    exact ⟨rfl, HE.out⟩
  cases x2
  · have HE := Lib.hid (HB.out.trans (O3.out.bel.mono HB.out.size))
    go_wp2_with fail
    go_ret
    exact ⟨rfl, HE.out⟩
  by_cases h600 : (600 : Int) < (mm : Int)
  · have HE := Lib.hid (HB.out.trans (O3.out.bel.mono HB.out.size))
    go_wp2_with fail
    go_ret
    exact ⟨rfl, HE.out⟩
  obtain ⟨g0, g1, g2⟩ := geo_below HGE.out O3.out.bel
  have HBY3 := Lib.hid (bytes_below HBY.out (O3.out.bel.mono HWS.out))
  have HW3 := Lib.hid (show w.heap.size ≤ w3.heap.size from Nat.le_trans HWS.out O3.out.bel.size)
  obtain ⟨z, hz, hz1, hz2⟩ : ∃ z : Nat, 32 + sz % 100 = z ∧ 32 ≤ z ∧ z ≤ 131 := ⟨(32 + sz % 100).toNat, by have := HS.out; omega, by omega, by omega⟩
  obtain ⟨k, hk⟩ : ∃ k : Nat, 2 * spanOf z a b c + 1 = k := by
    have := spanOf_bounds z a b c
    exact ⟨(2 * spanOf z a b c + 1).toNat, by omega⟩
  obtain ⟨n, hn, h5⟩ : ∃ n : Nat, (n : Int) = total a b c ∧ n ≤ 500 := by
    have h1 := HX1.out
    unfold few500 at h1
    rw [HX2.out] at h1
    simp at h1
    have h2 := fac_nums HX2.out
    exact ⟨(total a b c).toNat, by omega, by omega⟩
  obtain ⟨l, hl⟩ : ∃ l, madeOf zs n = l := ⟨_, rfl⟩
  have hll : l.length = n := hl ▸ madeOf_len zs n
  have hl8 : In8 l := hl ▸ madeOf_in HBY.out.2.1 n
  obtain ⟨hk4, hmz, R0⟩ := fresh_Room hz1 hz2 HX2.out hn h5 hk
  obtain ⟨s1, s2, p1, p2, n2, R1, R2, C2, o0, o1, o2, hfl⟩ := start_plan hz1 hz2 HX2.out hn h5 hk
  obtain ⟨s3, x3, s4, s5, x5, er, p3, c3, p3', p4, w4, p5, her, w5, o3, o4, o5, z3, z4, i3, q3, wh3⟩ := writes_plan (l := l) (fl := fl) n2 R2 C2 o2 hmz hll hl8 HF.out.1
  have HP1 := Lib.hid p1
  have HP2 := Lib.hid p2
  have HP3 := Lib.hid p3
  have HP3' := Lib.hid p3'
  have HP4 := Lib.hid p4
  have HP5 := Lib.hid p5
  have HC3 := Lib.hid c3
  have HW4 := Lib.hid w4
  have HER := Lib.hid (And.intro her w5)
  have HO3 := Lib.hid (And.intro o3 (And.intro o4 o5))
  have HZ3 := Lib.hid (And.intro z3 z4)
  have HX3 := Lib.hid (And.intro i3 (And.intro q3 wh3))
  have HR1 := Lib.hid R1
  have HR2 := Lib.hid R2
  have HO := Lib.hid (And.intro o0 (And.intro o1 o2))
  have HFL := Lib.hid hfl
  have HNN := Lib.hid (And.intro hn h5)
  have HMZ := Lib.hid hmz
  have HLL := Lib.hid hll
  have HL8 := Lib.hid hl8
  have HML := Lib.hid hl
  have HTN := Lib.hid (show (total a b c).toNat = n by omega)
  have HZZ := Lib.hid (And.intro hz (And.intro hz1 hz2))
  clear p1 p2 n2 R0 R1 R2 C2 o0 o1 o2 hfl hn h5 hmz p3 c3 p3' p4 w4 p5 her w5 o3 o4 o5 z3 z4 i3 q3 wh3 hll hl8 hl HBY HWS
  go_wp2_with fail
  refine (fresh_any sz a b c z k w3 O3.out.tab HS.out hz hk hk4).mono ?_
  rintro e w5 ⟨p, rfl, hd5, hk5⟩
  have D5 := Lib.hid (Dk.start O3.out.tab hk5 hd5)
  have HB5 := Lib.hid (hk5.below (N := w3.heap.size) (fun b h => h.elim) (Nat.le_refl _))
  clear hd5 hk5 hz hk hk4 hz1 hz2 g0 g1 g2
  have HG4 := Lib.hid (geo_below HGE.out O3.out.bel)
  generalize Dsk.Grow No w3 w5 = F5 at *
  obtain ⟨g0, g1, g2⟩ := geo_below HG4.out D5.out.bel
  go_wp2_with fail
  refine (format_any w5 p 0 F5 _ s1 a b c 0 D5.out.tab D5.out.two_ D5.out.disk HO.out.1 (by rw [HTN.out, show (Dsk.fresh z (List.replicate k (List.replicate z 0))).size = z from rfl]; have := HMZ.out; omega) HP1.out).mono ?_
  rintro e w6 hd
  have D6 := Lib.hid (D5.out.done hd)
  obtain ⟨rfl, -⟩ := hd
  generalize Dsk.Grow F5 w5 w6 = F6 at *
  clear g0 g1 g2
  obtain ⟨g0, g1, g2⟩ := geo_below HG4.out D6.out.bel
  go_wp2_with fail
  refine (open_any w6 p 1000 F6 s1 s2 _ a b c 0 D6.out.tab D6.out.two_ D6.out.disk HO.out.2.1 (by rw [HTN.out, HR1.out.size]; have := HMZ.out; omega) HP2.out).mono ?_
  rintro e w7 hd
  obtain ⟨F7, D7, hG7, hk7, hr⟩ := D6.out.opened hd
  rcases hr with ⟨h, _⟩ | ⟨_, q, hq, rfl, hs⟩
  · exact absurd rfl h
  have S7 := Lib.hid hs
  clear hd hs hG7 hk7 D7 hq D6 g0 g1 g2
  obtain ⟨sp, hsp⟩ : ∃ sp, spanOf z a b c = sp := ⟨_, rfl⟩
  have HSP := Lib.hid hsp
  have hspe : sp = 1 + (many n z : Nat) := by rw [← hsp]; exact HR2.out.span
  have HSE := Lib.hid hspe
  obtain ⟨rr, hrr⟩ : ∃ rr, sz.tmod 100 = rr := ⟨_, rfl⟩
  have hr0 : 0 ≤ rr ∧ rr < 100 := by have := HS.out; rw [← hrr, Int.tmod_eq_emod_of_nonneg this.1]; omega
  have hrz : 32 + rr = (z : Int) := by have := HZZ.out.1; have h2 := HS.out; rw [← hrr, Int.tmod_eq_emod_of_nonneg h2.1]; omega
  obtain ⟨hr0, hr1⟩ := hr0
  obtain ⟨s0', s1'⟩ := HS.out
  obtain ⟨g0, g1, g2⟩ := geo_below HG4.out S7.out.dk.bel
  clear hsp hspe
  go_wp2_with fail
  refine (refSpan_any (z : Int) a b c sp _ _ (On.start S7.out.dk.tab) HSP.out).mono ?_
  rintro e w8 ⟨rfl, hw8⟩
  have S8 := Lib.hid (S7.out.below hw8.bel)
  clear hw8 S7 g0 g1 g2 hr0 hr1 hrz hrr s0' s1'
  go_wp2_with fail
  refine (image_any S8.out.sh (by show (fac a b c).length ≤ _; rw [HFL.out]; have := HNN.out.2; omega)).mono ?_
  rintro e w9 ⟨v, rfl, hv, hk9⟩
  obtain ⟨A9, c9, rfl⟩ := hv.bys.form
  have S9 := Lib.hid (S8.out.below (hk9.below (N := w8.heap.size) (fun b h => h.elim) (Nat.le_refl _)))
  rw [show (Sh.mk (fac a b c) 1 0 false).img.length = n from HFL.out] at hv ⊢
  clear hv hk9 S8
  have HBY9 := Lib.hid (bytes_below HBY3.out (S9.out.dk.bel.mono HW3.out))
  go_wp2_with fail
  refine (made_any w9 A mm cap w.heap.size n zs HBY9.out (Nat.le_trans HW3.out S9.out.dk.bel.size) (by have := HNN.out.2; omega)).mono ?_
  rintro e w10 ⟨g, rfl, hrow, hg, hb10⟩
  rw [HML.out] at hrow
  have S10 := Lib.hid (S9.out.below hb10)
  have X10 := Lib.hid (show Mine w10 F7 q (.slice (some ⟨g, 0, none⟩) n n) l from (bys_row hrow HLL.out (Nat.le_refl _)).mono fun b hb => ⟨fun h => by have := S9.out.dk.disk.there b h; omega, by have := S9.out.sh.lt; omega⟩)
  clear hrow hg hb10 S9 HBY9
  go_wp2_with fail
  refine (Dsk.writes_any w10 p F7 s2 S10.out.dk.disk).mono ?_
  rintro e w11 ⟨rfl, rfl⟩
  obtain ⟨wo, hwo⟩ : ∃ wo : Int, (s2.wr : Int) = wo := ⟨_, rfl⟩
  obtain ⟨po, hpo⟩ : ∃ po : Int, (s2.ops : Int) = po := ⟨_, rfl⟩
  have hwb : 0 ≤ wo ∧ wo ≤ 3000 := by have := HO.out.2.2.wr; omega
  have hspb : 1 ≤ sp ∧ sp ≤ 501 := by have := HSE.out; have := HMZ.out; omega
  have hwsp : IntKind.i64.wrap (wo + sp) = wo + sp := by rw [IntKind.wrap_i64]; omega
  have HWO := Lib.hid hwo
  have HPO := Lib.hid hpo
  have HWSP := Lib.hid hwsp
  have HWB := Lib.hid hwb
  have HSPB := Lib.hid hspb
  rw [hwo]
  clear hwo hpo hwsp hwb hspb
  go_wp2_with fail
  refine (Dsk.ops_any w10 p F7 s2 S10.out.dk.disk).mono ?_
  rintro e w11 ⟨rfl, rfl⟩
  rw [HPO.out]
  go_wp2_with fail
  refine (image_any S10.out.sh (by show (fac a b c).length ≤ _; rw [HFL.out]; have := HNN.out.2; omega)).mono ?_
  rintro e w11 ⟨v, rfl, hv, hk11⟩
  obtain ⟨A11, c11, rfl⟩ := hv.bys.form
  have hb11 := hk11.below (N := w10.heap.size) (fun b h => h.elim) (Nat.le_refl _)
  have S11 := Lib.hid (S10.out.below hb11)
  have X11 := Lib.hid (X10.out.below hb11)
  rw [show (Sh.mk (fac a b c) 1 0 false).img.length = n from HFL.out] at hv ⊢
  have HV11 := Lib.hid hv.bys
  clear hv hk11 hb11 S10 X10
  go_wp2_with fail
  refine (Dsk.same_any w11 _ _ _ _ l (fac a b c) X11.out HV11.out (by rw [HLL.out]; have := HNN.out.2; omega) (by rw [HFL.out]; have := HNN.out.2; omega)).mono ?_
  rintro e w12 ⟨rfl, k12, rfl⟩
  have S12 := Lib.hid (S11.out.below (below_drewN (Below.refl _ _) k12))
  have X12 := Lib.hid (X11.out.below (below_drewN (Below.refl _ _) k12))
  clear S11 X11 HV11
  go_wp2_with fail
  generalize w11.drewN k12 = w12 at *
  refine (commit_any w12 p q 3000 F7 s2 s3 _ x3 a b c 0 _ l S12.out.dk.tab S12.out.dk.two_ (Nat.le_trans S12.out.dk.two S12.out.qN) S12.out.dk.disk HO.out.2.2 (by rw [HLL.out, HR2.out.size]; have := HMZ.out; omega) S12.out.sh (show (0 : Int) ≤ 1 ∧ (1 : Int) < 18446744073709551616 by decide) (show (0 : Int) ≤ 0 ∧ (0 : Int) ≤ 1 by decide) X12.out HL8.out (by rw [HLL.out]; have := HNN.out.2; omega) HP3.out).mono ?_
  rintro e w13 hd
  obtain ⟨rfl, hk13, F13, hs13, hG13⟩ := S12.out.commit hd
  have S13 := Lib.hid hs13
  have X13 := Lib.hid (X12.out.next hk13 (fun k h => h) hG13)
  clear hd hk13 hs13 hG13 S12 X12
  obtain ⟨wo3, hwo3⟩ : ∃ wo : Int, (s3.wr : Int) = wo := ⟨_, rfl⟩
  obtain ⟨po3, hpo3⟩ : ∃ po : Int, (s3.ops : Int) = po := ⟨_, rfl⟩
  have HWO3 := Lib.hid hwo3
  have HPO3 := Lib.hid hpo3
  clear hwo3 hpo3
  have h3' := HWSP.out
  rcases HC3.out with ⟨he, ho⟩ | ⟨he, ho⟩
  · rw [decide_eq_true he]
    rw [HPO.out, HPO3.out] at ho
    obtain rfl : po3 = po := ho
    clear he
    go_wp2_with fail
    refine (Dsk.ops_any w13 p F13 s3 S13.out.dk.disk).mono ?_
    rintro e w14 ⟨rfl, rfl⟩
    rw [HPO3.out]
    go_wp2_with fail
    refine (Dsk.ops_any w13 p F13 s3 S13.out.dk.disk).mono ?_
    rintro e w14 ⟨rfl, rfl⟩
    rw [HPO3.out]
    go_wp2_with fail
    refine (commit_any w13 p q 4000 F13 s3 s3 x3 x3 a b c 0 _ l S13.out.dk.tab S13.out.dk.two_ (Nat.le_trans S13.out.dk.two S13.out.qN) S13.out.dk.disk HO3.out.1 (by rw [HLL.out, HZ3.out.1]; have := HMZ.out; omega) S13.out.sh HX3.out.2.1 HX3.out.2.2 X13.out HL8.out (by rw [HLL.out]; have := HNN.out.2; omega) HP3'.out).mono ?_
    rintro e w14 hd
    obtain ⟨rfl, hk14, F14, hs14, hG14⟩ := S13.out.commit hd
    have S14 := Lib.hid hs14
    have X14 := Lib.hid (X13.out.next hk14 (fun k h => h) hG14)
    clear hd hk14 hs14 hG14 S13 X13
    go_wp2_with fail
    refine (Dsk.ops_any w14 p F14 s3 S14.out.dk.disk).mono ?_
    rintro e w15 ⟨rfl, rfl⟩
    rw [HPO3.out]
    obtain ⟨v9, w9', hap, hv9, hb9⟩ := append_new w14 33 _ _ l X14.out (by rw [HLL.out]; have := HNN.out.2; omega)
    have HAP := Lib.hid hap
    have S15 := Lib.hid (S14.out.below hb9)
    have HB9 := Lib.hid hb9
    obtain ⟨A15, c15, rfl⟩ := hv9.bys.form
    rw [HLL.out] at hv9 HAP
    have HV15 := Lib.hid hv9
    clear hap hv9 hb9
    go_wp2_with (at_builtin; refine Lib.wpList_append_run _ rfl _ _ _ _ rfl _ _ rfl rfl _ _ HAP.out ?_)
    go_loopw [25] (fun i wr => ∃ k : Nat, k ≤ n ∧ i = .int .i64 k ∧ Byt wr (From w14.heap.size) (.slice A15 n c15) (flip1 (l.take k) ++ l.drop k) ∧ Below w14.heap.size w14 wr) (fun i _ => n - (intOf i).toNat)
    case atStart => exact ⟨0, Nat.zero_le _, rfl, by simpa [flip1] using HV15.out, HB9.out⟩
    case round =>
      obtain ⟨k, hk, rfl, hb, hbel⟩ := hrel
      by_cases hlt : k < n
      · have hlk : (flip1 (l.take k) ++ l.drop k).length = n := by have := HLL.out; simp; omega
        obtain ⟨gb, ob, rfl⟩ : ∃ g o, A15 = some ⟨g, o, none⟩ := by
          obtain ⟨A', c', e, _, hx⟩ := hb
          injection e with e1
          obtain ⟨b, o, e2, _⟩ := hx (by rw [hlk]; omega)
          exact ⟨b, o, e1.trans e2⟩
        obtain ⟨hb2, hfz, hge, hce⟩ := hb.set_ k hlt (bits .xor .u8 (l.getD k 0) 1)
        rw [flip_step (by rw [HLL.out]; exact hlt)] at hb2
        rw [flip_at (by rw [HLL.out]; exact hlt)] at hce
        have HB2 := Lib.hid hb2
        have HBL := Lib.hid (hbel.setCell (p := ⟨gb, ob + k, none⟩) hge (.int .u8 (bits .xor .u8 (l.getD k 0) 1)))
        generalize l.getD k 0 = y at *
        clear hb hbel hb2 hge
        have hn5 := HNN.out.2
        go_wp2_with fail
        go_roundw
        case rel => exact ⟨k + 1, by omega, by go_num, HB2.out, HBL.out⟩
        case measure => simp [intOf]; omega
      · obtain rfl : n = k := by omega
        rw [show flip1 (l.take n) ++ l.drop n = flip1 l by rw [← HLL.out, List.take_length, List.drop_length, List.append_nil]] at hb
        have S16 := Lib.hid (S14.out.below hbel)
        have X16 := Lib.hid (show Mine wr F14 q (.slice A15 n c15) (flip1 l) from hb.bys.mono fun b hb => ⟨fun h => by have := S14.out.dk.disk.there b h; unfold From at hb; omega, by have := S14.out.sh.lt; unfold From at hb; omega⟩)
        clear hb hbel S14 X14
        go_wp2_with fail
        refine (Dsk.ops_any wr p F14 s3 S16.out.dk.disk).mono ?_
        rintro e w17 ⟨rfl, rfl⟩
        rw [HPO3.out]
        have hpb : 0 ≤ po3 ∧ po3 ≤ 4000 := by have h1 := HO3.out.1.ops; have h2 := HPO3.out; omega
        obtain ⟨hpb0, hpb1⟩ := hpb
        obtain ⟨f0, f1⟩ := HF.out
        have hw1 : IntKind.i64.wrap (po3 + 1) = po3 + 1 := by rw [IntKind.wrap_i64]; omega
        have hw2 : IntKind.i64.wrap (po3 + 1 + fl) = po3 + 1 + fl := by rw [IntKind.wrap_i64]; omega
        have hw0 : IntKind.i64.wrap fl = fl := by rw [IntKind.wrap_i64]; omega
        have hp4 := HP4.out
        rw [HPO3.out] at hp4
        have HP4' := Lib.hid hp4
        clear hp4
        go_wp2_with fail
        refine (fail_is S16.out.dk.disk HO3.out.1 (by omega) (by omega) (by omega) HP4'.out).mono ?_
        rintro e w18 hd
        obtain ⟨hs18, hk18⟩ := S16.out.does hd
        have S18 := Lib.hid hs18
        have X18 := Lib.hid (X16.out.next hk18 (fun k h => .inl h) (fun k h => h))
        obtain ⟨rfl, -⟩ := hd
        clear hs18 hk18 S16 X16
        generalize Dsk.Grow F14 wr w18 = F18 at *
        clear hw0 hw1 hw2 hpb0 hpb1 f0 f1
        go_wp2_with fail
        refine (Dsk.writes_any w18 p F18 s4 S18.out.dk.disk).mono ?_
        rintro e w19 ⟨rfl, rfl⟩
        rw [HW4.out, HWO3.out]
        go_wp2_with fail
        refine (commit_any w18 p q 4001 F18 s4 s5 x3 x5 a b c er _ (flip1 l) S18.out.dk.tab S18.out.dk.two_ (Nat.le_trans S18.out.dk.two S18.out.qN) S18.out.dk.disk HO3.out.2.1 (by rw [List.length_map, HLL.out, HZ3.out.2]; have := HMZ.out; omega) S18.out.sh HX3.out.2.1 HX3.out.2.2 X18.out (flip_in HL8.out) (by rw [List.length_map, HLL.out]; have := HNN.out.2; omega) HP5.out).mono ?_
        rintro e w19 hd
        obtain ⟨rfl, hk19, F19, hs19, hG19⟩ := S18.out.commit hd
        have S19 := Lib.hid hs19
        clear hd hk19 hs19 hG19 S18 X18
        obtain ⟨wo5, hwo5⟩ : ∃ wo : Int, (s5.wr : Int) = wo := ⟨_, rfl⟩
        have HWO5 := Lib.hid hwo5
        have hle : wo5 ≤ wo3 + sp := by
          have h1 := HER.out.2
          rw [hwo5, HWO3.out, ← HSE.out] at h1
          exact h1
        have hwsp3 : IntKind.i64.wrap (wo3 + sp) = wo3 + sp := by
          have h1 := HO3.out.1.wr
          have h2 := HWO3.out
          have h3 := HSPB.out
          rw [IntKind.wrap_i64]; omega
        have HE := Lib.hid (HB.out.trans ((O3.out.bel.trans (S19.out.dk.bel.mono O3.out.bel.size)).mono HB.out.size))
        clear hwo5
        rcases HER.out.1 with rfl | rfl
        · go_wp2_with fail
          refine (Dsk.writes_any w19 p F19 s5 S19.out.dk.disk).mono ?_
          rintro e w20 ⟨rfl, rfl⟩
          rw [HWO5.out]
          go_wp2_with fail
          go_ret
          exact ⟨rfl, HE.out⟩
        · go_wp2_with fail
          refine (Dsk.writes_any w19 p F19 s5 S19.out.dk.disk).mono ?_
          rintro e w20 ⟨rfl, rfl⟩
          rw [HWO5.out]
          go_wp2_with fail
          go_ret
          exact ⟨rfl, HE.out⟩
  · rw [decide_eq_false he]
    rw [HWO.out, HWO3.out, ← HSE.out] at ho
    clear he
    go_wp2_with fail
    refine (Dsk.writes_any w13 p F13 s3 S13.out.dk.disk).mono ?_
    rintro e w14 ⟨rfl, rfl⟩
    rw [HWO3.out, ho]
    clear ho
    go_wp2_with fail
    refine (Dsk.ops_any w13 p F13 s3 S13.out.dk.disk).mono ?_
    rintro e w14 ⟨rfl, rfl⟩
    rw [HPO3.out]
    go_wp2_with fail
    refine (commit_any w13 p q 4000 F13 s3 s3 x3 x3 a b c 0 _ l S13.out.dk.tab S13.out.dk.two_ (Nat.le_trans S13.out.dk.two S13.out.qN) S13.out.dk.disk HO3.out.1 (by rw [HLL.out, HZ3.out.1]; have := HMZ.out; omega) S13.out.sh HX3.out.2.1 HX3.out.2.2 X13.out HL8.out (by rw [HLL.out]; have := HNN.out.2; omega) HP3'.out).mono ?_
    rintro e w14 hd
    obtain ⟨rfl, hk14, F14, hs14, hG14⟩ := S13.out.commit hd
    have S14 := Lib.hid hs14
    have X14 := Lib.hid (X13.out.next hk14 (fun k h => h) hG14)
    clear hd hk14 hs14 hG14 S13 X13
    go_wp2_with fail
    refine (Dsk.ops_any w14 p F14 s3 S14.out.dk.disk).mono ?_
    rintro e w15 ⟨rfl, rfl⟩
    rw [HPO3.out]
    obtain ⟨v9, w9', hap, hv9, hb9⟩ := append_new w14 33 _ _ l X14.out (by rw [HLL.out]; have := HNN.out.2; omega)
    have HAP := Lib.hid hap
    have S15 := Lib.hid (S14.out.below hb9)
    have HB9 := Lib.hid hb9
    obtain ⟨A15, c15, rfl⟩ := hv9.bys.form
    rw [HLL.out] at hv9 HAP
    have HV15 := Lib.hid hv9
    clear hap hv9 hb9
    go_wp2_with (at_builtin; refine Lib.wpList_append_run _ rfl _ _ _ _ rfl _ _ rfl rfl _ _ HAP.out ?_)
    go_loopw [25] (fun i wr => ∃ k : Nat, k ≤ n ∧ i = .int .i64 k ∧ Byt wr (From w14.heap.size) (.slice A15 n c15) (flip1 (l.take k) ++ l.drop k) ∧ Below w14.heap.size w14 wr) (fun i _ => n - (intOf i).toNat)
    case atStart => exact ⟨0, Nat.zero_le _, rfl, by simpa [flip1] using HV15.out, HB9.out⟩
    case round =>
      obtain ⟨k, hk, rfl, hb, hbel⟩ := hrel
      by_cases hlt : k < n
      · have hlk : (flip1 (l.take k) ++ l.drop k).length = n := by have := HLL.out; simp; omega
        obtain ⟨gb, ob, rfl⟩ : ∃ g o, A15 = some ⟨g, o, none⟩ := by
          obtain ⟨A', c', e, _, hx⟩ := hb
          injection e with e1
          obtain ⟨b, o, e2, _⟩ := hx (by rw [hlk]; omega)
          exact ⟨b, o, e1.trans e2⟩
        obtain ⟨hb2, hfz, hge, hce⟩ := hb.set_ k hlt (bits .xor .u8 (l.getD k 0) 1)
        rw [flip_step (by rw [HLL.out]; exact hlt)] at hb2
        rw [flip_at (by rw [HLL.out]; exact hlt)] at hce
        have HB2 := Lib.hid hb2
        have HBL := Lib.hid (hbel.setCell (p := ⟨gb, ob + k, none⟩) hge (.int .u8 (bits .xor .u8 (l.getD k 0) 1)))
        generalize l.getD k 0 = y at *
        clear hb hbel hb2 hge
        have hn5 := HNN.out.2
        go_wp2_with fail
        go_roundw
        case rel => exact ⟨k + 1, by omega, by go_num, HB2.out, HBL.out⟩
        case measure => simp [intOf]; omega
      · obtain rfl : n = k := by omega
        rw [show flip1 (l.take n) ++ l.drop n = flip1 l by rw [← HLL.out, List.take_length, List.drop_length, List.append_nil]] at hb
        have S16 := Lib.hid (S14.out.below hbel)
        have X16 := Lib.hid (show Mine wr F14 q (.slice A15 n c15) (flip1 l) from hb.bys.mono fun b hb => ⟨fun h => by have := S14.out.dk.disk.there b h; unfold From at hb; omega, by have := S14.out.sh.lt; unfold From at hb; omega⟩)
        clear hb hbel S14 X14
        go_wp2_with fail
        refine (Dsk.ops_any wr p F14 s3 S16.out.dk.disk).mono ?_
        rintro e w17 ⟨rfl, rfl⟩
        rw [HPO3.out]
        have hpb : 0 ≤ po3 ∧ po3 ≤ 4000 := by have h1 := HO3.out.1.ops; have h2 := HPO3.out; omega
        obtain ⟨hpb0, hpb1⟩ := hpb
        obtain ⟨f0, f1⟩ := HF.out
        have hw1 : IntKind.i64.wrap (po3 + 1) = po3 + 1 := by rw [IntKind.wrap_i64]; omega
        have hw2 : IntKind.i64.wrap (po3 + 1 + fl) = po3 + 1 + fl := by rw [IntKind.wrap_i64]; omega
        have hw0 : IntKind.i64.wrap fl = fl := by rw [IntKind.wrap_i64]; omega
        have hp4 := HP4.out
        rw [HPO3.out] at hp4
        have HP4' := Lib.hid hp4
        clear hp4
        go_wp2_with fail
        refine (fail_is S16.out.dk.disk HO3.out.1 (by omega) (by omega) (by omega) HP4'.out).mono ?_
        rintro e w18 hd
        obtain ⟨hs18, hk18⟩ := S16.out.does hd
        have S18 := Lib.hid hs18
        have X18 := Lib.hid (X16.out.next hk18 (fun k h => .inl h) (fun k h => h))
        obtain ⟨rfl, -⟩ := hd
        clear hs18 hk18 S16 X16
        generalize Dsk.Grow F14 wr w18 = F18 at *
        clear hw0 hw1 hw2 hpb0 hpb1 f0 f1
        go_wp2_with fail
        refine (Dsk.writes_any w18 p F18 s4 S18.out.dk.disk).mono ?_
        rintro e w19 ⟨rfl, rfl⟩
        rw [HW4.out, HWO3.out]
        go_wp2_with fail
        refine (commit_any w18 p q 4001 F18 s4 s5 x3 x5 a b c er _ (flip1 l) S18.out.dk.tab S18.out.dk.two_ (Nat.le_trans S18.out.dk.two S18.out.qN) S18.out.dk.disk HO3.out.2.1 (by rw [List.length_map, HLL.out, HZ3.out.2]; have := HMZ.out; omega) S18.out.sh HX3.out.2.1 HX3.out.2.2 X18.out (flip_in HL8.out) (by rw [List.length_map, HLL.out]; have := HNN.out.2; omega) HP5.out).mono ?_
        rintro e w19 hd
        obtain ⟨rfl, hk19, F19, hs19, hG19⟩ := S18.out.commit hd
        have S19 := Lib.hid hs19
        clear hd hk19 hs19 hG19 S18 X18
        obtain ⟨wo5, hwo5⟩ : ∃ wo : Int, (s5.wr : Int) = wo := ⟨_, rfl⟩
        have HWO5 := Lib.hid hwo5
        have hle : wo5 ≤ wo3 + sp := by
          have h1 := HER.out.2
          rw [hwo5, HWO3.out, ← HSE.out] at h1
          exact h1
        have hwsp3 : IntKind.i64.wrap (wo3 + sp) = wo3 + sp := by
          have h1 := HO3.out.1.wr
          have h2 := HWO3.out
          have h3 := HSPB.out
          rw [IntKind.wrap_i64]; omega
        have HE := Lib.hid (HB.out.trans ((O3.out.bel.trans (S19.out.dk.bel.mono O3.out.bel.size)).mono HB.out.size))
        clear hwo5
        rcases HER.out.1 with rfl | rfl
        · go_wp2_with fail
          refine (Dsk.writes_any w19 p F19 s5 S19.out.dk.disk).mono ?_
          rintro e w20 ⟨rfl, rfl⟩
          rw [HWO5.out]
          go_wp2_with fail
          go_ret
          exact ⟨rfl, HE.out⟩
        · go_wp2_with fail
          refine (Dsk.writes_any w19 p F19 s5 S19.out.dk.disk).mono ?_
          rintro e w20 ⟨rfl, rfl⟩
          rw [HWO5.out]
          go_wp2_with fail
          go_ret
          exact ⟨rfl, HE.out⟩
theorem shadowWrites_law (w : World) (a : Int) (_ha : (Lit.int .i64 a).wf = true) (b : Int) (_hb : (Lit.int .i64 b).wf = true) (c : Int) (_hc : (Lit.int .i64 c).wf = true) (sz : Int) (hs : (Lit.int .u8 sz).wf = true) (A : Option Addr) (n cap : Nat) (zs : List Int) (hr : IsRow .u8 w A n cap zs) (fl : Int) (hf : (Lit.int .u8 fl).wf = true) (hT : Tab w) :
    Calls Tryz.prog 6 #[geoV a b c, .int .u8 sz, .slice A n cap, .int .u8 fl] w fun e w' => e = .returned (.bool true) ∧ Below w.heap.size w w' :=
  shadowWrites_walk w a b c sz fl A n cap _ hT hr.bytes (by simp [Lit.wf, IntKind.min, IntKind.max, IntKind.signed, IntKind.bits] at hs; omega) (by simp [Lit.wf, IntKind.min, IntKind.max, IntKind.signed, IntKind.bits] at hf; omega)
end Go.Proofs.YthlemcnbebfliaaGreatDoor
