/-
  THE WALK OF keepsakelaw07.ShadowTurns.
-/
import Derived.Test.YthlemcnbebfliaaGreatDoorXTPlan
namespace Go.Proofs.YthlemcnbebfliaaGreatDoor
open Ks Go.RowKit
set_option maxRecDepth 20000

set_option maxHeartbeats 4000000 in
theorem shadowTurns_walk (w : World) (a b c sz : Int) (A : Option Addr) (cnt cap : Nat) (L : List (List Int)) (hT : Tab w) (hby : Lsts w w.heap.size A cnt L) (hlm : ∀ k, k < L.length → (L.getD k []).length ≤ maxLen) (hcm : cnt ≤ maxLen) (hs : 0 ≤ sz ∧ sz ≤ 255) :
    Calls Tryz.prog 9 #[geoV a b c, .int .u8 sz, .slice A cnt cap] w fun e w' => e = .returned (.bool true) ∧ Below w.heap.size w w' := by
  obtain ⟨g0, g1, g2⟩ := boxed w (.int .i64 a) (.int .i64 b) (.int .i64 c) 23
  have HGE := Lib.hid (And.intro g0 (And.intro g1 g2))
  have HB := Lib.hid (below_box w (.cells #[.int .i64 a, .int .i64 b, .int .i64 c] 23))
  have HBY := Lib.hid (hby.below HB.out)
  have HT := Lib.hid (tab_below hT HB.out (tab_pos hT))
  have HS := Lib.hid hs
  have HLM := Lib.hid hlm
  obtain ⟨x1, hx1⟩ : ∃ x, few500 a b c = x := ⟨_, rfl⟩
  obtain ⟨x2, hx2⟩ : ∃ x, right a b c = x := ⟨_, rfl⟩
  have HX1 := Lib.hid hx1
  have HX2 := Lib.hid hx2
  clear hT hs hlm hx1 hx2 g0 g1 g2 hby
  go_enter Tryz.func9, Tryz.ntmps9
  go_wp2_with fail
  have HWS := Lib.hid (show w.heap.size ≤ (w.alloc (.cells #[.int .i64 a, .int .i64 b, .int .i64 c] 23)).heap.size from HB.out.size)
  generalize w.alloc (.cells #[.int .i64 a, .int .i64 b, .int .i64 c] 23) = W at *
  refine (awake_any W HT.out).mono ?_
  rintro e w1 ⟨rfl, hb1⟩
  have O1 := Lib.hid (show On W w1 from ⟨tab_below HT.out hb1 (tab_pos HT.out), hb1⟩)
  obtain ⟨g0, g1, g2⟩ := geo_below HGE.out O1.out.bel
  clear hb1
  go_wp2_with fail
  refine (few_any a b c x1 _ _ O1.out HX1.out).mono ?_
  rintro e w2 ⟨rfl, hw2⟩
  have O2 := Lib.hid hw2
  clear hw2 g0 g1 g2 O1
  obtain ⟨g0, g1, g2⟩ := geo_below HGE.out O2.out.bel
  go_wp2_with fail
  refine (refRight_any a b c x2 _ _ O2.out HX2.out).mono ?_
  rintro e w3 ⟨rfl, hw3⟩
  have O3 := Lib.hid hw3
  clear hw3 g0 g1 g2 O2
  cases x1
  · have HE := Lib.hid (HB.out.trans (O3.out.bel.mono HB.out.size))
    go_wp2_with fail
    go_ret
    exact ⟨rfl, HE.out⟩
  cases x2
  · have HE := Lib.hid (HB.out.trans (O3.out.bel.mono HB.out.size))
    go_wp2_with fail
    go_ret
    exact ⟨rfl, HE.out⟩
  by_cases h6 : (6 : Int) < (cnt : Int)
  · have HE := Lib.hid (HB.out.trans (O3.out.bel.mono HB.out.size))
    go_wp2_with fail
    go_ret
    exact ⟨rfl, HE.out⟩
  have HBY3 := Lib.hid (HBY.out.below (O3.out.bel.mono HWS.out))
  have HW3 := Lib.hid (show w.heap.size ≤ w3.heap.size from Nat.le_trans HWS.out O3.out.bel.size)
  clear HBY
  unfold maxLen at hcm
  go_wp2_with fail
  go_loop [10] (fun i => ∃ k : Nat, k ≤ cnt ∧ i = .int .i64 k ∧ ∀ j, j < k → (L.getD j []).length ≤ 600) (fun i => cnt - (intOf i).toNat)
  case atStart => exact ⟨0, Nat.zero_le _, rfl, fun j hj => absurd hj (by omega)⟩
  case round =>
    obtain ⟨k, hk, rfl, hsm⟩ := hrel
    have HSM := Lib.hid hsm
    clear hsm
    by_cases hlt : k < cnt
    · obtain ⟨bb, oo, rfl, _, hcs⟩ := HBY3.out.2 (by omega)
      obtain ⟨v, hv, A1, c1, rfl, hc1, _, hb1⟩ := hcs k hlt
      obtain ⟨ln, hln⟩ : ∃ ln : Nat, (L.getD k []).length = ln := ⟨_, rfl⟩
      have hlm := HLM.out k (by rw [HBY3.out.1]; exact hlt)
      rw [hln] at hv hlm
      unfold maxLen at hlm
      have HLN := Lib.hid hln
      clear hln hc1 hb1 hcs
      have hk0 : (0 : Int) ≤ (k : Int) := by omega
      have hk1 : (k : Int) < (cnt : Int) := by omega
      by_cases h1 : (600 : Int) < (ln : Int)
      · have HE := Lib.hid (HB.out.trans (O3.out.bel.mono HB.out.size))
        go_wp2_with fail
        go_ret
        exact ⟨rfl, HE.out⟩
      go_wp2_with fail
      go_round
      case rel => exact ⟨k + 1, by omega, by go_num, fun j hj => by
        rcases Nat.lt_succ_iff_lt_or_eq.1 hj with h | h
        · exact HSM.out j h
        · rw [h, HLN.out]; omega⟩
      case measure => simp [intOf]; omega
    · obtain rfl : cnt = k := by omega
      obtain ⟨g0, g1, g2⟩ := geo_below HGE.out O3.out.bel
      obtain ⟨z, hz, hz1, hz2⟩ : ∃ z : Nat, 32 + sz % 100 = z ∧ 32 ≤ z ∧ z ≤ 131 := ⟨(32 + sz % 100).toNat, by have := HS.out; omega, by omega, by omega⟩
      obtain ⟨k, hk⟩ : ∃ k : Nat, 2 * spanOf z a b c + 1 = k := by
        have := spanOf_bounds z a b c
        exact ⟨(2 * spanOf z a b c + 1).toNat, by omega⟩
      obtain ⟨n, hn, h5⟩ : ∃ n : Nat, (n : Int) = total a b c ∧ n ≤ 500 := by
        have h1 := HX1.out
        unfold few500 at h1
        rw [HX2.out] at h1
        simp at h1
        have h2 := fac_nums HX2.out
        exact ⟨(total a b c).toNat, by omega, by omega⟩
      obtain ⟨hk4, hmz, R0⟩ := fresh_Room hz1 hz2 HX2.out hn h5 hk
      obtain ⟨s1, s2, p1, p2, n2, R1, R2, C2, o0, o1, o2, hfl⟩ := start_plan hz1 hz2 HX2.out hn h5 hk
      have HP1 := Lib.hid p1
      have HP2 := Lib.hid p2
      have HN2 := Lib.hid n2
      have HR1 := Lib.hid R1
      have HR2 := Lib.hid R2
      have HC2 := Lib.hid C2
      have HO := Lib.hid (And.intro o0 (And.intro o1 o2))
      have HFL := Lib.hid hfl
      have HNN := Lib.hid (And.intro hn h5)
      have HMZ := Lib.hid hmz
      have HTN := Lib.hid (show (total a b c).toNat = n by omega)
      have HZZ := Lib.hid (And.intro hz (And.intro hz1 hz2))
      clear p1 p2 n2 R0 R1 R2 C2 o0 o1 o2 hfl hn h5 hmz HWS
      go_wp2_with fail
      refine (fresh_any sz a b c z k w3 O3.out.tab HS.out hz hk hk4).mono ?_
      rintro e w5 ⟨p, rfl, hd5, hk5⟩
      have D5 := Lib.hid (Dk.start O3.out.tab hk5 hd5)
      have HB5 := Lib.hid (hk5.below (N := w3.heap.size) (fun b h => h.elim) (Nat.le_refl _))
      clear hd5 hk5 hz hk hk4 hz1 hz2 g0 g1 g2
      have HG4 := Lib.hid (geo_below HGE.out O3.out.bel)
      generalize Dsk.Grow No w3 w5 = F5 at *
      obtain ⟨g0, g1, g2⟩ := geo_below HG4.out D5.out.bel
      go_wp2_with fail
      refine (format_any w5 p 0 F5 _ s1 a b c 0 D5.out.tab D5.out.two_ D5.out.disk HO.out.1 (by rw [HTN.out, show (Dsk.fresh z (List.replicate k (List.replicate z 0))).size = z from rfl]; have := HMZ.out; omega) HP1.out).mono ?_
      rintro e w6 hd
      have D6 := Lib.hid (D5.out.done hd)
      obtain ⟨rfl, -⟩ := hd
      generalize Dsk.Grow F5 w5 w6 = F6 at *
      clear g0 g1 g2
      obtain ⟨g0, g1, g2⟩ := geo_below HG4.out D6.out.bel
      go_wp2_with fail
      refine (open_any w6 p 1000 F6 s1 s2 _ a b c 0 D6.out.tab D6.out.two_ D6.out.disk HO.out.2.1 (by rw [HTN.out, HR1.out.size]; have := HMZ.out; omega) HP2.out).mono ?_
      rintro e w7 hd
      obtain ⟨F7, D7, hG7, hk7, hr⟩ := D6.out.opened hd
      rcases hr with ⟨h, _⟩ | ⟨_, q, hq, rfl, hs⟩
      · exact absurd rfl h
      have S7 := Lib.hid hs
      clear hd hs hG7 hk7 D7 hq D6 g0 g1 g2
      go_wp2_with fail
      go_loopw [15] (fun i wr => ∃ k : Nat, k ≤ cnt ∧ i = .int .i64 k ∧ TurnAt w3.heap.size w3 wr p q a b c z n k) (fun i _ => cnt - (intOf i).toNat)
      case atStart => exact ⟨0, Nat.zero_le _, rfl, F7, s2, _, S7.out, HC2.out, HN2.out, HR2.out, HO.out.2.2, show (1 : Int) ≤ 1 by decide, show (1 : Int) ≤ 1 + ((0 : Nat) : Int) by decide⟩
      case round =>
        obtain ⟨k, hk, rfl, F, s, x, hS, hC, hnf, hR, hO, hq1, hq2⟩ := hrel
        by_cases hlt : k < cnt
        · obtain ⟨lk, hlk⟩ : ∃ lk, madeOf (L.getD k []) n = lk := ⟨_, rfl⟩
          have hll : lk.length = n := hlk ▸ madeOf_len _ n
          have hl8 : In8 lk := hlk ▸ madeOf_in (HBY3.out.ok _ (getD_mem (by rw [HBY3.out.1]; exact hlt))) n
          obtain ⟨s3, x3, s4, p3, i3, c3, p4, o3, z3, n4, R4, C4, o4, st3⟩ := turn_plan hnf hR hC hO HMZ.out hll hl8 (by omega)
          obtain ⟨xi, xq, xw, xs⟩ := x
          obtain ⟨y3q, hy3q⟩ : ∃ y, x3.seq = y := ⟨_, rfl⟩
          obtain ⟨y3w, hy3w⟩ : ∃ y, x3.which = y := ⟨_, rfl⟩
          have hxw : 0 ≤ xw ∧ xw ≤ 1 := by rcases hC.wh with e | e <;> (have e : xw = _ := e; omega)
          have hyw : 0 ≤ y3w ∧ y3w ≤ 1 := by rcases C4.wh with e | e <;> omega
          rw [hy3q, hy3w] at c3
          have hq1 : 1 ≤ xq := hq1
          have hq2 : xq ≤ 1 + (k : Int) := hq2
          have c3 : (lk = xi ∧ y3q = xq ∧ y3w = xw) ∨ (lk ≠ xi ∧ y3q = xq + 1 ∧ y3w = 1 - xw) := c3
          have S := Lib.hid hS
          have HXL := Lib.hid (show xi.length = n from hC.slot.2.1)
          have HP3 := Lib.hid p3
          have HP4 := Lib.hid p4
          have HI3 := Lib.hid i3
          have HC3 := Lib.hid c3
          have HOO := Lib.hid (And.intro hO (And.intro o3 o4))
          have HZ3 := Lib.hid (And.intro hR.size z3)
          have HK4 := Lib.hid (And.intro n4 (And.intro R4 C4))
          have HXQ := Lib.hid (And.intro hq1 hq2)
          have HXW := Lib.hid (And.intro hxw hyw)
          have HYQ := Lib.hid (And.intro hy3q hy3w)
          have HLL := Lib.hid hll
          have HL8 := Lib.hid hl8
          have HML := Lib.hid hlk
          have HK6 := Lib.hid (show k ≤ 6 by omega)
          clear hS hC hnf hR hO p3 p4 i3 c3 o3 o4 z3 n4 R4 C4 hq1 hq2 hxw hyw hy3q hy3w hll hl8 hlk st3
          have hk0 : (0 : Int) ≤ (k : Int) := by omega
          have hk1 : (k : Int) < (cnt : Int) := by omega
          go_wp2_with fail
          refine (image_any S.out.sh (by show xi.length ≤ _; rw [HXL.out]; have := HNN.out.2; omega)).mono ?_
          rintro e w9 ⟨v, rfl, hv9, hk9⟩
          obtain ⟨A9, c9, rfl⟩ := hv9.bys.form
          have S9 := Lib.hid (S.out.below (hk9.below (N := wr.heap.size) (fun b h => h.elim) (Nat.le_refl _)))
          rw [show (Sh.mk xi xq xw xs).img.length = n from HXL.out] at hv9 ⊢
          have V9 := Lib.hid hv9.bys
          clear hv9 hk9 S
          go_wp2_with fail
          refine (seq_any S9.out.sh).mono ?_
          rintro e w10 ⟨rfl, rfl⟩
          dsimp only
          go_wp2_with fail
          refine (which_any S9.out.sh).mono ?_
          rintro e w10 ⟨rfl, rfl⟩
          dsimp only
          obtain ⟨bb, oo, hA, hbb, hcs⟩ := (HBY3.out.below (S9.out.dk.bel.mono HW3.out)).2 (by omega)
          subst hA
          obtain ⟨v, hv, A1, c1, rfl, hc1, _, hb1⟩ := hcs k hlt
          obtain ⟨ln, hln⟩ : ∃ ln : Nat, (L.getD k []).length = ln := ⟨_, rfl⟩
          rw [hln] at hv hb1
          have HB1 := Lib.hid hb1
          clear hc1 hb1 hcs hln hbb
          go_wp2_with fail
          refine (made_any w9 A1 ln c1 w.heap.size n (L.getD k []) HB1.out (Nat.le_trans HW3.out S9.out.dk.bel.size) (by have := HNN.out.2; omega)).mono ?_
          rintro e w11 ⟨g, rfl, hrow, hg, hb11⟩
          rw [HML.out] at hrow
          have S11 := Lib.hid (S9.out.below hb11)
          have X11 := Lib.hid (show Mine w11 F q (.slice (some ⟨g, 0, none⟩) n n) lk from (bys_row hrow HLL.out (Nat.le_refl _)).mono fun b hb => ⟨fun h => by have := S9.out.dk.disk.there b h; omega, by have := S9.out.sh.lt; omega⟩)
          have V11 := Lib.hid (Bys.keeps V9.out (S := No) (Keeps.of_below hb11) fun _ _ _ h => h)
          clear hrow hg hb11 S9 V9 hv
          go_wp2_with fail
          refine (Dsk.same_any w11 _ _ _ _ xi lk V11.out X11.out (by rw [HXL.out]; have := HNN.out.2; omega) (by rw [HLL.out]; have := HNN.out.2; omega)).mono ?_
          rintro e w12 ⟨rfl, k12, rfl⟩
          have S12 := Lib.hid (S11.out.below (below_drewN (Below.refl _ _) k12))
          have X12 := Lib.hid (X11.out.below (below_drewN (Below.refl _ _) k12))
          clear S11 X11 V11
          go_wp2_with fail
          generalize w11.drewN k12 = w12 at *
          refine (commit_any w12 p q (3000 + 2000 * k) F s s3 _ x3 a b c 0 _ lk S12.out.dk.tab S12.out.dk.two_ (Nat.le_trans S12.out.dk.two S12.out.qN) S12.out.dk.disk HOO.out.1 (by rw [HLL.out, HZ3.out.1]; have := HMZ.out; have := HK6.out; omega) S12.out.sh (show (0 : Int) ≤ xq ∧ xq < 18446744073709551616 by have := HXQ.out; have := HK6.out; omega) HXW.out.1 X12.out HL8.out (by rw [HLL.out]; have := HNN.out.2; omega) HP3.out).mono ?_
          rintro e w13 hd
          obtain ⟨rfl, hk13, F13, hs13, hG13⟩ := S12.out.commit hd
          have S13 := Lib.hid hs13
          have X13 := Lib.hid (X12.out.next hk13 (fun k h => h) hG13)
          clear hd hk13 hs13 hG13 S12 X12
          go_wp2_with fail
          refine (image_any S13.out.sh (by rw [HI3.out, HLL.out]; have := HNN.out.2; omega)).mono ?_
          rintro e w14 ⟨v, rfl, hv, hk14⟩
          rw [HI3.out] at hv
          obtain ⟨A14, c14, rfl⟩ := hv.bys.form
          have hb14 := hk14.below (N := w13.heap.size) (fun b h => h.elim) (Nat.le_refl _)
          have S14 := Lib.hid (S13.out.below hb14)
          have X14 := Lib.hid (X13.out.below hb14)
          rw [HLL.out] at hv ⊢
          have V14 := Lib.hid hv.bys
          clear hv hk14 hb14 S13 X13
          go_wp2_with fail
          refine (Dsk.same_any w14 _ _ _ _ lk lk V14.out X14.out (by rw [HLL.out]; have := HNN.out.2; omega) (by rw [HLL.out]; have := HNN.out.2; omega)).mono ?_
          rintro e w15 ⟨rfl, k15, rfl⟩
          rw [decide_eq_true rfl]
          have S15 := Lib.hid (S14.out.below (below_drewN (Below.refl _ _) k15))
          have X15 := Lib.hid (X14.out.below (below_drewN (Below.refl _ _) k15))
          clear S14 X14 V14
          generalize w14.drewN k15 = w15 at *
          have hw1 : IntKind.i64.wrap (1 - xw) = 1 - xw := by have := HXW.out.1; rw [IntKind.wrap_i64]; omega
          have hw2 : IntKind.u64.wrap (xq + 1) = xq + 1 := by have := HXQ.out; have := HK6.out; rw [IntKind.wrap_u64]; omega
          rcases HC3.out with ⟨he, e1, e2⟩ | ⟨he, e1, e2⟩
          · rw [decide_eq_true he.symm]
            have HY := Lib.hid (And.intro e1 e2)
            clear he e1 e2
            go_wp2_with fail
            refine (seq_any S15.out.sh).mono ?_
            rintro e w16 ⟨rfl, rfl⟩
            rw [HYQ.out.1, HY.out.1]
            go_wp2_with fail
            refine (which_any S15.out.sh).mono ?_
            rintro e w16 ⟨rfl, rfl⟩
            rw [HYQ.out.2, HY.out.2]
            obtain ⟨g0, g1, g2⟩ := geo_below HG4.out S15.out.dk.bel
            go_wp2_with fail
            refine (open_any w15 p (3000 + 2000 * k + 600) F13 s3 s4 x3 a b c 0 S15.out.dk.tab S15.out.dk.two_ S15.out.dk.disk HOO.out.2.1 (by rw [HTN.out, HZ3.out.2]; have := HMZ.out; have := HK6.out; omega) HP4.out).mono ?_
            rintro e w17 hd
            obtain ⟨F17, D17, hG17, hk17, hr⟩ := S15.out.dk.opened hd
            rcases hr with ⟨h, _⟩ | ⟨_, q', hq', rfl, hs⟩
            · exact absurd rfl h
            have T17 := Lib.hid hs
            have S17 := Lib.hid (show Sw w3.heap.size w3 w17 p q F17 s4 a b c x3 from ⟨D17, S15.out.sh.again hk17 hG17, S15.out.qN⟩)
            have X17 := Lib.hid (X15.out.next hk17 (fun k h => .inl h) hG17)
            clear hd hs hG17 hk17 D17 hq' S15 X15 g0 g1 g2
            go_wp2_with fail
            refine (seq_any T17.out.sh).mono ?_
            rintro e w18 ⟨rfl, rfl⟩
            rw [HYQ.out.1]
            go_wp2_with fail
            refine (seq_any S17.out.sh).mono ?_
            rintro e w18 ⟨rfl, rfl⟩
            rw [HYQ.out.1]
            go_wp2_with fail
            refine (which_any T17.out.sh).mono ?_
            rintro e w18 ⟨rfl, rfl⟩
            rw [HYQ.out.2]
            go_wp2_with fail
            refine (which_any S17.out.sh).mono ?_
            rintro e w18 ⟨rfl, rfl⟩
            rw [HYQ.out.2]
            go_wp2_with fail
            refine (image_any T17.out.sh (by rw [HI3.out, HLL.out]; have := HNN.out.2; omega)).mono ?_
            rintro e w18 ⟨v, rfl, hv, hk18⟩
            rw [HI3.out] at hv
            obtain ⟨A18, c18, rfl⟩ := hv.bys.form
            have hb18 := hk18.below (N := w17.heap.size) (fun b h => h.elim) (Nat.le_refl _)
            have S18 := Lib.hid (S17.out.below hb18)
            have X18 := Lib.hid (X17.out.below hb18)
            rw [HLL.out] at hv ⊢
            have V18 := Lib.hid hv.bys
            clear hv hk18 hb18 S17 T17 X17
            go_wp2_with fail
            refine (Dsk.same_any w18 _ _ _ _ lk lk V18.out X18.out (by rw [HLL.out]; have := HNN.out.2; omega) (by rw [HLL.out]; have := HNN.out.2; omega)).mono ?_
            rintro e w19 ⟨rfl, k19, rfl⟩
            rw [decide_eq_true rfl]
            have S19 := Lib.hid (S18.out.below (below_drewN (Below.refl _ _) k19))
            clear S18 X18 V18
            generalize w18.drewN k19 = w19 at *
            have hxq := HXQ.out
            have hyq := HY.out.1
            have hk6 := HK6.out
            go_wp2_with fail
            go_roundw
            case rel => exact ⟨k + 1, by omega, by go_num, F17, s4, x3, S19.out, HK4.out.2.2, HK4.out.1, HK4.out.2.1, HOO.out.2.2.mono (by omega), by rw [HYQ.out.1]; omega, by rw [HYQ.out.1]; omega⟩
            case measure => simp [intOf]; omega
          · rw [decide_eq_false (Ne.symm he)]
            have HY := Lib.hid (And.intro e1 e2)
            clear he e1 e2
            go_wp2_with fail
            refine (seq_any S15.out.sh).mono ?_
            rintro e w16 ⟨rfl, rfl⟩
            rw [HYQ.out.1, HY.out.1]
            go_wp2_with fail
            refine (which_any S15.out.sh).mono ?_
            rintro e w16 ⟨rfl, rfl⟩
            rw [HYQ.out.2, HY.out.2]
            obtain ⟨g0, g1, g2⟩ := geo_below HG4.out S15.out.dk.bel
            go_wp2_with fail
            refine (open_any w15 p (3000 + 2000 * k + 600) F13 s3 s4 x3 a b c 0 S15.out.dk.tab S15.out.dk.two_ S15.out.dk.disk HOO.out.2.1 (by rw [HTN.out, HZ3.out.2]; have := HMZ.out; have := HK6.out; omega) HP4.out).mono ?_
            rintro e w17 hd
            obtain ⟨F17, D17, hG17, hk17, hr⟩ := S15.out.dk.opened hd
            rcases hr with ⟨h, _⟩ | ⟨_, q', hq', rfl, hs⟩
            · exact absurd rfl h
            have T17 := Lib.hid hs
            have S17 := Lib.hid (show Sw w3.heap.size w3 w17 p q F17 s4 a b c x3 from ⟨D17, S15.out.sh.again hk17 hG17, S15.out.qN⟩)
            have X17 := Lib.hid (X15.out.next hk17 (fun k h => .inl h) hG17)
            clear hd hs hG17 hk17 D17 hq' S15 X15 g0 g1 g2
            go_wp2_with fail
            refine (seq_any T17.out.sh).mono ?_
            rintro e w18 ⟨rfl, rfl⟩
            rw [HYQ.out.1]
            go_wp2_with fail
            refine (seq_any S17.out.sh).mono ?_
            rintro e w18 ⟨rfl, rfl⟩
            rw [HYQ.out.1]
            go_wp2_with fail
            refine (which_any T17.out.sh).mono ?_
            rintro e w18 ⟨rfl, rfl⟩
            rw [HYQ.out.2]
            go_wp2_with fail
            refine (which_any S17.out.sh).mono ?_
            rintro e w18 ⟨rfl, rfl⟩
            rw [HYQ.out.2]
            go_wp2_with fail
            refine (image_any T17.out.sh (by rw [HI3.out, HLL.out]; have := HNN.out.2; omega)).mono ?_
            rintro e w18 ⟨v, rfl, hv, hk18⟩
            rw [HI3.out] at hv
            obtain ⟨A18, c18, rfl⟩ := hv.bys.form
            have hb18 := hk18.below (N := w17.heap.size) (fun b h => h.elim) (Nat.le_refl _)
            have S18 := Lib.hid (S17.out.below hb18)
            have X18 := Lib.hid (X17.out.below hb18)
            rw [HLL.out] at hv ⊢
            have V18 := Lib.hid hv.bys
            clear hv hk18 hb18 S17 T17 X17
            go_wp2_with fail
            refine (Dsk.same_any w18 _ _ _ _ lk lk V18.out X18.out (by rw [HLL.out]; have := HNN.out.2; omega) (by rw [HLL.out]; have := HNN.out.2; omega)).mono ?_
            rintro e w19 ⟨rfl, k19, rfl⟩
            rw [decide_eq_true rfl]
            have S19 := Lib.hid (S18.out.below (below_drewN (Below.refl _ _) k19))
            clear S18 X18 V18
            generalize w18.drewN k19 = w19 at *
            have hxq := HXQ.out
            have hyq := HY.out.1
            have hk6 := HK6.out
            go_wp2_with fail
            go_roundw
            case rel => exact ⟨k + 1, by omega, by go_num, F17, s4, x3, S19.out, HK4.out.2.2, HK4.out.1, HK4.out.2.1, HOO.out.2.2.mono (by omega), by rw [HYQ.out.1]; omega, by rw [HYQ.out.1]; omega⟩
            case measure => simp [intOf]; omega
        · obtain rfl : cnt = k := by omega
          have HE := Lib.hid (HB.out.trans ((O3.out.bel.trans (hS.dk.bel.mono O3.out.bel.size)).mono HB.out.size))
          clear hS hC hnf hR hO hq1 hq2
          go_wp2_with fail
          go_ret
          exact ⟨rfl, HE.out⟩
theorem shadowTurns_law (w : World) (a : Int) (_ha : (Lit.int .i64 a).wf = true) (b : Int) (_hb : (Lit.int .i64 b).wf = true) (c : Int) (_hc : (Lit.int .i64 c).wf = true) (sz : Int) (hs : (Lit.int .u8 sz).wf = true) (A : Option Addr) (n cap : Nat) (L : List (List Int)) (hL : Lsts w w.heap.size A n L ∧ n ≤ maxLen ∧ ∀ k, k < L.length → (L.getD k []).length ≤ maxLen) (hT : Tab w) :
    Calls Tryz.prog 9 #[geoV a b c, .int .u8 sz, .slice A n cap] w fun e w' => e = .returned (.bool true) ∧ Below w.heap.size w w' :=
  shadowTurns_walk w a b c sz A n cap L hT hL.1 hL.2.2 hL.2.1 (by simp [Lit.wf, IntKind.min, IntKind.max, IntKind.signed, IntKind.bits] at hs; omega)
end Go.Proofs.YthlemcnbebfliaaGreatDoor
