/-
  THE WALK OF EepromWrites.
-/
import Derived.Test.YtfcdlnpfneinlaaDoorEWritesV
import Derived.Test.YtfcdlnpfneinlaaDoorEAwake
import Derived.Test.YtfcdlnpfneinlaaDoorBSame
import Derived.StillTailTactics
import Derived.IntWalk
namespace Go.Proofs.YtfcdlnpfneinlaaDoor
open Go.RowKit
set_option maxRecDepth 20000

set_option maxRecDepth 100000 in
set_option maxHeartbeats 8000000 in
theorem eepromWrites_walk (w : World) (a : Int) (wa : (Lit.int .u8 a).wf = true) (A1 : Option Addr) (n1 c1 : Nat) (z1 : List Int) (r1 : IsRow .u8 w A1 n1 c1 z1) (ad : Int) (wad : (Lit.int .u16 ad).wf = true) (A2 : Option Addr) (n3 c2 : Nat) (z2 : List Int) (r2 : IsRow .u8 w A2 n3 c2 z2) (hT : Tab w) :
    Calls Tryd.prog 5 #[.int .u8 a, .slice A1 n1 c1, .int .u16 ad, .slice A2 n3 c2] w fun e w' => e = .returned (.bool true) ∧ Below w.heap.size w w' := by
  have had : 0 ≤ ad ∧ ad ≤ 65535 := by simpa [Lit.wf, IntKind.min, IntKind.max, IntKind.signed, IntKind.bits] using wad
  obtain ⟨had0, had1⟩ := had
  clear wad
  have HN2 := Lib.hid r2.nums
  have hm2 := r2.len_le.2
  unfold maxLen at hm2
  obtain ⟨l, hl2⟩ : ∃ l, z2.take n3 = l := ⟨_, rfl⟩
  rw [hl2] at HN2
  have HLL := Lib.hid HN2.out.1
  have HLB := Lib.hid HN2.out.byte
  clear hl2 r2
  have HT := Lib.hid hT
  have ha : 0 ≤ a ∧ a ≤ 255 := by simpa [Lit.wf, IntKind.min, IntKind.max, IntKind.signed, IntKind.bits] using wa
  have HN1 := Lib.hid r1.nums
  have hm1 := r1.len_le.2
  unfold maxLen at hm1
  obtain ⟨ha0, ha1⟩ := ha
  clear hT r1 wa
  obtain ⟨b, hl1⟩ : ∃ l, z1.take n1 = l := ⟨_, rfl⟩
  rw [hl1] at HN1
  clear hl1
  obtain ⟨k, hk⟩ : ∃ k, 1 + a % 7 = k := ⟨_, rfl⟩
  have hk1 : 1 ≤ k := by omega
  have hk5 : k ≤ 7 := by omega
  have HK := Lib.hid (show 1 ≤ k ∧ k ≤ 10 by omega)
  have hks := kind_size HK.out
  obtain ⟨z, hz⟩ : ∃ z : Nat, gcol k 0 = z := ⟨(gcol k 0).toNat, by omega⟩
  have HZ := Lib.hid hz
  have hz0 : 128 ≤ z := by omega
  have hz1 : z ≤ 65536 := by omega
  have hkr : 1 + a % 7 = k := hk
  clear hks hz
  obtain ⟨D, hD⟩ : ∃ D, fillL b z = D := ⟨_, rfl⟩
  have HD := Lib.hid hD
  have HDL := Lib.hid (show D.length = z by rw [← hD, fillL_len])
  have HDB := Lib.hid (show ∀ v ∈ D, 0 ≤ v ∧ v ≤ 255 by rw [← hD]; exact fillL_in z HN1.out.byte)
  obtain ⟨s0, hs0⟩ : ∃ s0, fresh k D = s0 := ⟨_, rfl⟩
  have HO0 := Lib.hid (show Chip.Ok 0 s0 by rw [← hs0]; exact fresh_ok k D HK.out (by rw [HDL.out, HZ.out]) HDB.out)
  have HJ0 := Lib.hid (show s0.join = false by rw [← hs0]; rfl)
  have HI0 := Lib.hid (show Id k D 0 s0 by rw [← hs0]; exact ⟨rfl, rfl, rfl, rfl, rfl, rfl, rfl, rfl, rfl, rfl, rfl⟩)
  have HS0 := Lib.hid hs0
  clear hD
  by_cases hb1 : n1 ≤ 40
  · have hb1' : decide (40 < (n1 : Int)) = false := decide_eq_false (by omega)
    by_cases hb2 : n3 = 0
    · have hb2' : ((n3 : Int) == 0) = true := by simp [hb2]
      go_enter Tryd.func5, Tryd.ntmps5
      go_wp2_with fail
      refine (awake_any w HT.out).mono ?_
      rintro e w1 ⟨rfl, hb⟩
      have HB1 := Lib.hid hb
      clear hb
      go_wp2_with fail
      go_ret
      exact ⟨rfl, HB1.out⟩
    · have hb2' : ((n3 : Int) == 0) = false := by simp [hb2]
      by_cases hb3 : n3 ≤ 20
      · have hb3' : decide (20 < (n3 : Int)) = false := decide_eq_false (by omega)
        have hzp : (0 : Int) < (z : Int) := by omega
        obtain ⟨at_, hat⟩ : ∃ y, ad % (z : Int) = y := ⟨_, rfl⟩
        have hat1 : 0 ≤ at_ ∧ at_ < (z : Int) := by rw [← hat]; exact ⟨Int.emod_nonneg _ (by omega), Int.emod_lt_of_pos _ hzp⟩
        obtain ⟨hat2, hat3⟩ := hat1
        have hks := kind_size HK.out
        obtain ⟨pg, hpg⟩ : ∃ y, gcol k 1 = y := ⟨_, rfl⟩
        obtain ⟨wd, hwd⟩ : ∃ y, gcol k 2 = y := ⟨_, rfl⟩
        rw [hpg, hwd] at hks
        obtain ⟨_, _, hpg0, hpg1, hwd0, hwd1, _, _⟩ := hks
        have HPG := Lib.hid hpg
        have HWI := Lib.hid hwd
        have HP0 := Lib.hid (show 0 < gcol k 1 by rw [hpg]; omega)
        clear hpg hwd
        obtain ⟨s1, hs1⟩ : ∃ s1, s0.aim k at_ = s1 := ⟨_, rfl⟩
        have HS1 := Lib.hid hs1
        have HO1 := Lib.hid (show Chip.Ok 85 s1 by rw [← hs1]; exact aim_ok k at_ HO0.out (by omega))
        have HJ1 := Lib.hid (show s1.join = false by rw [← hs1]; exact aim_join k at_ HJ0.out)
        have HA1 := aim_rd (HI0.out.begin false) HK.out (by rw [HDL.out, HZ.out]) (z := at_) (by omega) (by rw [HZ.out]; omega)
        rw [hs1, HWI.out] at HA1
        have HRD := Lib.hid (show Rd 3 k D at_ [] s1 from HA1.1)
        have HAN := Lib.hid (show s0.aimN k at_ = 1 + wd from HA1.2)
        clear HA1 hs1
        obtain ⟨s2, hs2⟩ : ∃ s2, putsL s1 l = s2 := ⟨_, rfl⟩
        have HS2 := Lib.hid hs2
        have HO2 := Lib.hid (show Chip.Ok 625 s2 by rw [← hs2]; exact (putsL_ok l HO1.out (by omega)).mono (by have := HLL.out; omega))
        have HJ2 := Lib.hid (show s2.join = false by rw [← hs2]; exact putsL_join l HJ1.out)
        have R2 := HRD.out.puts HP0.out l HLB.out
        rw [hs2] at R2
        obtain ⟨s3, hs3⟩ : ∃ s3, s2.steps false endL = s3 := ⟨_, rfl⟩
        have HS3 := Lib.hid hs3
        have HO3 := Lib.hid (show Chip.Ok 628 s3 by rw [← hs3]; exact steps_ok false endL HO2.out (by omega))
        have HJ3 := Lib.hid (show s3.join = false by rw [← hs3]; exact steps_join false endL HJ2.out)
        have R3 := R2.stop_yes (fun h => hb2 (by rw [← HLL.out, ← places_len k at_ l, h]; rfl))
        rw [hs3] at R3
        obtain ⟨s4, hs4⟩ : ∃ s4, s3.idles 49 = s4 := ⟨_, rfl⟩
        have HS4 := Lib.hid hs4
        have HO4 := Lib.hid (show Chip.Ok 677 s4 by rw [← hs4]; exact idles_ok 49 HO3.out (by omega))
        have HJ4 := Lib.hid (show s4.join = false by rw [← hs4]; exact idles_join 49 HJ3.out)
        have R4 := R3.idle 49 (by omega)
        rw [hs4] at R4
        have HV4 := Lib.hid R4.data
        have HV4L := Lib.hid (show s4.left = 1 from R4.left)
        obtain ⟨s5, hs5⟩ : ∃ s5, s4.idles 1 = s5 := ⟨_, rfl⟩
        have HS5 := Lib.hid hs5
        have HO5 := Lib.hid (show Chip.Ok 678 s5 by rw [← hs5]; exact idles_ok 1 HO4.out (by omega))
        have R5 := Bz.done R4
        rw [hs5] at R5
        have HV5 := Lib.hid R5.data
        have HV5L := Lib.hid R5.left
        have HEL := Lib.hid (show (pairsL D (places k at_ l)).length = z by rw [pairsL_len, HDL.out])
        have HEB := Lib.hid (show ∀ v ∈ pairsL D (places k at_ l), 0 ≤ v ∧ v ≤ 255 by rw [← R5.data]; exact HO5.out.byte)
        have HLT := Lib.hid (show l.take n3 = l by rw [← HLL.out]; exact List.take_of_length_le (Nat.le_refl _))
        clear hs2 hs3 hs4 hs5 R2 R3 R4 R5
        go_enter Tryd.func5, Tryd.ntmps5
        go_wp2_with fail
        refine (awake_any w HT.out).mono ?_
        rintro e w1 ⟨rfl, hb⟩
        have HB1 := Lib.hid hb
        have HT1 := Lib.hid (tab_below HT.out hb (tab_pos HT.out))
        clear hb
        go_wp2_with fail
        refine (refEeprom_any k z w1 w1 (On.start HT1.out) HZ.out).mono ?_
        rintro e w2 ⟨rfl, hb⟩
        have HB2 := Lib.hid (HB1.out.trans (hb.bel.mono HB1.out.size))
        have HT2 := Lib.hid hb.tab
        clear hb
        go_wp2_with fail
        refine (fill_any A1 n1 c1 w.heap.size z b w2 (HN1.out.below HB2.out) HB2.out.size (by omega) (by omega)).mono ?_
        rintro e w3 ⟨v, rfl, hv, hb⟩
        rw [HD.out] at hv
        obtain ⟨A3, c3, rfl, _, hn3⟩ := hv.nums fun x hx => byte_wf (HDB.out x hx)
        rw [HDL.out] at hn3 ⊢
        have HN3 := Lib.hid hn3
        have HB3 := Lib.hid (HB2.out.trans (hb.mono HB2.out.size))
        have HT3 := Lib.hid (tab_below HT2.out hb (tab_pos HT2.out))
        clear hv hb hn3
        go_wp2_with fail
        refine (newChip_ok k A3 z c3 w3.heap.size D w3 HT3.out HN3.out (Nat.le_refl _) HK.out HZ.out.symm).mono ?_
        rintro e w4 ⟨p, rfl, hc, hb⟩
        rw [HS0.out] at hc
        have HB4 := Lib.hid hb
        have HT4 := Lib.hid hc.tab
        have Z0 := Lib.hid (show Went p (NewF w3 w4) s0 w4 w4 from hc.went)
        have HF3 := Lib.hid (show ∀ b, NewF w3 w4 b → w3.heap.size ≤ b from fun b hb => hb.1)
        clear hc hb
        go_wp2_with fail
        refine (aim_any w4 p _ s0 0 k at_ Z0.out.1 HO0.out HJ0.out (by omega) (by omega) HK.out (by omega) (by rw [HZ.out]; omega)).mono ?_
        rintro e w5 ⟨rfl, hz⟩
        rw [HS1.out] at hz
        have Z1 := Lib.hid (Z0.out.then_ hz HT4.out)
        clear hz
        rw [HAN.out]
        have HB5 := Lib.hid (HB4.out.trans (Z1.out.far (N := w3.heap.size) HF3.out HB4.out.size))
        have HF5 := Lib.hid (show ∀ b, Grow (NewF w3 w4) w4 w5 b → w3.heap.size ≤ b from fun b hb => by rcases hb with hb | hb; exact HF3.out b hb; exact Nat.le_trans HB4.out.size hb.1)
        have HFS := Lib.hid (show ∀ b, Grow (NewF w3 w4) w4 w5 b → b < w5.heap.size from Z1.out.1.there)
        have hown := own_empty .u8 5 w5.heap.size w5 (Nat.le_refl _)
        have hu : Nums .u8 (w5.alloc (.cells #[] 5)) w3.heap.size A3 z D := (HN3.out.below HB5.out).below ((below_box w5 _).mono HB5.out.size)
        obtain ⟨v6, w6, hr, h6, hb6⟩ := append_any elemB (w5.alloc (.cells #[] 5)) w5.heap.size 22 _ [] hown A3 z c3 w3.heap.size D hu (by simp; omega) (by simp)
        have HR6 := Lib.hid hr
        rw [List.nil_append] at h6
        have hb6' : Below w5.heap.size w5 w6 := (below_box w5 _).trans hb6
        have HB6 := Lib.hid hb6'
        have HC6 := Lib.hid (Z1.out.1.below hb6')
        obtain ⟨g, cw, cur, ev6, hg0, hgh, hgn, hgm, hgr⟩ : ∃ g cw cur, v6 = .slice (some ⟨g, 0, none⟩) z cw ∧ w5.heap.size ≤ g ∧ w6.heap[g]? = some (.cells cur 5 (0, 0)) ∧ OwnK .u8 5 w5.heap.size w6 (.slice (some ⟨g, 0, none⟩) z cw) D ∧ g < w6.heap.size ∧ True := by
          rcases h6.2 with ⟨_, h0⟩ | ⟨g, c, cur, e, hg, hh, _⟩
          · rw [HDL.out] at h0; omega
          · rw [HDL.out] at e; subst e; exact ⟨g, c, cur, rfl, hg, hh, h6, lt_of_heap hh, trivial⟩
        subst ev6
        have HW6 := Lib.hid hgn
        have HG0 := Lib.hid hg0
        have HG6 := Lib.hid hgm
        clear hown hu hr h6 hb6 hb6' hgh hgn hgm hgr
        go_wp2_with (at_builtin; refine Lib.wpList_append_run _ rfl _ _ _ _ rfl _ _ rfl rfl _ _ HR6.out ?_)
        refine (refPage_any k pg w6 w6 (On.start HC6.out.tab) HPG.out).mono ?_
        rintro e w7 ⟨rfl, hb⟩
        have HB76 := Lib.hid hb.bel
        have HB7 := Lib.hid ((HB5.out.trans (HB6.out.mono HB5.out.size)).trans (hb.bel.mono (Nat.le_trans HB5.out.size HB6.out.size)))
        have HC7 := Lib.hid (HC6.out.below hb.bel)
        have HW7 := Lib.hid (HW6.out.below hb.bel)
        have HG7 := Lib.hid (Nat.lt_of_lt_of_le HG6.out hb.bel.size)
        have HST := Lib.hid (Stay.start HC7.out HB7.out)
        have HFG := Lib.hid (show ¬ Grow (NewF w3 w4) w4 w5 g from fun h => by have := HFS.out g h; have := HG0.out; omega)
        have HG3 := Lib.hid (show w3.heap.size ≤ g from Nat.le_trans HB5.out.size HG0.out)
        have HGT := Lib.hid (show g ≠ 0 from fun e => by have := tab_pos HT3.out; have := HG3.out; omega)
        have HWW := Lib.hid (show w.heap.size ≤ w5.heap.size from Nat.le_trans HB3.out.size HB5.out.size)
        clear hb
        go_wp2_with fail
        go_loopw [16, 19] (fun q i wr => ∃ t : Nat, t ≤ n3 ∧ i = .int .i64 t ∧ q = .int .i64 (1 + wd + t) ∧ Stay p (Grow (NewF w3 w4) w4 w5) (putsL s1 (l.take t)) w3 w7 wr ∧ OwnK .u8 5 w5.heap.size wr (.slice (some ⟨g, 0, none⟩) z cw) (pairsL D (places k at_ (l.take t)))) (fun _ i _ => n3 - (intOf i).toNat)
        case atStart => exact ⟨0, Nat.zero_le _, rfl, by simp, HST.out, HW7.out⟩
        case round =>
          obtain ⟨t, ht, rfl, rfl, hst, how⟩ := hrel
          have HSR := Lib.hid hst
          have HOW := Lib.hid how
          have HBR := Lib.hid (HB3.out.trans (hst.2.1.mono HB3.out.size))
          clear hst how
          by_cases hlt : t < n3
          · have htl : t < l.length := by have := HLL.out; omega
            obtain ⟨bb, oo, rfl, hbb, cb⟩ := HN2.out.2.2 (by omega)
            have HCB := Lib.hid (cb t hlt)
            have HBB := Lib.hid hbb
            clear cb hbb
            have HX := Lib.hid (puts_next s1 htl)
            have hsp := kind_spot (i := (t : Int)) HK.out hat2 (by rw [HZ.out]; exact hat3) (by omega)
            rw [HPG.out, HZ.out] at hsp
            obtain ⟨m, hm⟩ : ∃ m, at_ % pg = m := ⟨_, rfl⟩
            rw [hm] at hsp
            obtain ⟨r, hr⟩ : ∃ r, (m + (t : Int)) % pg = r := ⟨_, rfl⟩
            rw [hr] at hsp
            obtain ⟨hm0, hm1, hr0, hr1, hy0, hy1⟩ := hsp
            obtain ⟨j, hj⟩ : ∃ j : Nat, at_ - m + r = j := ⟨(at_ - m + r).toNat, by omega⟩
            have hjz : j < z := by omega
            have HWN := Lib.hid (want_next (k := k) (z := at_) (D := D) (l := l) (t := t) (j := j) htl (by rw [HPG.out, hm, hr, hj]) (by rw [HDL.out]; exact hjz))
            have HXB := Lib.hid (Chip.getD_in HLB.out t)
            have HAC := Lib.hid (HRD.out.puts_ack HP0.out (l.take t) (l.getD t 0) (fun v hv => HLB.out v (List.mem_of_mem_take hv)) (Chip.getD_in HLB.out t))
            have HOK := Lib.hid (putsL_ok (l.take t) HO1.out (by omega))
            have HJN := Lib.hid (putsL_join (l.take t) HJ1.out)
            have HTK := Lib.hid (show (l.take t).length = t by rw [List.length_take]; omega)
            rw [HTK.out] at HOK
            generalize l.getD t 0 = x at *
            have c0 := (HBR.out.cell (p := ⟨bb, oo + t, none⟩) HBB.out).trans HCB.out
            have hxb := HXB.out
            have ht1 : (t : Int) < (n3 : Int) := by omega
            have ht0 : (0 : Int) ≤ (t : Int) := by omega
            go_wp2_with fail
            refine (put_any wr p _ _ _ x HSR.out.1 HOK.out HJN.out (by omega) (by omega) hxb.1 hxb.2).mono ?_
            rintro e w8 ⟨rfl, hz⟩
            rw [HAC.out]
            rw [← HX.out] at hz
            have HN8 := Lib.hid (HSR.out.next hz HF5.out (Nat.le_trans HB7.out.size (Nat.le_refl _)))
            have HB8 := Lib.hid (HB3.out.trans (HN8.out.1.2.1.mono HB3.out.size))
            have HO8 := Lib.hid (HOW.out.same (w' := w8) fun g' hg' => by simp [Value.ownBlock] at hg'; subst hg'; exact HN8.out.2 _ HFG.out HG7.out)
            clear hz c0
            have c0 := (HB8.out.cell (p := ⟨bb, oo + t, none⟩) HBB.out).trans HCB.out
            obtain ⟨A9, c9, e9, _, hmine⟩ := HO8.out.mine
            injection e9 with e1 e2 e3
            clear e3
            rw [pairsL_len, HDL.out] at hmine
            clear e2
            obtain ⟨g', e4, _, _, hgc⟩ := (e1 ▸ hmine).2 (by omega)
            injection e4 with e4
            injection e4 with e4
            subst e4
            obtain ⟨c2, f2⟩ := hgc j hjz
            have HOX := Lib.hid (show OwnK .u8 5 w5.heap.size (w8.setCell ⟨g, j, none⟩ (.int .u8 x)) (.slice (some ⟨g, 0, none⟩) z cw) (pairsL D (places k at_ (l.take (t + 1)))) by rw [← HWN.out]; exact HO8.out.put (by rw [pairsL_len, HDL.out]) j x)
            have HSX := Lib.hid (HN8.out.1.set_ (j := j) HFG.out HG7.out HG3.out HGT.out (.int .u8 x))
            clear hmine e1 hgc
            go_wp2_with fail
            have hpn : pg ≠ 0 := by omega
            have e0 : IntKind.i64.wrap (IntKind.i64.wrap (at_ - at_.tmod pg) + (IntKind.i64.wrap (at_.tmod pg + (t : Int))).tmod pg) = (j : Int) := by
              rw [Int.tmod_eq_emod_of_nonneg hat2, hm, IntWalk.i64_in (m + (t : Int)) (by omega), Int.tmod_eq_emod_of_nonneg (by omega), hr, IntWalk.i64_in (at_ - m) (by omega), IntWalk.i64_in _ (by omega), hj]
            go_still_tail 18, (by kernel_rfl)
            change wpList _ _ _ _ _ w8.drew
            try rw [e0]
            clear e0
            go_wp2_with fail
            go_roundw
            case rel => exact ⟨t + 1, by omega, by go_num, by go_num, HSX.out.calm (below_drew _) HF5.out HB7.out.size, HOX.out.below (below_drew _)⟩
            case measure => simp [intOf]; omega
          · obtain rfl : t = n3 := by omega
            rw [HLT.out, HS2.out] at HSR
            rw [HLT.out] at HOW
            have Z2 := Lib.hid HSR.out
            have HWE := Lib.hid HOW.out
            clear HSR HOW
            go_wp2_with fail
            refine (end_any wr).mono ?_
            rintro e w8 ⟨vv, rfl, ho, hb⟩
            obtain ⟨A8, c8, rfl⟩ := ho.form
            have HL8 := Lib.hid ho
            have HSP8 := Lib.hid (beside Z2.out.1 ho)
            have HC8 := Lib.hid (Z2.out.1.below hb)
            have HBB8 := Lib.hid hb
            clear ho hb
            go_wp2_with fail
            refine (stepsLaw_any w8 p _ s2 625 A8 endL.length c8 _ _ endL false HC8.out HO2.out HJ2.out (by omega) HL8.out HSP8.out rfl (by decide)).mono ?_
            rintro e w9 ⟨rfl, hz⟩
            rw [HS3.out] at hz
            have Z3 := Lib.hid (Z2.out.next (Went.after HBB8.out hz Z2.out.1.tab) HF5.out HB7.out.size)
            clear hz
            go_wp2_with fail
            refine (idles_any w9 p _ s3 628 49 Z3.out.1.1 HO3.out HJ3.out (by omega) (by omega)).mono ?_
            rintro e w10 ⟨rfl, hz⟩
            rw [HS4.out] at hz
            have Z4 := Lib.hid (Z3.out.1.next hz HF5.out HB7.out.size)
            have HWA := Lib.hid ((HWE.out.same (w' := w9) fun g' hg' => by simp [Value.ownBlock] at hg'; subst hg'; exact Z3.out.2 _ HFG.out HG7.out).same (w' := w10) fun g' hg' => by simp [Value.ownBlock] at hg'; subst hg'; exact Z4.out.2 _ HFG.out HG7.out)
            clear hz
            go_wp2_with fail
            refine (refWide_any k wd w10 w10 (On.start Z4.out.1.1.tab) HWI.out).mono ?_
            rintro e wx ⟨rfl, hb⟩
            have ZX := Lib.hid (Z4.out.1.calm hb.bel HF5.out HB7.out.size)
            have HWX := Lib.hid (HWA.out.below hb.bel)
            clear hb
            go_wp2_with fail
            refine (bytes_any wx p _ s4 677 ZX.out.1 HO4.out).mono ?_
            rintro e w11 ⟨vb, rfl, hv, hb⟩
            rw [HV4.out] at hv
            obtain ⟨B1, cb1, rfl, _, hnb⟩ := hv.nums fun x hx => byte_wf (HDB.out x hx)
            rw [HDL.out] at hnb ⊢
            have HNB1 := Lib.hid hnb
            have Z5 := Lib.hid (ZX.out.calm hb HF5.out HB7.out.size)
            have HWB := Lib.hid (HWX.out.below hb)
            clear hv hb hnb
            go_wp2_with fail
            refine (same_refl B1 A3 z cb1 c3 w11.heap.size D w11 (by unfold maxLen; omega) HNB1.out ((HN3.out.below Z5.out.2.1).mono Z5.out.2.1.size) (Nat.le_refl _)).mono ?_
            rintro e w12 ⟨rfl, hb⟩
            have Z6 := Lib.hid (Z5.out.calm hb HF5.out HB7.out.size)
            have HWC := Lib.hid (HWB.out.below hb)
            clear hb
            go_wp2_with fail
            refine (left_any w12 p _ s4 Z6.out.1).mono ?_
            rintro e w12' ⟨rfl, rfl⟩
            rw [HV4L.out]
            go_wp2_with fail
            refine (idles_any w12 p _ s4 677 1 Z6.out.1 HO4.out HJ4.out (by omega) (by omega)).mono ?_
            rintro e w13 ⟨rfl, hz⟩
            rw [HS5.out] at hz
            have Z7 := Lib.hid (Z6.out.next hz HF5.out HB7.out.size)
            have HWD := Lib.hid (HWC.out.same (w' := w13) fun g' hg' => by simp [Value.ownBlock] at hg'; subst hg'; exact Z7.out.2 _ HFG.out HG7.out)
            clear hz
            go_wp2_with fail
            refine (bytes_any w13 p _ s5 678 Z7.out.1.1 HO5.out).mono ?_
            rintro e w14 ⟨vb, rfl, hv, hb⟩
            rw [HV5.out] at hv
            obtain ⟨B2, cb2, rfl, _, hnb⟩ := hv.nums fun x hx => byte_wf (HEB.out x hx)
            rw [HEL.out] at hnb ⊢
            have HNB2 := Lib.hid hnb
            have Z8 := Lib.hid (Z7.out.1.calm hb HF5.out HB7.out.size)
            have HWF := Lib.hid (HWD.out.below hb)
            clear hv hb hnb
            have hwn := HWF.out.nums_at fun x hx => byte_wf (HEB.out x hx)
            have HWN := Lib.hid hwn.1
            clear hwn
            go_wp2_with fail
            refine (same_refl B2 _ z cb2 cw w14.heap.size _ w14 (by unfold maxLen; omega) HNB2.out HWN.out (Nat.le_refl _)).mono ?_
            rintro e w15 ⟨rfl, hb⟩
            have Z9 := Lib.hid (Z8.out.calm hb HF5.out HB7.out.size)
            clear hb
            go_wp2_with fail
            refine (left_any w15 p _ s5 Z9.out.1).mono ?_
            rintro e w15' ⟨rfl, rfl⟩
            rw [HV5L.out]
            go_wp2_with fail
            go_ret
            exact ⟨rfl, HB3.out.trans (Z9.out.2.1.mono HB3.out.size)⟩
      · have hb3' : decide (20 < (n3 : Int)) = true := decide_eq_true (by omega)
        go_enter Tryd.func5, Tryd.ntmps5
        go_wp2_with fail
        refine (awake_any w HT.out).mono ?_
        rintro e w1 ⟨rfl, hb⟩
        have HB1 := Lib.hid hb
        clear hb
        go_wp2_with fail
        go_ret
        exact ⟨rfl, HB1.out⟩
  · have hb1' : decide (40 < (n1 : Int)) = true := decide_eq_true (by omega)
    go_enter Tryd.func5, Tryd.ntmps5
    go_wp2_with fail
    refine (awake_any w HT.out).mono ?_
    rintro e w1 ⟨rfl, hb⟩
    have HB1 := Lib.hid hb
    clear hb
    go_wp2_with fail
    go_ret
    exact ⟨rfl, HB1.out⟩
end Go.Proofs.YtfcdlnpfneinlaaDoor
