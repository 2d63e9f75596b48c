/-
  THE WALK OF FlashKeys.
-/
import Derived.Test.YtojdbmkbcjaikaaFAwake
import Derived.Test.YtojdbmkbcjaikaaFVals
import Derived.Test.YtojdbmkbcjaikaaBSame
import Derived.Deep.RegionHeld3
import Derived.IntWalk
namespace Go.Proofs.Ytojdbmkbcjaikaa
open Go.RowKit
set_option maxRecDepth 20000

theorem key_place {k : Nat} (h1 : 1 ≤ k) (h4 : k ≤ 4) (x : Nat) : ((x % (256 * k) : Nat) : Int) % 256 = (x : Int) % 256 := by
  have : k = 1 ∨ k = 2 ∨ k = 3 ∨ k = 4 := by omega
  rcases this with rfl | rfl | rfl | rfl <;> omega
theorem write_rest {s : Flash} (hl : s.left = 0) (hk : s.k = 0) (hn : s.named = false) (a v : Int) (h : ¬ (s.place a % 256 = 85 ∧ v = 170)) : s.write a v = s := by
  unfold Flash.write
  rw [if_pos hl]
  unfold Flash.put
  rw [if_neg (by omega), if_neg (by omega), if_neg (by omega)]
  unfold Flash.exact
  rw [if_neg (by rw [hk]; exact h)]
  unfold Flash.ends
  obtain ⟨da, kk, nm, le, wk, wf, wm, wv, tu⟩ := s
  simp at hk hn
  subst hk hn
  split <;> rfl
set_option maxRecDepth 100000 in
set_option maxHeartbeats 4000000 in
theorem flashKeys_walk (w : World) (a : Int) (wa : (Lit.int .u8 a).wf = true) (A1 : Option Addr) (n1 c1 : Nat) (z1 : List Int) (r1 : IsRow .u8 w A1 n1 c1 z1) (A2 : Option Addr) (n2 c2 : Nat) (l : List Opn) (r2 : Many opE w w.heap.size A2 n2 l ∧ n2 ≤ c2 ∧ n2 ≤ maxLen) :
    Calls Try.prog 7 #[.int .u8 a, .slice A1 n1 c1, .slice A2 n2 c2] w fun e w' => e = .returned (.bool true) ∧ Below w.heap.size w w' := by
  have ha : 0 ≤ a ∧ a ≤ 255 := by simpa [Lit.wf, IntKind.min, IntKind.max, IntKind.signed, IntKind.bits] using wa
  have HN1 := Lib.hid r1.nums
  have hm1 := r1.len_le.2
  unfold maxLen at hm1
  obtain ⟨ha0, ha1⟩ := ha
  clear r1 wa
  obtain ⟨b, hl1⟩ : ∃ l, z1.take n1 = l := ⟨_, rfl⟩
  rw [hl1] at HN1
  clear hl1
  obtain ⟨k, hkr⟩ : ∃ k : Nat, 1 + a % 4 = (k : Int) := ⟨(1 + a % 4).toNat, by omega⟩
  have hk1 : 1 ≤ k := by omega
  have hk4 : k ≤ 4 := by omega
  have HK := Lib.hid (show 1 ≤ k ∧ k ≤ 64 by omega)
  obtain ⟨z, hz⟩ : ∃ z : Nat, 256 * k = z := ⟨_, rfl⟩
  have hzr : 256 * (k : Int) = (z : Int) := by omega
  have hz0 : 256 ≤ z := by omega
  have hz1 : z ≤ 1024 := by omega
  have HZ := Lib.hid hz
  have HO0 := Lib.hid (show (made k b).Ok from made_ok HK.out HN1.out.byte)
  obtain ⟨D, hDD⟩ : ∃ D, (made k b).data = D := ⟨_, rfl⟩
  have HSD := Lib.hid hDD
  have HDL := Lib.hid (show D.length = z by rw [← hDD, ← hz]; exact fillL_len _ _)
  have HDB := Lib.hid (show ∀ v ∈ D, 0 ≤ v ∧ v ≤ 255 by rw [← hDD]; exact HO0.out.byte)
  have hsize : (made k b).data.length = z := by rw [hDD]; exact HDL.out
  obtain ⟨s0, hs0⟩ : ∃ s, made k b = s := ⟨_, rfl⟩
  have HS0 := Lib.hid hs0
  have hs0l : s0.left = 0 := by rw [← hs0]; rfl
  have hs0k : s0.k = 0 := by rw [← hs0]; rfl
  have hs0n : s0.named = false := by rw [← hs0]; rfl
  rw [hs0] at HO0 HSD hsize
  have HSZ := Lib.hid hsize
  clear hs0 hz hDD
  have HL := Lib.hid r2.1
  have HLL := Lib.hid r2.1.1
  have hm2 := r2.2.2
  have HOP := Lib.hid (show ∀ p d : Nat, w.heap.size ≤ p → w.heap.size ≤ d → Off (Its p d) A2 n2 from fun p d hp hd => Off.below HL.out hp hd)
  unfold maxLen at hm2
  clear r2
  by_cases hb1 : n1 ≤ 40
  · have hb1' : decide (40 < (n1 : Int)) = false := decide_eq_false (by omega)
    by_cases hb2 : n2 ≤ 120
    · have hb2' : decide (120 < (n2 : Int)) = false := decide_eq_false (by omega)
      have HRD := Lib.hid (show s0.read = s0 from if_neg (by omega))
      have HTK := Lib.hid (show s0.tick = s0 from if_pos hs0l)
      have HL0 := Lib.hid hs0l
      have HPL := Lib.hid (show ∀ (x : Int) (m : Nat), max 0 x = m → s0.place x = ((m % z : Nat) : Int) from fun x m hm => by
        unfold Flash.place Flash.size
        rw [hsize, Int.max_comm, hm]
        omega)
      have HWR := Lib.hid (show ∀ (x v : Int) (m : Nat), max 0 x = m → ¬ ((m : Int) % 256 = 85 ∧ v = 170) → s0.write x v = s0 from fun x v m hm hn => by
        refine write_rest hs0l hs0k hs0n x v ?_
        rw [HPL.out x m hm, ← HZ.out, key_place hk1 hk4]
        exact hn)
      have HTL := Lib.hid (show ∀ (x : Int) (m : Nat), max 0 x = m → s0.tell x = D.getD (m % z) 0 from fun x m hm => by
        unfold Flash.tell
        rw [if_neg (by omega), if_neg (by rw [hs0n]; decide), HPL.out x m hm, HSD.out, Int.toNat_natCast])
      clear hs0l hs0k hs0n hsize
      go_enter Try.func7, Try.ntmps7
      go_wp2_with fail
      refine (awake_any w).mono ?_
      rintro e w1 ⟨rfl, hb⟩
      have HB1 := Lib.hid hb
      clear hb
      go_wp2_with fail
      refine (made_any k A1 n1 c1 w.heap.size b w1 (HN1.out.below HB1.out) HB1.out.size (by omega) HK.out).mono ?_
      rintro e w2 ⟨v, rfl, p, d, cap, rfl, hc, hp, hd, hb⟩
      rw [HS0.out] at hc
      have HC := Lib.hid hc
      have HP := Lib.hid (show w.heap.size ≤ p by have := HB1.out.size; omega)
      have HD := Lib.hid (show w.heap.size ≤ d by have := HB1.out.size; omega)
      have HB2 := Lib.hid (HB1.out.trans (hb.mono HB1.out.size))
      have HLT := Lib.hid hc.lt
      clear hc hp hd hb
      go_wp2_with fail
      refine (bytes_any w2 p d cap s0 HC.out HO0.out).mono ?_
      rintro e w3 ⟨v, rfl, hv, hb⟩
      rw [HSD.out] at hv
      obtain ⟨g, c3, rfl, hg1, hg2, hn3⟩ : ∃ g c3, v = .slice (some ⟨g, 0, none⟩) z c3 ∧ w2.heap.size ≤ g ∧ g < w3.heap.size ∧ Nums .u8 w3 w3.heap.size (some ⟨g, 0, none⟩) z D := by
        obtain ⟨A3, c3, rfl, _, hm⟩ := hv.mine
        rw [HDL.out] at hm ⊢
        obtain ⟨g, rfl, hg1, hg2, _⟩ := hm.2 (by omega)
        exact ⟨g, c3, rfl, hg1, hg2, hm.nums fun x hx => byte_wf (HDB.out x hx)⟩
      have HW := Lib.hid hv
      have HN3 := Lib.hid hn3
      have HB3 := Lib.hid (HB2.out.trans (hb.mono HB2.out.size))
      have Z0 := Lib.hid (HC.out.below hb).went
      have HG := Lib.hid (show p < g ∧ d < g by have := HLT.out; omega)
      have HGL := Lib.hid hg2
      clear hv hb hn3 hg1 hg2
      go_wp2_with fail
      go_loopw [11, 12] (fun i _ wr => ∃ t : Nat, t ≤ n2 ∧ i = .int .i64 t ∧ Went p d cap s0 w3 wr) (fun i _ _ => n2 - (intOf i).toNat)
      case atStart => exact ⟨0, Nat.zero_le _, rfl, Z0.out⟩
      case round =>
        obtain ⟨t, ht, rfl, hz⟩ := hrel
        have Z := Lib.hid hz
        clear hz
        by_cases hlt : t < n2
        · have ht1 : (t : Int) < (n2 : Int) := by omega
          have ht0 : (0 : Int) ≤ (t : Int) := by omega
          obtain ⟨x, hx⟩ : ∃ x, l[t]? = some x := ⟨l[t]'(by have := HLL.out; omega), by simp [show t < l.length by have := HLL.out; omega]⟩
          obtain ⟨bb, oo, rfl, hbb, hcc⟩ := HL.out.2 (by omega)
          have HBBL := Lib.hid hbb
          have hcc := hcc t x hx
          have HAA := Lib.hid (fun (W' : World) (hk : Keeps (Its p d) w3 W') (o' : Nat) => (hk.cell (b := bb) (o := o') (by have := HB3.out.size; omega) (HOP.out p d HP.out HD.out bb oo rfl (by omega))).trans (HB3.out.cell (p := ⟨bb, o', none⟩) HBBL.out))
          have HCC := Lib.hid (show ∀ W', Keeps (Its p d) w3 W' → W'.cell? ⟨bb, oo + t * 3, none⟩ = some (.int .u8 x.k) ∧ W'.cell? ⟨bb, oo + t * 3 + 1, none⟩ = some (.int .i64 x.a) ∧ W'.cell? ⟨bb, oo + t * 3 + 2, none⟩ = some (.int .u8 x.v) from fun W' hk =>
            ⟨(HAA.out W' hk (oo + t * 3)).trans (hcc 0 _ rfl), (HAA.out W' hk (oo + t * 3 + 1)).trans (hcc 1 _ rfl), (HAA.out W' hk (oo + t * 3 + 2)).trans (hcc 2 _ rfl)⟩)
          obtain ⟨c0, c1, c2⟩ := HCC.out wr Z.out.2
          have HXK := Lib.hid x.hk
          have HXA := Lib.hid x.ha
          have HXV := Lib.hid x.hv
          clear hcc
          obtain ⟨xk, xa, xv, _, _, _⟩ := x
          simp only at c0 c1 c2 HCC HXA HXV
          have hxa := HXA.out
          obtain ⟨m, hm⟩ : ∃ m : Nat, max 0 xa = m := ⟨(max 0 xa).toNat, by omega⟩
          have hmb : (m : Int) ≤ 9223372036854775807 := by omega
          have HM := Lib.hid hm
          have hm0 : (0 : Int) ≤ (m : Int) := by omega
          have HNEXT := Lib.hid (show ∀ W', Went p d cap s0 w3 W' → ∃ t' : Nat, t' ≤ n2 ∧ Value.int .i64 ((t : Int) + 1) = .int .i64 t' ∧ Went p d cap s0 w3 W' from fun W' h => ⟨t + 1, by omega, by go_num, h⟩)
          clear hx hxa
          by_cases hk0 : xk = 0
          · subst hk0
            have u1 : ((0 : Int) == 1) = false := rfl
            have u2 : ((0 : Int) == 2) = false := rfl
            by_cases hkey : (m : Int) % 256 = 85 ∧ xv = 170
            · obtain ⟨hk1', rfl⟩ := hkey
              have hk2' : ((m : Int) % 256 == 85) = true := by simp [hk1']
              clear hk1'
              go_wp2_with fail
              go_ret
              exact ⟨rfl, HB3.out.trans ((Z.out.far (N := w.heap.size) HP.out HD.out HB3.out.size))⟩
            · have HWW := Lib.hid (HWR.out xa xv m HM.out hkey)
              by_cases hk1' : (m : Int) % 256 = 85
              · have hk2' : ((m : Int) % 256 == 85) = true := by simp [hk1']
                have hk3' : (xv == 170) = false := by simp; exact fun e => hkey ⟨hk1', e⟩
                clear hk1' hkey
                go_wp2_with fail
                have Zd := Lib.hid Z.out.drew
                go_region_held3 (fun w' => w'.cell? ⟨bb, oo + t * 3, none⟩ = some (.int .u8 0) ∧ w'.cell? ⟨bb, oo + t * 3 + 1, none⟩ = some (.int .i64 xa) ∧ w'.cell? ⟨bb, oo + t * 3 + 2, none⟩ = some (.int .u8 xv)) (first | (with_reducible exact CA.out) | go_keep) (first
                  | (go_at_call 15; refine (write_any _ p d cap s0 xa xv Zd.out.1 HO0.out HXV.out).mono ?_; rintro e' wa ⟨rfl, hz⟩; rw [HWW.out] at hz
                     have Za := Lib.hid (Zd.out.then_ hz)
                     have CA := Lib.hid (HCC.out wa Za.out.2)
                     clear hz))
                obtain ⟨c0, c1, c2⟩ := CA.out
                go_wp2_with fail
                go_quiet (fail)
                go_wp2_with fail
                refine (left_any _ p d cap s0 (Za.out.calm (below_drewN (Below.refl _ _) _)).1).mono ?_
                rintro e wl ⟨rfl, rfl⟩
                rw [HL0.out]
                have ZEND := Lib.hid (Za.out.calm (below_drewN (Below.refl _ _) nq))
                go_wp2_with fail
                go_roundw
                case rel => exact HNEXT.out _ ZEND.out
                case measure => simp [intOf]; omega
              · have hk2' : ((m : Int) % 256 == 85) = false := by simp [hk1']
                clear hk1' hkey
                go_wp2_with fail
                have Zd := Lib.hid Z.out.drew
                go_region_held3 (fun w' => w'.cell? ⟨bb, oo + t * 3, none⟩ = some (.int .u8 0) ∧ w'.cell? ⟨bb, oo + t * 3 + 1, none⟩ = some (.int .i64 xa) ∧ w'.cell? ⟨bb, oo + t * 3 + 2, none⟩ = some (.int .u8 xv)) (first | (with_reducible exact CA.out) | go_keep) (first
                  | (go_at_call 15; refine (write_any _ p d cap s0 xa xv Zd.out.1 HO0.out HXV.out).mono ?_; rintro e' wa ⟨rfl, hz⟩; rw [HWW.out] at hz
                     have Za := Lib.hid (Zd.out.then_ hz)
                     have CA := Lib.hid (HCC.out wa Za.out.2)
                     clear hz))
                obtain ⟨c0, c1, c2⟩ := CA.out
                go_wp2_with fail
                go_quiet (fail)
                go_wp2_with fail
                refine (left_any _ p d cap s0 (Za.out.calm (below_drewN (Below.refl _ _) _)).1).mono ?_
                rintro e wl ⟨rfl, rfl⟩
                rw [HL0.out]
                have ZEND := Lib.hid (Za.out.calm (below_drewN (Below.refl _ _) nq))
                go_wp2_with fail
                go_roundw
                case rel => exact HNEXT.out _ ZEND.out
                case measure => simp [intOf]; omega
          · have u0 : (xk == 0) = false := by simp [hk0]
            by_cases hk1 : xk = 1
            · subst hk1
              have u2 : ((1 : Int) == 2) = false := rfl
              obtain ⟨j, hj⟩ : ∃ j, m % z = j := ⟨_, rfl⟩
              have hjz : j < z := by rw [← hj]; exact Nat.mod_lt _ (by omega)
              have HT := Lib.hid (HTL.out xa m HM.out)
              rw [hj] at HT
              have hjm : (m : Int) % (z : Int) = (j : Int) := by rw [← hj]; omega
              have HCW := Lib.hid (fun w' (hk : Keeps (Its p d) w3 w') => (hk.cell (b := g) (o := j) HGL.out (fun hb => by have := HG.out; rcases hb with rfl | rfl <;> omega)).trans (show w3.cell? ⟨g, j, none⟩ = some (.int .u8 (D.getD j 0)) from by
                obtain ⟨b', o', e, _, hc⟩ := HN3.out.2.2 (by omega)
                injection e with e
                injection e with e1 e2
                subst e1 e2
                have := hc j hjz
                rwa [Nat.zero_add] at this))
              generalize D.getD j 0 = x at *
              clear hj
              have d0 := HCW.out wr Z.out.2
              have hj0 : (0 : Int) ≤ (j : Int) := by omega
              have hjz' : (j : Int) < (z : Int) := by omega
              have hzn : (z : Int) ≠ 0 := by omega
              have hzm : ¬ z = 0 := by omega
              have e1 : (m : Int).tmod (z : Int) = (j : Int) := by rw [Int.tmod_eq_emod_of_nonneg hm0, hjm]
              have e2 : IntKind.i64.wrap (j : Int) = (j : Int) := IntWalk.i64_in _ (by omega)
              have e0 : IntKind.i64.wrap ((m : Int).tmod (z : Int)) = (j : Int) := by rw [e1]; exact e2
              have q3 : (x != x) = false := by simp
              go_wp2_with fail
              have Zd := Lib.hid Z.out.drew
              go_region_held3 (fun w' => w'.cell? ⟨bb, oo + t * 3, none⟩ = some (.int .u8 1) ∧ w'.cell? ⟨bb, oo + t * 3 + 1, none⟩ = some (.int .i64 xa) ∧ w'.cell? ⟨g, j, none⟩ = some (.int .u8 x)) (first | (with_reducible exact CA.out) | go_keep) (first
                | (go_at_call 17; refine (read_any _ p d cap s0 xa Zd.out.1 HO0.out).mono ?_; rintro e' wa ⟨rfl, hz⟩; rw [HT.out]; rw [HRD.out] at hz
                   have Za := Lib.hid (Zd.out.then_ hz)
                   have CA := Lib.hid (show wa.cell? ⟨bb, oo + t * 3, none⟩ = some (.int .u8 1) ∧ wa.cell? ⟨bb, oo + t * 3 + 1, none⟩ = some (.int .i64 xa) ∧ wa.cell? ⟨g, j, none⟩ = some (.int .u8 x) from ⟨(HCC.out wa Za.out.2).1, (HCC.out wa Za.out.2).2.1, HCW.out wa Za.out.2⟩)
                   clear hz))
              clear e0 e1 e2 c1 c2
              obtain ⟨c0, c1, d0⟩ := CA.out
              go_wp2_with fail
              refine (left_any _ p d cap s0 (Za.out.calm (Below.refl _ _)).1).mono ?_
              rintro e wl ⟨rfl, rfl⟩
              rw [HL0.out]
              have ZEND := Lib.hid (Za.out.calm (Below.refl _ _))
              go_wp2_with fail
              go_roundw
              case rel => exact HNEXT.out _ ZEND.out
              case measure => simp [intOf]; omega
            · have u1 : (xk == 1) = false := by simp [hk1]
              by_cases hk2 : xk = 2
              · subst hk2
                go_wp2_with fail
                go_quiet (fail)
                go_wp2_with fail
                refine (tick_any _ p d cap s0 (Z.out.calm (below_drewN (Below.refl _ _) _)).1 HO0.out).mono ?_
                rintro e wa ⟨rfl, hz⟩
                rw [HTK.out] at hz
                have Za := Lib.hid ((Z.out.calm (below_drewN (Below.refl _ _) nq)).then_ hz)
                clear hz
                go_wp2_with fail
                refine (left_any _ p d cap s0 (Za.out.calm (Below.refl _ _)).1).mono ?_
                rintro e wl ⟨rfl, rfl⟩
                rw [HL0.out]
                have ZEND := Lib.hid (Za.out.calm (Below.refl _ _))
                go_wp2_with fail
                go_roundw
                case rel => exact HNEXT.out _ ZEND.out
                case measure => simp [intOf]; omega
              · have u2 : (xk == 2) = false := by simp [hk2]
                go_wp2_with fail
                go_quiet (fail)
                go_wp2_with fail
                refine (left_any _ p d cap s0 (Z.out.calm (below_drewN (Below.refl _ _) _)).1).mono ?_
                rintro e wl ⟨rfl, rfl⟩
                rw [HL0.out]
                have ZEND := Lib.hid (Z.out.calm (below_drewN (Below.refl _ _) nq))
                go_wp2_with fail
                go_roundw
                case rel => exact HNEXT.out _ ZEND.out
                case measure => simp [intOf]; omega
        · obtain rfl : t = n2 := by omega
          go_wp2_with fail
          refine (bytes_any wr p d cap s0 Z.out.1 HO0.out).mono ?_
          rintro e w21 ⟨v, rfl, hv, hb⟩
          rw [HSD.out] at hv
          obtain ⟨Ba, cba, rfl, _, hn⟩ := hv.nums fun x hx => byte_wf (HDB.out x hx)
          rw [HDL.out] at hn ⊢
          have HNa := Lib.hid hn
          have Zw21 := Lib.hid (Z.out.calm hb)
          clear hv hb hn
          go_wp2_with fail
          refine (same_refl Ba (some ⟨g, 0, none⟩) z cba c3 w21.heap.size D w21 (by unfold maxLen; omega) HNa.out ((HN3.out.off Zw21.out.2 (Nat.le_refl _) (Off.new HG.out.1 HG.out.2)).mono Zw21.out.2.size) (Nat.le_refl _)).mono ?_
          rintro e w22 ⟨rfl, hb⟩
          have Zw22 := Lib.hid (Zw21.out.calm hb)
          clear hb
          go_wp2_with fail
          go_ret
          exact ⟨rfl, HB3.out.trans ((Zw22.out.far (N := w.heap.size) HP.out HD.out HB3.out.size))⟩
    · have hb2' : decide (120 < (n2 : Int)) = true := decide_eq_true (by omega)
      go_enter Try.func7, Try.ntmps7
      go_wp2_with fail
      refine (awake_any w).mono ?_
      rintro e w1 ⟨rfl, hb⟩
      have HB1 := Lib.hid hb
      clear hb
      go_wp2_with fail
      go_ret
      exact ⟨rfl, HB1.out⟩
  · have hb1' : decide (40 < (n1 : Int)) = true := decide_eq_true (by omega)
    go_enter Try.func7, Try.ntmps7
    go_wp2_with fail
    refine (awake_any w).mono ?_
    rintro e w1 ⟨rfl, hb⟩
    have HB1 := Lib.hid hb
    clear hb
    go_wp2_with fail
    go_ret
    exact ⟨rfl, HB1.out⟩
end Go.Proofs.Ytojdbmkbcjaikaa
