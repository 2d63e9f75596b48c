/-
  THE WALK OF FlashPrograms.
-/
import Derived.Test.YtojdbmkbcjaikaaFAwake
import Derived.Test.YtojdbmkbcjaikaaFVals
import Derived.Test.YtojdbmkbcjaikaaBSame
import Derived.Deep.RegionHeld3
import Derived.IntWalk
namespace Go.Proofs.Ytojdbmkbcjaikaa
open Go.RowKit
set_option maxRecDepth 20000

set_option maxRecDepth 100000 in
set_option maxHeartbeats 4000000 in
theorem flashPrograms_walk (w : World) (a : Int) (wa : (Lit.int .u8 a).wf = true) (A1 : Option Addr) (n1 c1 : Nat) (z1 : List Int) (r1 : IsRow .u8 w A1 n1 c1 z1) (y : Int) (wy : (Lit.int .u16 y).wf = true) (v : Int) (wv : (Lit.int .u8 v).wf = true) :
    Calls Try.prog 5 #[.int .u8 a, .slice A1 n1 c1, .int .u16 y, .int .u8 v] w fun e w' => e = .returned (.bool true) ∧ Below w.heap.size w w' := by
  have ha : 0 ≤ a ∧ a ≤ 255 := by simpa [Lit.wf, IntKind.min, IntKind.max, IntKind.signed, IntKind.bits] using wa
  have HN1 := Lib.hid r1.nums
  have hm1 := r1.len_le.2
  unfold maxLen at hm1
  obtain ⟨ha0, ha1⟩ := ha
  clear r1 wa
  obtain ⟨b, hl1⟩ : ∃ l, z1.take n1 = l := ⟨_, rfl⟩
  rw [hl1] at HN1
  clear hl1
  obtain ⟨k, hkr⟩ : ∃ k : Nat, 1 + a % 4 = (k : Int) := ⟨(1 + a % 4).toNat, by omega⟩
  have hk1 : 1 ≤ k := by omega
  have hk4 : k ≤ 4 := by omega
  have HK := Lib.hid (show 1 ≤ k ∧ k ≤ 64 by omega)
  obtain ⟨z, hz⟩ : ∃ z : Nat, 256 * k = z := ⟨_, rfl⟩
  have hzr : 256 * (k : Int) = (z : Int) := by omega
  have hz0 : 256 ≤ z := by omega
  have hz1 : z ≤ 1024 := by omega
  have HZ := Lib.hid hz
  have HO0 := Lib.hid (show (made k b).Ok from made_ok HK.out HN1.out.byte)
  obtain ⟨D, hDD⟩ : ∃ D, (made k b).data = D := ⟨_, rfl⟩
  have HSD := Lib.hid hDD
  have HDL := Lib.hid (show D.length = z by rw [← hDD, ← hz]; exact fillL_len _ _)
  have HDB := Lib.hid (show ∀ v ∈ D, 0 ≤ v ∧ v ≤ 255 by rw [← hDD]; exact HO0.out.byte)
  have hsize : (made k b).data.length = z := by rw [hDD]; exact HDL.out
  obtain ⟨s0, hs0⟩ : ∃ s, made k b = s := ⟨_, rfl⟩
  have HS0 := Lib.hid hs0
  have hs0l : s0.left = 0 := by rw [← hs0]; rfl
  have hs0k : s0.k = 0 := by rw [← hs0]; rfl
  have hs0n : s0.named = false := by rw [← hs0]; rfl
  rw [hs0] at HO0 HSD hsize
  have HSZ := Lib.hid hsize
  clear hs0 hz hDD
  have hy : 0 ≤ y ∧ y ≤ 65535 := by simpa [Lit.wf, IntKind.min, IntKind.max, IntKind.signed, IntKind.bits] using wy
  obtain ⟨hy0, hy1⟩ := hy
  have hv : 0 ≤ v ∧ v ≤ 255 := by simpa [Lit.wf, IntKind.min, IntKind.max, IntKind.signed, IntKind.bits] using wv
  have HV := Lib.hid hv
  clear wy wv
  by_cases hb1 : n1 ≤ 40
  · have hb1' : decide (40 < (n1 : Int)) = false := decide_eq_false (by omega)
    obtain ⟨j, hj⟩ : ∃ j : Nat, y % (z : Int) = j := ⟨(y % (z : Int)).toNat, by have := Int.emod_nonneg y (show (z : Int) ≠ 0 by omega); omega⟩
    have hjz : j < z := by have := Int.emod_lt_of_pos y (show (0 : Int) < z by omega); omega
    have hji : IsInt (j : Int) := ⟨by omega, by omega⟩
    have HJI := Lib.hid hji
    have hpl : s0.place (j : Int) = j := by
      unfold Flash.place Flash.size
      rw [hsize, Int.max_eq_left (by omega)]
      exact Int.emod_eq_of_lt (by omega) (by omega)
    obtain ⟨s1, hs1⟩ : ∃ s : Flash, s0.busy 10 1 (j : Int) 1 v = s := ⟨_, rfl⟩
    have HE1 := Lib.hid (show s0.puts (programW (j : Int) v HJI.out HV.out) = s1 by rw [Flash.puts_program HO0.out hs0l hs0k, hpl]; exact hs1)
    have HO1 := Lib.hid (show s1.Ok by rw [← HE1.out]; exact puts_ok _ HO0.out)
    obtain ⟨s2, hs2⟩ : ∃ s : Flash, { s1 with left := 1 } = s := ⟨_, rfl⟩
    have HE2 := Lib.hid (show s1.ticks 9 = s2 by rw [Flash.ticks_lt 9 (by rw [← hs1]; show (9 : Int) < 10; decide), ← hs2, ← hs1]; rfl)
    have HO2 := Lib.hid (show s2.Ok by rw [← HE2.out]; exact ticks_ok _ HO1.out)
    have HD2 := Lib.hid (show s2.data = D by rw [← hs2, ← hs1]; exact HSD.out)
    have HL2 := Lib.hid (show s2.left = 1 by rw [← hs2])
    obtain ⟨s3, hs3⟩ : ∃ s : Flash, s2.ticks 1 = s := ⟨_, rfl⟩
    have HE3 := Lib.hid hs3
    have HO3 := Lib.hid (show s3.Ok by rw [← HE3.out]; exact ticks_ok _ HO2.out)
    have hs3' : s3 = ({ s2 with left := 0 } : Flash).finish := by rw [← hs3]; exact Flash.ticks_end 0 (by rw [HL2.out]; rfl)
    have HL3 := Lib.hid (show s3.left = 0 by rw [hs3']; rfl)
    have hd3 : s3.data = D.set j (bits .and .u8 (D.getD j 0) v) := by
      rw [hs3', Flash.done_byte (s := { s2 with left := 0 }) (by rw [← hs2, ← hs1]; rfl) (by rw [← hs2, ← hs1]; rfl) j (by rw [← hs2, ← hs1]; rfl) (by show j < s2.data.length; rw [HD2.out, HDL.out]; exact hjz)]
      show s2.data.set j (bits .and .u8 (s2.data.getD j 0) s2.wv) = _
      rw [HD2.out, ← hs2, ← hs1]
      rfl
    have HX := Lib.hid (Flash.getD_in HDB.out j)
    obtain ⟨x, hx⟩ : ∃ x, D.getD j 0 = x := ⟨_, rfl⟩
    have HXX := Lib.hid hx
    obtain ⟨q, hq⟩ : ∃ q, bits .and .u8 x v = q := ⟨_, rfl⟩
    obtain ⟨D', hD'⟩ : ∃ D', D.set j q = D' := ⟨_, rfl⟩
    have HD' := Lib.hid hD'
    rw [hx, hq, hD'] at hd3
    rw [hx] at HX
    have HQ := Lib.hid hq
    have HD3 := Lib.hid hd3
    have HDL' := Lib.hid (show D'.length = z by rw [← hD', List.length_set]; exact HDL.out)
    have HDB' := Lib.hid (show ∀ v ∈ D', 0 ≤ v ∧ v ≤ 255 by rw [← hd3]; exact HO3.out.byte)
    have HX3 := Lib.hid (show s3.tell (j : Int) = q by
      unfold Flash.tell
      rw [if_neg (by rw [HL3.out]; decide), if_neg (by rw [hs3', ← hs2, ← hs1]; show ¬ false = true; decide), HD3.out]
      have : s3.place (j : Int) = j := by
        unfold Flash.place Flash.size
        rw [HD3.out, HDL'.out, Int.max_eq_left (by omega)]
        exact Int.emod_eq_of_lt (by omega) (by omega)
      rw [this, Int.toNat_natCast, ← hD']
      simp [List.getD, HDL.out, hjz])
    have HR3 := Lib.hid (show s3.read = s3 from if_neg (by rw [HL3.out]; decide))
    have HCJ := Lib.hid (show ∀ (W : World) {g : Nat}, Nums .u8 W W.heap.size (some ⟨g, 0, none⟩) z D → W.cell? ⟨g, j, none⟩ = some (.int .u8 x) from fun W g h => by
      obtain ⟨b', o', e, _, hc⟩ := h.2.2 (by omega)
      injection e with e
      injection e with e1 e2
      subst e1 e2
      have := hc j hjz
      rwa [Nat.zero_add, hx] at this)
    have hj0 : (0 : Int) ≤ (j : Int) := by omega
    have hjz' : (j : Int) < (z : Int) := by omega
    have hzn : (z : Int) ≠ 0 := by omega
    have hzm : ¬ z = 0 := by omega
    obtain ⟨hv0, hv1⟩ := hv
    clear hs1 hs2 hs3 hs3' hd3 hs0l hs0k hs0n hsize hji hpl hx hq hD'
    go_enter Try.func5, Try.ntmps5
    go_wp2_with fail
    refine (awake_any w).mono ?_
    rintro e w1 ⟨rfl, hb⟩
    have HB1 := Lib.hid hb
    clear hb
    go_wp2_with fail
    refine (made_any k A1 n1 c1 w.heap.size b w1 (HN1.out.below HB1.out) HB1.out.size (by omega) HK.out).mono ?_
    rintro e w2 ⟨v, rfl, p, d, cap, rfl, hc, hp, hd, hb⟩
    rw [HS0.out] at hc
    have HC := Lib.hid hc
    have HP := Lib.hid (show w.heap.size ≤ p by have := HB1.out.size; omega)
    have HD := Lib.hid (show w.heap.size ≤ d by have := HB1.out.size; omega)
    have HB2 := Lib.hid (HB1.out.trans (hb.mono HB1.out.size))
    have HLT := Lib.hid hc.lt
    clear hc hp hd hb
    go_wp2_with fail
    refine (bytes_any w2 p d cap s0 HC.out HO0.out).mono ?_
    rintro e w3 ⟨v, rfl, hv, hb⟩
    rw [HSD.out] at hv
    obtain ⟨g, c3, rfl, hg1, hg2, hn3⟩ : ∃ g c3, v = .slice (some ⟨g, 0, none⟩) z c3 ∧ w2.heap.size ≤ g ∧ g < w3.heap.size ∧ Nums .u8 w3 w3.heap.size (some ⟨g, 0, none⟩) z D := by
      obtain ⟨A3, c3, rfl, _, hm⟩ := hv.mine
      rw [HDL.out] at hm ⊢
      obtain ⟨g, rfl, hg1, hg2, _⟩ := hm.2 (by omega)
      exact ⟨g, c3, rfl, hg1, hg2, hm.nums fun x hx => byte_wf (HDB.out x hx)⟩
    have HW := Lib.hid hv
    have HN3 := Lib.hid hn3
    have HB3 := Lib.hid (HB2.out.trans (hb.mono HB2.out.size))
    have Z0 := Lib.hid (HC.out.below hb).went
    have HG := Lib.hid (show p < g ∧ d < g by have := HLT.out; omega)
    have HGL := Lib.hid hg2
    clear hv hb hn3 hg1 hg2
    go_wp2_with fail
    refine (program_put w3 (j : Int) v HJI.out HV.out).mono ?_
    rintro e w4 ⟨bk, rfl, hb0, hm, hb⟩
    have HB0 := Lib.hid hb0
    have HM := Lib.hid hm
    have HBB := Lib.hid hb
    clear hb0 hm hb
    go_wp2_with fail
    refine (puts_any w4 p d cap s0 _ _ _ _ (programW (j : Int) v HJI.out HV.out) (Z0.out.1.below HBB.out) HO0.out HM.out (Nat.le_refl _) (Off.new (by have := HB0.out; have := Z0.out.1.lt; omega) (by have := HB0.out; have := Z0.out.1.lt; omega)) (by simp [programW, maxLen])).mono ?_
    rintro e w5 ⟨rfl, hz⟩
    rw [HE1.out] at hz
    have Zw5 := Lib.hid (Z0.out.then_ (Went.after HBB.out hz))
    clear hz HB0 HM HBB
    go_wp2_with fail
    refine (ticks_any w5 p d cap s1 9 Zw5.out.1 HO1.out (by omega)).mono ?_
    rintro e w6 ⟨rfl, hz⟩
    rw [HE2.out] at hz
    have Zw6 := Lib.hid (Zw5.out.then_ hz)
    clear hz
    go_wp2_with fail
    refine (bytes_any w6 p d cap s2 Zw6.out.1 HO2.out).mono ?_
    rintro e w7 ⟨v, rfl, hv, hb⟩
    rw [HD2.out] at hv
    obtain ⟨Ba, cba, rfl, _, hn⟩ := hv.nums fun x hx => byte_wf (HDB.out x hx)
    rw [HDL.out] at hn ⊢
    have HNa := Lib.hid hn
    have Zw7 := Lib.hid (Zw6.out.calm hb)
    clear hv hb hn
    go_wp2_with fail
    refine (same_refl Ba (some ⟨g, 0, none⟩) z cba c3 w7.heap.size D w7 (by unfold maxLen; omega) HNa.out ((HN3.out.off Zw7.out.2 (Nat.le_refl _) (Off.new HG.out.1 HG.out.2)).mono Zw7.out.2.size) (Nat.le_refl _)).mono ?_
    rintro e w8 ⟨rfl, hb⟩
    have Zw8 := Lib.hid (Zw7.out.calm hb)
    clear hb
    go_wp2_with fail
    refine (left_any w8 p d cap s2 Zw8.out.1).mono ?_
    rintro e w9 ⟨rfl, rfl⟩
    rw [HL2.out]
    go_wp2_with fail
    refine (ticks_any w8 p d cap s2 1 Zw8.out.1 HO2.out (by omega)).mono ?_
    rintro e w9 ⟨rfl, hz⟩
    rw [HE3.out] at hz
    have Zw9 := Lib.hid (Zw8.out.then_ hz)
    clear hz
    go_wp2_with fail
    refine (bytes_any w9 p d cap s3 Zw9.out.1 HO3.out).mono ?_
    rintro e w10 ⟨v, rfl, hv, hb⟩
    rw [HD3.out] at hv
    obtain ⟨Bb, cbb, rfl, _, hn⟩ := hv.nums fun x hx => byte_wf (HDB'.out x hx)
    rw [HDL'.out] at hn ⊢
    have HNb := Lib.hid hn
    have HBg := Lib.hid (show ∀ o, Bb = some ⟨g, o, none⟩ → False from fun o e => by
      have h1 := hv.lt (g := g) (by rw [e]; rfl)
      have := HGL.out
      have := Zw9.out.2.size
      omega)
    have Zw10 := Lib.hid (Zw9.out.calm hb)
    clear hv hb hn
    have HOw10 := Lib.hid (HW.out.beside Zw10.out HG.out)
    have HLB := Lib.hid (show 2 ≤ D.length by rw [HDL.out]; omega)
    obtain ⟨c9, f9⟩ := HOw10.out.at_ j (by rw [HDL.out]; exact hjz)
    rw [HXX.out] at c9
    have HPUT := Lib.hid (HOw10.out.put HDL.out.symm j q)
    rw [HD'.out] at HPUT
    have HCW := Lib.hid (Zw10.out.1.beside (i := j) (u := .int .u8 q) HOw10.out HLB.out HG.out)
    have HNBW := Lib.hid (HNb.out.off (S := fun b => b = g) ((Keeps.refl (fun b => b = g) w10).set_ (p := ⟨g, j, none⟩) (.inl rfl) (.int .u8 q)) (Nat.le_refl _) (fun b o e _ hb => by subst hb; exact HBg.out o e))
    have HBW := Lib.hid ((HB3.out.trans ((Zw10.out.far (N := w.heap.size) HP.out HD.out HB3.out.size))).setCell (p := ⟨g, j, none⟩) (show w.heap.size ≤ g by have := HG.out; have := HP.out; omega) (.int .u8 q))
    go_wp2_with fail
    rw [HQ.out]
    obtain ⟨W, hWW⟩ : ∃ W, w10.setCell ⟨g, j, none⟩ (.int .u8 q) = W := ⟨_, rfl⟩
    rw [hWW] at HPUT HCW HNBW HBW ⊢
    have HSW := Lib.hid (show w10.heap.size ≤ W.heap.size by rw [← hWW]; simp [World.setCell])
    clear hWW c9 f9
    have HNA := Lib.hid (HNBW.out.mono HSW.out)
    have HNG := Lib.hid (HPUT.out.nums_at fun x hx => byte_wf (HDB'.out x hx)).1
    have HCQ := Lib.hid (show D'.getD j 0 = q by rw [← HD'.out]; simp [List.getD, HDL.out, hjz])
    have hq0 := HPUT.out.at_ j (by rw [HDL'.out]; exact hjz)
    rw [HCQ.out] at hq0
    obtain ⟨C0, _⟩ := hq0
    have HC0 := Lib.hid C0
    have HGW := Lib.hid (HPUT.out.lt (g := g) rfl).2
    have HCF := Lib.hid (fun w' (hk : Keeps (Its p d) W w') => (hk.cell (b := g) (o := j) HGW.out (fun hb => by have := HG.out; rcases hb with rfl | rfl <;> omega)).trans HC0.out)
    have ZW := Lib.hid HCW.out.went
    have Zd := Lib.hid HCW.out.went.drew
    go_region_held3 (fun w' => w'.cell? ⟨g, j, none⟩ = some (.int .u8 q)) (first | (with_reducible exact CE.out) | (with_reducible exact CF.out) | go_keep) (first
      | (go_at_call 21; refine (left_any _ p d cap s3 Zd.out.1).mono ?_; rintro e' wl ⟨rfl, rfl⟩; rw [HL3.out])
      | (go_at_call 23; refine (same_refl Bb (some ⟨g, 0, none⟩) z cbb c3 W.heap.size D' _ (by unfold maxLen; omega) (HNA.out.below (below_drewN (Below.refl _ W) 1)) (HNG.out.below (below_drewN (Below.refl _ W) 1)) (Nat.le_refl _)).mono ?_; rintro e' we ⟨rfl, hb⟩
         have Ze := Lib.hid (Zd.out.calm hb)
         have CE := Lib.hid (show we.cell? ⟨g, j, none⟩ = some (.int .u8 q) from HCF.out _ Ze.out.2)
         clear hb)
      | (go_at_call 17; refine (read_any _ p d cap s3 (j : Int) Ze.out.1 HO3.out).mono ?_; rintro e' wf ⟨rfl, hz⟩; rw [HX3.out]
         have Zf := Lib.hid (Ze.out.then_ hz)
         have CF := Lib.hid (show wf.cell? ⟨g, j, none⟩ = some (.int .u8 q) from HCF.out _ Zf.out.2)
         clear hz))
    go_wp2_with fail
    go_ret
    exact ⟨rfl, HBW.out.trans (Zf.out.far HP.out HD.out (by have := HBW.out.size; omega))⟩
  · have hb1' : decide (40 < (n1 : Int)) = true := decide_eq_true (by omega)
    go_enter Try.func5, Try.ntmps5
    go_wp2_with fail
    refine (awake_any w).mono ?_
    rintro e w1 ⟨rfl, hb⟩
    have HB1 := Lib.hid hb
    clear hb
    go_wp2_with fail
    go_ret
    exact ⟨rfl, HB1.out⟩
end Go.Proofs.Ytojdbmkbcjaikaa
