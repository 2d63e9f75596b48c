/-
  THE WALK OF FlashNames.
-/
import Derived.Test.YtojdbmkbcjaikaaFAwake
import Derived.Test.YtojdbmkbcjaikaaFVals
import Derived.Test.YtojdbmkbcjaikaaBSame
import Derived.Deep.RegionHeld3
import Derived.IntWalk
namespace Go.Proofs.Ytojdbmkbcjaikaa
open Go.RowKit
set_option maxRecDepth 20000

theorem even_place {k : Nat} (h1 : 1 ≤ k) (h4 : k ≤ 4) (x : Int) (_hx : 0 ≤ x) : x % ((256 * k : Nat) : Int) % 2 = x % 2 := by
  have : k = 1 ∨ k = 2 ∨ k = 3 ∨ k = 4 := by omega
  rcases this with rfl | rfl | rfl | rfl <;> omega
set_option maxRecDepth 100000 in
set_option maxHeartbeats 4000000 in
theorem flashNames_walk (w : World) (a : Int) (wa : (Lit.int .u8 a).wf = true) (A1 : Option Addr) (n1 c1 : Nat) (z1 : List Int) (r1 : IsRow .u8 w A1 n1 c1 z1) (y : Int) (wy : (Lit.int .u16 y).wf = true) :
    Calls Try.prog 10 #[.int .u8 a, .slice A1 n1 c1, .int .u16 y] w fun e w' => e = .returned (.bool true) ∧ Below w.heap.size w w' := by
  have ha : 0 ≤ a ∧ a ≤ 255 := by simpa [Lit.wf, IntKind.min, IntKind.max, IntKind.signed, IntKind.bits] using wa
  have HN1 := Lib.hid r1.nums
  have hm1 := r1.len_le.2
  unfold maxLen at hm1
  obtain ⟨ha0, ha1⟩ := ha
  clear r1 wa
  obtain ⟨b, hl1⟩ : ∃ l, z1.take n1 = l := ⟨_, rfl⟩
  rw [hl1] at HN1
  clear hl1
  obtain ⟨k, hkr⟩ : ∃ k : Nat, 1 + a % 4 = (k : Int) := ⟨(1 + a % 4).toNat, by omega⟩
  have hk1 : 1 ≤ k := by omega
  have hk4 : k ≤ 4 := by omega
  have HK := Lib.hid (show 1 ≤ k ∧ k ≤ 64 by omega)
  obtain ⟨z, hz⟩ : ∃ z : Nat, 256 * k = z := ⟨_, rfl⟩
  have hzr : 256 * (k : Int) = (z : Int) := by omega
  have hz0 : 256 ≤ z := by omega
  have hz1 : z ≤ 1024 := by omega
  have HZ := Lib.hid hz
  have HO0 := Lib.hid (show (made k b).Ok from made_ok HK.out HN1.out.byte)
  obtain ⟨D, hDD⟩ : ∃ D, (made k b).data = D := ⟨_, rfl⟩
  have HSD := Lib.hid hDD
  have HDL := Lib.hid (show D.length = z by rw [← hDD, ← hz]; exact fillL_len _ _)
  have HDB := Lib.hid (show ∀ v ∈ D, 0 ≤ v ∧ v ≤ 255 by rw [← hDD]; exact HO0.out.byte)
  have hsize : (made k b).data.length = z := by rw [hDD]; exact HDL.out
  obtain ⟨s0, hs0⟩ : ∃ s, made k b = s := ⟨_, rfl⟩
  have HS0 := Lib.hid hs0
  have hs0l : s0.left = 0 := by rw [← hs0]; rfl
  have hs0k : s0.k = 0 := by rw [← hs0]; rfl
  have hs0n : s0.named = false := by rw [← hs0]; rfl
  rw [hs0] at HO0 HSD hsize
  have HSZ := Lib.hid hsize
  clear hs0 hz hDD
  have hy : 0 ≤ y ∧ y ≤ 65535 := by simpa [Lit.wf, IntKind.min, IntKind.max, IntKind.signed, IntKind.bits] using wy
  obtain ⟨hy0, hy1⟩ := hy
  clear wy
  by_cases hb1 : n1 ≤ 40
  · have hb1' : decide (40 < (n1 : Int)) = false := decide_eq_false (by omega)
    obtain ⟨s1, hs1⟩ : ∃ s : Flash, { s0 with k := 0, named := true } = s := ⟨_, rfl⟩
    have HE1 := Lib.hid (show s0.puts [key1, key2, cmd 144 (by decide)] = s1 from (Flash.puts_name HO0.out hs0l hs0k).trans hs1)
    have HO1 := Lib.hid (show s1.Ok by rw [← HE1.out]; exact puts_ok _ HO0.out)
    have HR1 := Lib.hid (show s1.read = s1 from if_neg (by rw [← hs1]; show ¬ 0 < s0.left; omega))
    have hyi : IsInt y := ⟨by omega, by omega⟩
    have HYI := Lib.hid hyi
    obtain ⟨s2, hs2⟩ : ∃ s : Flash, s1.puts [⟨y, 240, HYI.out, by decide⟩] = s := ⟨_, rfl⟩
    have HE2 := Lib.hid hs2
    have HO2 := Lib.hid (show s2.Ok by rw [← hs2]; exact puts_ok _ HO1.out)
    have hs2v : s2 = s0 := by
      rw [← hs2]
      show s1.write y 240 = s0
      rw [← hs1]
      have e : (Flash.mk s0.data 0 true s0.left s0.wk s0.wf s0.wm s0.wv s0.turn).write y 240 = { s0 with k := 0, named := false } := by
        unfold Flash.write
        rw [if_pos hs0l]
        unfold Flash.put
        rw [if_neg (by show ¬ (0 : Nat) = 2; decide), if_neg (by show ¬ (0 : Nat) = 3; decide), if_neg (by show ¬ (0 : Nat) = 6; decide)]
        unfold Flash.exact
        rw [if_neg (by rintro ⟨_, h⟩; exact absurd h (by show ¬ (240 : Int) = 170; decide))]
        unfold Flash.ends
        rw [if_pos rfl]
      rw [e]
      obtain ⟨da, kk, nm, le, wk, wf, wm, wv, tu⟩ := s0
      simp at hs0k hs0n
      subst hs0k hs0n
      rfl
    have HX1 := Lib.hid (show s1.tell y = if y % 2 = 0 then 191 else (k : Int) by
      unfold Flash.tell
      rw [if_neg (by rw [← hs1]; show ¬ 0 < s0.left; omega), if_pos (by rw [← hs1])]
      have hp : s1.place y = y % ((256 * k : Nat) : Int) := by
        rw [← hs1]
        unfold Flash.place Flash.size
        show max y 0 % ((s0.data.length : Nat) : Int) = _
        rw [hsize, ← HZ.out, Int.max_eq_left hy0]
      have hq : s1.size / 256 = (k : Int) := by
        rw [← hs1]
        unfold Flash.size
        show ((s0.data.length : Nat) : Int) / 256 = _
        rw [hsize, ← HZ.out]
        omega
      rw [hp, even_place hk1 hk4 y hy0, hq])
    obtain ⟨j, hj⟩ : ∃ j : Nat, y % (z : Int) = j := ⟨(y % (z : Int)).toNat, by have := Int.emod_nonneg y (show (z : Int) ≠ 0 by omega); omega⟩
    have hjz : j < z := by have := Int.emod_lt_of_pos y (show (0 : Int) < z by omega); omega
    have HX2 := Lib.hid (show s2.tell y = D.getD j 0 by
      rw [hs2v]
      unfold Flash.tell
      rw [if_neg (by omega), if_neg (by rw [hs0n]; decide), HSD.out]
      have hp : s0.place y = j := by
        unfold Flash.place Flash.size
        rw [hsize, Int.max_eq_left hy0]
        exact hj
      rw [hp, Int.toNat_natCast])
    have HR2 := Lib.hid (show s2.read = s2 from if_neg (by rw [hs2v]; omega))
    have HL2 := Lib.hid (show s2.left = 0 by rw [hs2v]; exact hs0l)
    have HD2 := Lib.hid (show s2.data = D by rw [hs2v]; exact HSD.out)
    have HXB := Lib.hid (Flash.getD_in HDB.out j)
    have HCJ := Lib.hid (show ∀ (W : World) {g : Nat}, Nums .u8 W W.heap.size (some ⟨g, 0, none⟩) z D → W.cell? ⟨g, j, none⟩ = some (.int .u8 (D.getD j 0)) from fun W g h => by
      obtain ⟨b', o', e, _, hc⟩ := h.2.2 (by omega)
      injection e with e
      injection e with e1 e2
      subst e1 e2
      have := hc j hjz
      rwa [Nat.zero_add] at this)
    generalize D.getD j 0 = x at *
    clear hs1 hs2 hs2v hs0l hs0k hs0n hsize hyi
    by_cases he : y % 2 = 0
    · have he' : (y % 2 == 0) = true := by simp [he]
      rw [if_pos he] at HX1
      clear he
      go_enter Try.func10, Try.ntmps10
      go_wp2_with fail
      refine (awake_any w).mono ?_
      rintro e w1 ⟨rfl, hb⟩
      have HB1 := Lib.hid hb
      clear hb
      go_wp2_with fail
      refine (made_any k A1 n1 c1 w.heap.size b w1 (HN1.out.below HB1.out) HB1.out.size (by omega) HK.out).mono ?_
      rintro e w2 ⟨v, rfl, p, d, cap, rfl, hc, hp, hd, hb⟩
      rw [HS0.out] at hc
      have HC := Lib.hid hc
      have HP := Lib.hid (show w.heap.size ≤ p by have := HB1.out.size; omega)
      have HD := Lib.hid (show w.heap.size ≤ d by have := HB1.out.size; omega)
      have HB2 := Lib.hid (HB1.out.trans (hb.mono HB1.out.size))
      have HLT := Lib.hid hc.lt
      clear hc hp hd hb
      go_wp2_with fail
      refine (bytes_any w2 p d cap s0 HC.out HO0.out).mono ?_
      rintro e w3 ⟨v, rfl, hv, hb⟩
      rw [HSD.out] at hv
      obtain ⟨g, c3, rfl, hg1, hg2, hn3⟩ : ∃ g c3, v = .slice (some ⟨g, 0, none⟩) z c3 ∧ w2.heap.size ≤ g ∧ g < w3.heap.size ∧ Nums .u8 w3 w3.heap.size (some ⟨g, 0, none⟩) z D := by
        obtain ⟨A3, c3, rfl, _, hm⟩ := hv.mine
        rw [HDL.out] at hm ⊢
        obtain ⟨g, rfl, hg1, hg2, _⟩ := hm.2 (by omega)
        exact ⟨g, c3, rfl, hg1, hg2, hm.nums fun x hx => byte_wf (HDB.out x hx)⟩
      have HW := Lib.hid hv
      have HN3 := Lib.hid hn3
      have HB3 := Lib.hid (HB2.out.trans (hb.mono HB2.out.size))
      have Z0 := Lib.hid (HC.out.below hb).went
      have HG := Lib.hid (show p < g ∧ d < g by have := HLT.out; omega)
      have HGL := Lib.hid hg2
      clear hv hb hn3 hg1 hg2
      have HCW := Lib.hid (fun w' (hk : Keeps (Its p d) w3 w') => (hk.cell (b := g) (o := j) HGL.out (fun hb => by have := HG.out; rcases hb with rfl | rfl <;> omega)).trans (show w3.cell? ⟨g, j, none⟩ = some (.int .u8 x) from HCJ.out w3 HN3.out))
      go_wp2_with fail
      have hmn := many_new wrE w3 63 [key1, key2, cmd 144 (by decide)] #[.int .i64 85, .int .u8 170, .int .i64 170, .int .u8 85, .int .i64 85, .int .u8 144] rfl
      have HM := Lib.hid hmn
      have HBB := Lib.hid (below_box w3 (.cells #[.int .i64 85, .int .u8 170, .int .i64 170, .int .u8 85, .int .i64 85, .int .u8 144] 63))
      clear hmn
      refine (puts_any _ p d cap s0 _ _ _ _ [key1, key2, cmd 144 (by decide)] (Z0.out.1.below HBB.out) HO0.out HM.out (by simp) (Off.new Z0.out.1.lt.1 Z0.out.1.lt.2) (by decide)).mono ?_
      rintro e w5 ⟨rfl, hz⟩
      rw [HE1.out] at hz
      have Z5 := Lib.hid (Z0.out.then_ (Went.after HBB.out hz))
      clear hz HM HBB
      go_wp2_with fail
      refine (read_any w5 p d cap s1 y Z5.out.1 HO1.out).mono ?_
      rintro e w6 ⟨rfl, hz⟩
      rw [HR1.out] at hz
      rw [HX1.out]
      have Z6 := Lib.hid (Z5.out.then_ hz)
      clear hz
      go_wp2_with fail
      have hmn := many_new wrE w6 63 [⟨y, 240, HYI.out, by decide⟩] #[.int .i64 y, .int .u8 240] rfl
      have HM := Lib.hid hmn
      have HBB := Lib.hid (below_box w6 (.cells #[.int .i64 y, .int .u8 240] 63))
      clear hmn
      refine (puts_any _ p d cap s1 _ _ _ _ [⟨y, 240, HYI.out, by decide⟩] (Z6.out.1.below HBB.out) HO1.out HM.out (by simp) (Off.new Z6.out.1.lt.1 Z6.out.1.lt.2) (by simp [maxLen])).mono ?_
      rintro e w7 ⟨rfl, hz⟩
      rw [HE2.out] at hz
      have Z7 := Lib.hid (Z6.out.then_ (Went.after HBB.out hz))
      clear hz HM HBB
      go_wp2_with fail
      have C0 := Lib.hid (show w7.cell? ⟨g, j, none⟩ = some (.int .u8 x) from HCW.out _ Z7.out.2)
      have d0 := C0.out
      have Z7d := Lib.hid Z7.out.drew
      have hzn : (z : Int) ≠ 0 := by omega
      have hzm : ¬ z = 0 := by omega
      have hj0 : (0 : Int) ≤ (j : Int) := by omega
      have hjz' : (j : Int) < (z : Int) := by omega
      have e0 : IntKind.i64.wrap (y.tmod (z : Int)) = (j : Int) := by
        rw [Int.tmod_eq_emod_of_nonneg hy0, hj]
        exact IntWalk.i64_in _ (by omega)
      have e1 : y.tmod (z : Int) = (j : Int) := by rw [Int.tmod_eq_emod_of_nonneg hy0, hj]
      have e2 : IntKind.i64.wrap (j : Int) = (j : Int) := IntWalk.i64_in _ (by omega)
      have e3 : IntKind.i64.wrap y = y := IntWalk.i64_in _ (by omega)
      go_region_held3 (fun w' => w'.cell? ⟨g, j, none⟩ = some (.int .u8 x)) (first | (with_reducible exact C8.out) | (with_reducible exact C9.out) | go_keep) (first
        | (go_at_call 17; refine (read_any _ p d cap s2 y Z7d.out.1 HO2.out).mono ?_; rintro e' w8 ⟨rfl, hz⟩; rw [HX2.out]; rw [HR2.out] at hz
           have Z8 := Lib.hid (Z7d.out.then_ hz)
           have C8 := Lib.hid (show w8.cell? ⟨g, j, none⟩ = some (.int .u8 x) from HCW.out _ Z8.out.2)
           clear hz)
        | (go_at_call 21; refine (left_any _ p d cap s2 Z8.out.1).mono ?_; rintro e' w9 ⟨rfl, rfl⟩; rw [HL2.out])
        | (go_at_call 24; refine (bytes_any _ p d cap s2 Z8.out.1 HO2.out).mono ?_; rintro e' w9 ⟨vb, rfl, hv, hb⟩
           rw [HD2.out] at hv
           obtain ⟨B1, cb1, rfl, _, hnb⟩ := hv.nums fun x hx => byte_wf (HDB.out x hx)
           rw [HDL.out] at hnb ⊢
           have HNB1 := Lib.hid hnb
           have Z9 := Lib.hid (Z8.out.calm hb)
           have C9 := Lib.hid (show w9.cell? ⟨g, j, none⟩ = some (.int .u8 x) from HCW.out _ Z9.out.2)
           clear hv hb hnb)
        | (go_at_call 23; refine (same_refl B1 _ z cb1 c3 _ D _ (by unfold maxLen; omega) HNB1.out ((HN3.out.off Z9.out.2 (Nat.le_refl _) (Off.new HG.out.1 HG.out.2)).mono Z9.out.2.size) (Nat.le_refl _)).mono ?_; rintro e' w10 ⟨rfl, hb⟩
           have Z10 := Lib.hid (Z9.out.calm hb)
           have C9 := Lib.hid (show w10.cell? ⟨g, j, none⟩ = some (.int .u8 x) from HCW.out _ Z10.out.2)
           clear hb))
      go_wp2_with fail
      go_ret
      exact ⟨rfl, HB3.out.trans ((Z10.out.far (N := w.heap.size) HP.out HD.out HB3.out.size))⟩
    · have he' : (y % 2 == 0) = false := by simp [he]
      rw [if_neg he] at HX1
      clear he
      go_enter Try.func10, Try.ntmps10
      go_wp2_with fail
      refine (awake_any w).mono ?_
      rintro e w1 ⟨rfl, hb⟩
      have HB1 := Lib.hid hb
      clear hb
      go_wp2_with fail
      refine (made_any k A1 n1 c1 w.heap.size b w1 (HN1.out.below HB1.out) HB1.out.size (by omega) HK.out).mono ?_
      rintro e w2 ⟨v, rfl, p, d, cap, rfl, hc, hp, hd, hb⟩
      rw [HS0.out] at hc
      have HC := Lib.hid hc
      have HP := Lib.hid (show w.heap.size ≤ p by have := HB1.out.size; omega)
      have HD := Lib.hid (show w.heap.size ≤ d by have := HB1.out.size; omega)
      have HB2 := Lib.hid (HB1.out.trans (hb.mono HB1.out.size))
      have HLT := Lib.hid hc.lt
      clear hc hp hd hb
      go_wp2_with fail
      refine (bytes_any w2 p d cap s0 HC.out HO0.out).mono ?_
      rintro e w3 ⟨v, rfl, hv, hb⟩
      rw [HSD.out] at hv
      obtain ⟨g, c3, rfl, hg1, hg2, hn3⟩ : ∃ g c3, v = .slice (some ⟨g, 0, none⟩) z c3 ∧ w2.heap.size ≤ g ∧ g < w3.heap.size ∧ Nums .u8 w3 w3.heap.size (some ⟨g, 0, none⟩) z D := by
        obtain ⟨A3, c3, rfl, _, hm⟩ := hv.mine
        rw [HDL.out] at hm ⊢
        obtain ⟨g, rfl, hg1, hg2, _⟩ := hm.2 (by omega)
        exact ⟨g, c3, rfl, hg1, hg2, hm.nums fun x hx => byte_wf (HDB.out x hx)⟩
      have HW := Lib.hid hv
      have HN3 := Lib.hid hn3
      have HB3 := Lib.hid (HB2.out.trans (hb.mono HB2.out.size))
      have Z0 := Lib.hid (HC.out.below hb).went
      have HG := Lib.hid (show p < g ∧ d < g by have := HLT.out; omega)
      have HGL := Lib.hid hg2
      clear hv hb hn3 hg1 hg2
      have HCW := Lib.hid (fun w' (hk : Keeps (Its p d) w3 w') => (hk.cell (b := g) (o := j) HGL.out (fun hb => by have := HG.out; rcases hb with rfl | rfl <;> omega)).trans (show w3.cell? ⟨g, j, none⟩ = some (.int .u8 x) from HCJ.out w3 HN3.out))
      go_wp2_with fail
      have hmn := many_new wrE w3 63 [key1, key2, cmd 144 (by decide)] #[.int .i64 85, .int .u8 170, .int .i64 170, .int .u8 85, .int .i64 85, .int .u8 144] rfl
      have HM := Lib.hid hmn
      have HBB := Lib.hid (below_box w3 (.cells #[.int .i64 85, .int .u8 170, .int .i64 170, .int .u8 85, .int .i64 85, .int .u8 144] 63))
      clear hmn
      refine (puts_any _ p d cap s0 _ _ _ _ [key1, key2, cmd 144 (by decide)] (Z0.out.1.below HBB.out) HO0.out HM.out (by simp) (Off.new Z0.out.1.lt.1 Z0.out.1.lt.2) (by decide)).mono ?_
      rintro e w5 ⟨rfl, hz⟩
      rw [HE1.out] at hz
      have Z5 := Lib.hid (Z0.out.then_ (Went.after HBB.out hz))
      clear hz HM HBB
      go_wp2_with fail
      refine (read_any w5 p d cap s1 y Z5.out.1 HO1.out).mono ?_
      rintro e w6 ⟨rfl, hz⟩
      rw [HR1.out] at hz
      rw [HX1.out]
      have Z6 := Lib.hid (Z5.out.then_ hz)
      clear hz
      go_wp2_with fail
      have hmn := many_new wrE w6 63 [⟨y, 240, HYI.out, by decide⟩] #[.int .i64 y, .int .u8 240] rfl
      have HM := Lib.hid hmn
      have HBB := Lib.hid (below_box w6 (.cells #[.int .i64 y, .int .u8 240] 63))
      clear hmn
      refine (puts_any _ p d cap s1 _ _ _ _ [⟨y, 240, HYI.out, by decide⟩] (Z6.out.1.below HBB.out) HO1.out HM.out (by simp) (Off.new Z6.out.1.lt.1 Z6.out.1.lt.2) (by simp [maxLen])).mono ?_
      rintro e w7 ⟨rfl, hz⟩
      rw [HE2.out] at hz
      have Z7 := Lib.hid (Z6.out.then_ (Went.after HBB.out hz))
      clear hz HM HBB
      go_wp2_with fail
      have C0 := Lib.hid (show w7.cell? ⟨g, j, none⟩ = some (.int .u8 x) from HCW.out _ Z7.out.2)
      have d0 := C0.out
      have Z7d := Lib.hid Z7.out.drew
      have hzn : (z : Int) ≠ 0 := by omega
      have hzm : ¬ z = 0 := by omega
      have hj0 : (0 : Int) ≤ (j : Int) := by omega
      have hjz' : (j : Int) < (z : Int) := by omega
      have e0 : IntKind.i64.wrap (y.tmod (z : Int)) = (j : Int) := by
        rw [Int.tmod_eq_emod_of_nonneg hy0, hj]
        exact IntWalk.i64_in _ (by omega)
      have e1 : y.tmod (z : Int) = (j : Int) := by rw [Int.tmod_eq_emod_of_nonneg hy0, hj]
      have e2 : IntKind.i64.wrap (j : Int) = (j : Int) := IntWalk.i64_in _ (by omega)
      have e3 : IntKind.i64.wrap y = y := IntWalk.i64_in _ (by omega)
      go_region_held3 (fun w' => w'.cell? ⟨g, j, none⟩ = some (.int .u8 x)) (first | (with_reducible exact C8.out) | (with_reducible exact C9.out) | go_keep) (first
        | (go_at_call 17; refine (read_any _ p d cap s2 y Z7d.out.1 HO2.out).mono ?_; rintro e' w8 ⟨rfl, hz⟩; rw [HX2.out]; rw [HR2.out] at hz
           have Z8 := Lib.hid (Z7d.out.then_ hz)
           have C8 := Lib.hid (show w8.cell? ⟨g, j, none⟩ = some (.int .u8 x) from HCW.out _ Z8.out.2)
           clear hz)
        | (go_at_call 21; refine (left_any _ p d cap s2 Z8.out.1).mono ?_; rintro e' w9 ⟨rfl, rfl⟩; rw [HL2.out])
        | (go_at_call 24; refine (bytes_any _ p d cap s2 Z8.out.1 HO2.out).mono ?_; rintro e' w9 ⟨vb, rfl, hv, hb⟩
           rw [HD2.out] at hv
           obtain ⟨B1, cb1, rfl, _, hnb⟩ := hv.nums fun x hx => byte_wf (HDB.out x hx)
           rw [HDL.out] at hnb ⊢
           have HNB1 := Lib.hid hnb
           have Z9 := Lib.hid (Z8.out.calm hb)
           have C9 := Lib.hid (show w9.cell? ⟨g, j, none⟩ = some (.int .u8 x) from HCW.out _ Z9.out.2)
           clear hv hb hnb)
        | (go_at_call 23; refine (same_refl B1 _ z cb1 c3 _ D _ (by unfold maxLen; omega) HNB1.out ((HN3.out.off Z9.out.2 (Nat.le_refl _) (Off.new HG.out.1 HG.out.2)).mono Z9.out.2.size) (Nat.le_refl _)).mono ?_; rintro e' w10 ⟨rfl, hb⟩
           have Z10 := Lib.hid (Z9.out.calm hb)
           have C9 := Lib.hid (show w10.cell? ⟨g, j, none⟩ = some (.int .u8 x) from HCW.out _ Z10.out.2)
           clear hb))
      go_wp2_with fail
      go_ret
      exact ⟨rfl, HB3.out.trans ((Z10.out.far (N := w.heap.size) HP.out HD.out HB3.out.size))⟩
  · have hb1' : decide (40 < (n1 : Int)) = true := decide_eq_true (by omega)
    go_enter Try.func10, Try.ntmps10
    go_wp2_with fail
    refine (awake_any w).mono ?_
    rintro e w1 ⟨rfl, hb⟩
    have HB1 := Lib.hid hb
    clear hb
    go_wp2_with fail
    go_ret
    exact ⟨rfl, HB1.out⟩
end Go.Proofs.Ytojdbmkbcjaikaa
