/-
  THE WALK OF CutAll.
-/
import Derived.Test.YtldnbjenklbepaaCOut
namespace Go.Proofs.Ytldnbjenklbepaa
open Go.RowKit
set_option maxRecDepth 20000

set_option maxRecDepth 100000 in
set_option maxHeartbeats 4000000 in
theorem cutAll_walk (w : World) (A0 : Option Addr) (n0 c0 : Nat) (z0 : List Int) (h0 : IsRow .u8 w A0 n0 c0 z0) (A1 : Option Addr) (n1 c1 : Nat) (z1 : List Int) (h1 : IsRow .u8 w A1 n1 c1 z1) :
    Calls Try.prog 7 #[.slice A0 n0 c0, .slice A1 n1 c1] w fun e w' => e = .returned (.bool true) ∧ Below w.heap.size w w' := by
  have HO := Lib.hid h0.nums
  have HP := Lib.hid h1.nums
  have HC := Lib.hid (And.intro h1.len_le.1 h1.cap_le)
  generalize z0.take n0 = a at *
  generalize z1.take n1 = b at *
  clear h0 h1
  have HL := Lib.hid (And.intro HO.out.1 HP.out.1)
  go_enter Try.func7, Try.ntmps7
  go_wp2_with fail
  refine (awake_any w).mono ?_
  rintro e w1 ⟨rfl, hb1⟩
  have HB1 := Lib.hid hb1
  clear hb1
  by_cases g0 : 200 < n0
  · have g0' : (200 : Int) < (n0 : Int) := by omega
    go_wp2_with fail
    go_ret
    exact ⟨rfl, HB1.out⟩
  have g0' : ¬ (200 : Int) < (n0 : Int) := by omega
  by_cases g1 : n1 = n0
  rotate_left
  · have g1' : ((n1 : Int) != (n0 : Int)) = true := by simp; omega
    go_wp2_with fail
    go_ret
    exact ⟨rfl, HB1.out⟩
  subst g1
  have g1' : ((n1 : Int) != (n1 : Int)) = false := by simp
  have HAL := Lib.hid (show b.length = a.length by rw [HL.out.1, HL.out.2])
  go_wp2_with fail
  refine (apart_any A0 A1 n1 c0 n1 c1 w.heap.size a b w1 (HO.out.below HB1.out) (HP.out.below HB1.out) HB1.out.size (by omega) (by omega)).mono ?_
  intro e w3 hg
  obtain ⟨B4, d4, rfl, hm, hb⟩ := hg.nums (apartL_wf (by rw [HL.out.1]; omega) (by rw [HL.out.2]; omega))
  have HIN := Lib.hid (fun v hv => (apartL_mem a b HAL.out v).1 hv)
  have HEND := Lib.hid (cellsL_apart a b HAL.out)
  have HCOM := Lib.hid (apartL_comm b a)
  have hLA := apartL_len a b HAL.out
  rw [HL.out.1] at hLA
  generalize apartL a b = L at *
  obtain ⟨PK, hPK⟩ : ∃ PK, (L.map fun v => b.getD v.toNat 0) = PK := ⟨_, rfl⟩
  rw [hPK] at HEND
  obtain ⟨m, hmL⟩ : ∃ m, L.length = m := ⟨_, rfl⟩
  rw [hmL] at hm hLA ⊢
  have HPL := Lib.hid (show PK.length = m by rw [← hPK, List.length_map, hmL])
  have HPG := Lib.hid (show ∀ k, k < m → PK.getD k 0 = b.getD (L.getD k 0).toNat 0 from fun k hk => by rw [← hPK]; simp [List.getD, show k < L.length by omega])
  have HPB := Lib.hid (show ∀ v ∈ PK, 0 ≤ v ∧ v ≤ 255 from fun v hv => by
    rw [← hPK] at hv
    obtain ⟨x, _, rfl⟩ := List.mem_map.1 hv
    exact getD_byte HP.out.byte _)
  have HM := Lib.hid hmL
  have H4 := Lib.hid hm
  have HB3 := Lib.hid (HB1.out.trans (hb.mono HB1.out.size))
  clear hg hm hb HB1 hmL hPK
  go_wp2_with fail
  go_loopw [7, 8] (fun v i wr => ∃ k : Nat, k ≤ m ∧ i = .int .i64 k ∧ OwnK .u8 5 w3.heap.size wr v (PK.take k) ∧ Below w3.heap.size w3 wr) (fun _ i _ => m - (intOf i).toNat)
  case atStart => exact ⟨0, Nat.zero_le _, rfl, OwnK.nil _ _ _ _, Below.refl _ _⟩
  case round =>
    obtain ⟨k, hk, rfl, hown, hbel⟩ := hrel
    have HOW := Lib.hid hown
    have HBE := Lib.hid hbel
    clear hown hbel
    by_cases hlt : k < m
    · obtain ⟨b4, o4, rfl, hv⟩ := H4.out.cell HBE.out k hlt
      obtain ⟨i, hi, hxi, _⟩ := HIN.out (L.getD k 0) (getD_mem (by rw [HM.out]; exact hlt))
      have hG := HPG.out k hlt
      rw [hxi] at hv hG
      obtain ⟨b5, o5, rfl, hv5⟩ := HP.out.cell (HB3.out.trans (HBE.out.mono HB3.out.size)) i (by have := HL.out.1; omega)
      rw [show ((i : Int)).toNat = i from rfl] at hG
      have hxb := getD_byte HP.out.byte i
      generalize b.getD i 0 = y at *
      obtain ⟨v', w', hrun, ho', hb'⟩ := append_one elemB wr w3.heap.size 22 _ _ HOW.out y (byte_wf hxb) (by rw [List.length_take]; omega) HBE.out.size
      have R := Lib.hid (And.intro (show OwnK .u8 5 w3.heap.size w' v' (PK.take (k + 1)) by rw [take_snoc (by rw [HPL.out]; exact hlt) hG]; exact ho') (HBE.out.trans hb'))
      have HRUN := Lib.hid hrun
      have hin : i < n1 := by have := HL.out.1; omega
      have hi0 : ¬ (i : Int) < 0 := by omega
      have hi1 : (i : Int) < (n1 : Int) := by omega
      have hi2 : ¬ (n1 : Int) ≤ (i : Int) := by omega
      have hk0 : (0 : Int) ≤ (k : Int) := by omega
      have hk1 : (k : Int) < (m : Int) := by omega
      clear hrun ho' hb' hG hxi
      go_wp2_with (at_builtin; refine Lib.wpList_append_run _ rfl _ _ _ _ rfl _ _ rfl rfl _ _ HRUN.out ?_)
      go_roundw
      case rel => exact ⟨k + 1, by omega, by go_num, R.out.1, R.out.2⟩
      case measure => simp [intOf]; omega
    · obtain rfl : k = m := by omega
      obtain ⟨AP, cP, hform⟩ := HOW.out.form
      have hlen : (PK.take k).length = k := by rw [List.length_take, HPL.out]; omega
      rw [hlen] at hform
      subst hform
      have hown := HOW.out
      rw [List.take_of_length_le (by rw [HPL.out]; exact Nat.le_refl _)] at hown
      have HCP := Lib.hid hown.cap
      have HK := Lib.hid (hown.nums_at (fun v hx => byte_wf (HPB.out v hx))).1
      have HBW := Lib.hid (HB3.out.trans (HBE.out.mono HB3.out.size))
      have H4' := Lib.hid ((H4.out.below HBE.out).mono HBE.out.size)
      clear hown hlen HOW HBE HB3 HIN HPG H4
      go_wp2_with fail
      refine (apart_any A1 A0 n1 c1 n1 c0 w.heap.size b a _ (HP.out.below HBW.out) (HO.out.below HBW.out) HBW.out.size (by omega) (by omega)).mono ?_
      intro e w5 hg
      rw [HCOM.out] at hg
      obtain ⟨B6, d6, rfl, hm, hb⟩ := hg.nums H4'.out.2.1
      rw [HM.out] at hm ⊢
      have H6 := Lib.hid hm
      have HB5 := Lib.hid (HBW.out.trans (hb.mono HBW.out.size))
      have H4 := Lib.hid ((H4'.out.below hb).mono hb.size)
      have HK2 := Lib.hid ((HK.out.below hb).mono hb.size)
      clear hg hm hb HBW H4' HK
      go_wp2_with fail
      refine (range_any A0 A1 n1 c0 n1 c1 w.heap.size 0 n1 a b w5 (HO.out.below HB5.out) (HP.out.below HB5.out) HB5.out.size (by omega) (by omega) HC.out.1 HC.out.2).mono ?_
      intro e w6 hg
      have hrow := cellsL_row a b HAL.out (by rw [HL.out.1]; omega)
      rw [HL.out.1] at hrow
      rw [hrow] at hg
      clear hrow
      obtain ⟨B7, d7, rfl, hm, hb⟩ := hg.nums HP.out.byte
      have H7 := Lib.hid hm
      have HB6 := Lib.hid (HB5.out.trans (hb.mono HB5.out.size))
      have H4' := Lib.hid ((H4.out.below hb).mono hb.size)
      have H6' := Lib.hid ((H6.out.below hb).mono hb.size)
      have HK := Lib.hid ((HK2.out.below hb).mono hb.size)
      clear hg hm hb HB5 H4 H6 HK2
      go_wp2_with fail
      refine (same_refl B7 A1 n1 d7 c1 w6.heap.size _ w6 (by unfold maxLen; omega) H7.out ((HP.out.below HB6.out).mono HB6.out.size) (Nat.le_refl _)).mono ?_
      rintro e w7 ⟨rfl, hb⟩
      have HB7 := Lib.hid (HB6.out.trans (hb.mono HB6.out.size))
      have H4 := Lib.hid ((H4'.out.below hb).mono hb.size)
      have H6 := Lib.hid ((H6'.out.below hb).mono hb.size)
      have HK2 := Lib.hid ((HK.out.below hb).mono hb.size)
      clear hb HB6 H4' H6' HK H7
      go_wp2_with fail
      refine (cells_any A0 B4 AP n1 c0 k d4 k cP w7.heap.size a L PK w7 ((HO.out.below HB7.out).mono HB7.out.size) H4.out HK2.out (Nat.le_refl _) (by omega) (by unfold maxLen; omega) HCP.out.1 HCP.out.2).mono ?_
      intro e w8 hg
      rw [HEND.out] at hg
      obtain ⟨B8, d8, rfl, hm, hb⟩ := hg.nums HP.out.byte
      have H8 := Lib.hid hm
      have HB8 := Lib.hid (HB7.out.trans (hb.mono HB7.out.size))
      have H4' := Lib.hid ((H4.out.below hb).mono hb.size)
      have H6' := Lib.hid ((H6.out.below hb).mono hb.size)
      clear hg hm hb HB7 H4 H6 HK2
      go_wp2_with fail
      refine (same_refl B8 A1 n1 d8 c1 w8.heap.size _ w8 (by unfold maxLen; omega) H8.out ((HP.out.below HB8.out).mono HB8.out.size) (Nat.le_refl _)).mono ?_
      rintro e w9 ⟨rfl, hb⟩
      have HB9 := Lib.hid (HB8.out.trans (hb.mono HB8.out.size))
      have H4 := Lib.hid ((H4'.out.below hb).mono hb.size)
      have H6 := Lib.hid ((H6'.out.below hb).mono hb.size)
      clear hb HB8 H4' H6' H8
      go_wp2_with fail
      refine (ints_refl B4 B6 k d4 d6 w9.heap.size _ w9 (by unfold maxLen; omega) H4.out H6.out (Nat.le_refl _)).mono ?_
      rintro e w10 ⟨rfl, hb⟩
      have HB10 := Lib.hid (HB9.out.trans (hb.mono HB9.out.size))
      clear hb HB9 H4 H6
      go_wp2_with fail
      go_ret
      exact ⟨rfl, HB10.out⟩
end Go.Proofs.Ytldnbjenklbepaa
