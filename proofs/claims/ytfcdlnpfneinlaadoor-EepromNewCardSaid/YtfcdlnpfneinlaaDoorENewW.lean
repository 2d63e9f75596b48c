/-
  THE WALK OF EepromNew.
-/
import Derived.Test.YtfcdlnpfneinlaaDoorEAwake
import Derived.Test.YtfcdlnpfneinlaaDoorBSame
namespace Go.Proofs.YtfcdlnpfneinlaaDoor
open Go.RowKit
set_option maxRecDepth 20000

theorem kind_of {k : Int} (h : gcol k 0 ≠ 0) : 1 ≤ k ∧ k ≤ 10 := by
  unfold gcol at h
  split at h
  · rename_i hk
    refine ⟨?_, hk.2⟩
    by_cases h0 : k = 0
    · subst h0; exact absurd rfl h
    · omega
  · exact absurd rfl h
set_option maxRecDepth 100000 in
set_option maxHeartbeats 4000000 in
theorem eepromNew_walk (w : World) (k : Int) (_ : (Lit.int .i64 k).wf = true) (A1 : Option Addr) (n1 c1 : Nat) (z1 : List Int) (r1 : IsRow .u8 w A1 n1 c1 z1) (A2 : Option Addr) (n2 c2 : Nat) (z2 : List Int) (r2 : IsRow .u8 w A2 n2 c2 z2) (hT : Tab w) :
    Calls Tryd.prog 4 #[.int .i64 k, .slice A1 n1 c1, .slice A2 n2 c2] w fun e w' => e = .returned (.bool true) ∧ Below w.heap.size w w' := by
  have HT := Lib.hid hT
  have HN1 := Lib.hid r1.nums
  have HN2 := Lib.hid r2.nums
  have HC2 := Lib.hid (And.intro r2.len_le.1 r2.cap_le)
  have hm1 := r1.len_le.2
  have hm2 := r2.len_le.2
  unfold maxLen at hm1 hm2
  clear hT r1 r2
  obtain ⟨l1, hl1⟩ : ∃ l, z1.take n1 = l := ⟨_, rfl⟩
  obtain ⟨l2, hl2⟩ : ∃ l, z2.take n2 = l := ⟨_, rfl⟩
  rw [hl1] at HN1
  rw [hl2] at HN2
  clear hl1 hl2
  by_cases hb1 : n1 ≤ 2000
  · have hb1' : decide (2000 < (n1 : Int)) = false := decide_eq_false (by omega)
    by_cases hb2 : n2 ≤ 50
    · have hb2' : decide (50 < (n2 : Int)) = false := decide_eq_false (by omega)
      obtain ⟨z, hz⟩ : ∃ z, gcol k 0 = z := ⟨_, rfl⟩
      have HZ := Lib.hid hz
      by_cases hno : z = 0 ∨ (n1 : Int) ≠ z
      · have HNO := Lib.hid (show gcol k 0 = 0 ∨ (n1 : Int) ≠ gcol k 0 by rw [hz]; exact hno)
        by_cases h0 : z = 0
        · have h0' : (z == 0) = true := by simp [h0]
          clear hno hz h0
          go_enter Tryd.func4, Tryd.ntmps4
          go_wp2_with fail
          refine (awake_any w HT.out).mono ?_
          rintro e w1 ⟨rfl, hb⟩
          have HB1 := Lib.hid hb
          have HT1 := Lib.hid (tab_below HT.out hb (tab_pos HT.out))
          clear hb
          go_wp2_with fail
          refine (newChip_no k A1 n1 c1 w1 HT1.out HNO.out).mono ?_
          rintro e w2 ⟨rfl, hb⟩
          have HB2 := Lib.hid (HB1.out.trans (hb.mono HB1.out.size))
          have HT2 := Lib.hid (tab_below HT1.out hb (tab_pos HT1.out))
          clear hb
          go_wp2_with fail
          refine (refEeprom_any k z w2 w2 (On.start HT2.out) HZ.out).mono ?_
          rintro e w3 ⟨rfl, hb⟩
          have HB3 := Lib.hid (HB2.out.trans (hb.bel.mono HB2.out.size))
          clear hb
          go_wp2_with fail
          go_ret
          exact ⟨rfl, HB3.out⟩
        · have h0' : (z == 0) = false := by simp [h0]
          have h1' : ((n1 : Int) != z) = true := by
            rcases hno with h | h
            · exact absurd h h0
            · simp [h]
          clear hno hz h0
          go_enter Tryd.func4, Tryd.ntmps4
          go_wp2_with fail
          refine (awake_any w HT.out).mono ?_
          rintro e w1 ⟨rfl, hb⟩
          have HB1 := Lib.hid hb
          have HT1 := Lib.hid (tab_below HT.out hb (tab_pos HT.out))
          clear hb
          go_wp2_with fail
          refine (newChip_no k A1 n1 c1 w1 HT1.out HNO.out).mono ?_
          rintro e w2 ⟨rfl, hb⟩
          have HB2 := Lib.hid (HB1.out.trans (hb.mono HB1.out.size))
          have HT2 := Lib.hid (tab_below HT1.out hb (tab_pos HT1.out))
          clear hb
          go_wp2_with fail
          refine (refEeprom_any k z w2 w2 (On.start HT2.out) HZ.out).mono ?_
          rintro e w3 ⟨rfl, hb⟩
          have HB3 := Lib.hid (HB2.out.trans (hb.bel.mono HB2.out.size))
          have HT3 := Lib.hid hb.tab
          clear hb
          go_wp2_with fail
          refine (refEeprom_any k z w3 w3 (On.start HT3.out) HZ.out).mono ?_
          rintro e w4 ⟨rfl, hb⟩
          have HB4 := Lib.hid (HB3.out.trans (hb.bel.mono HB3.out.size))
          clear hb
          go_wp2_with fail
          go_ret
          exact ⟨rfl, HB4.out⟩
      · have hz0 : z ≠ 0 := fun h => hno (.inl h)
        have hnz : (n1 : Int) = z := Decidable.byContradiction fun h => hno (.inr h)
        have HK := Lib.hid (kind_of (k := k) (by rw [hz]; exact hz0))
        have h0' : (z == 0) = false := by simp [hz0]
        have h1' : ((n1 : Int) != z) = false := by simp [hnz]
        have HNZ := Lib.hid (show (n1 : Int) = gcol k 0 by rw [hz]; exact hnz)
        have HO := Lib.hid (show Chip.Ok 0 (fresh k l1) from fresh_ok k l1 HK.out (by rw [HN1.out.1]; exact HNZ.out) HN1.out.byte)
        have HPL := Lib.hid (show (fresh k l1).places = [] from keysL_nil _)
        have HL1 := Lib.hid (show l1.length = n1 from HN1.out.1)
        clear hno hz hz0 hnz
        go_enter Tryd.func4, Tryd.ntmps4
        go_wp2_with fail
        refine (awake_any w HT.out).mono ?_
        rintro e w1 ⟨rfl, hb⟩
        have HB1 := Lib.hid hb
        have HT1 := Lib.hid (tab_below HT.out hb (tab_pos HT.out))
        clear hb
        go_wp2_with fail
        refine (newChip_ok k A1 n1 c1 w.heap.size l1 w1 HT1.out (HN1.out.below HB1.out) HB1.out.size HK.out HNZ.out).mono ?_
        rintro e w2 ⟨p, rfl, hc, hb⟩
        have HC2' := Lib.hid hc
        have HB2 := Lib.hid (HB1.out.trans (hb.mono HB1.out.size))
        clear hb hc
        go_wp2_with fail
        refine (refEeprom_any k z w2 w2 (On.start HC2'.out.tab) HZ.out).mono ?_
        rintro e w3 ⟨rfl, hb⟩
        have HB3 := Lib.hid (HB2.out.trans (hb.bel.mono HB2.out.size))
        have HC3 := Lib.hid (HC2'.out.below hb.bel)
        clear hb
        go_wp2_with fail
        refine (refEeprom_any k z w3 w3 (On.start HC3.out.tab) HZ.out).mono ?_
        rintro e w4 ⟨rfl, hb⟩
        have HB4 := Lib.hid (HB3.out.trans (hb.bel.mono HB3.out.size))
        have HC4 := Lib.hid (HC3.out.below hb.bel)
        clear hb
        go_wp2_with fail
        refine (waits_any w4 p _ _ 0 HC4.out HO.out (by omega)).mono ?_
        rintro e w5 ⟨u, v, rfl, hu, hv, hb⟩
        rw [HPL.out] at hu
        obtain ⟨Au, cu, rfl⟩ := hu.form
        have HB5 := Lib.hid (HB4.out.trans (hb.mono HB4.out.size))
        have HC5 := Lib.hid (HC4.out.below hb)
        rw [show ([] : List Int).length = 0 from rfl]
        clear hb hu hv
        go_wp2_with fail
        refine (bytes_any w5 p _ _ 0 HC5.out HO.out).mono ?_
        rintro e w6 ⟨v6, rfl, hv, hb⟩
        obtain ⟨A6, c6, rfl, _, hn6⟩ := hv.nums fun x hx => byte_wf (HO.out.byte x hx)
        have HN6 := Lib.hid (show Nums .u8 w6 w6.heap.size A6 n1 l1 from by rw [← HL1.out]; exact hn6)
        have HB6 := Lib.hid (HB5.out.trans (hb.mono HB5.out.size))
        have HC6 := Lib.hid (HC5.out.below hb)
        rw [show (fresh k l1).data.length = n1 from HL1.out]
        clear hb hv hn6
        go_wp2_with fail
        refine (same_refl A6 A1 n1 c6 c1 w6.heap.size l1 w6 (by unfold maxLen; omega) HN6.out ((HN1.out.below HB6.out).mono HB6.out.size) (Nat.le_refl _)).mono ?_
        rintro e w7 ⟨rfl, hb⟩
        have HB7 := Lib.hid (HB6.out.trans (hb.mono HB6.out.size))
        have HC7 := Lib.hid (HC6.out.below hb)
        clear hb
        go_wp2_with fail
        refine (left_any w7 p _ _ HC7.out).mono ?_
        rintro e w8 ⟨rfl, rfl⟩
        rw [show (fresh k l1).left = 0 from rfl]
        go_wp2_with fail
        refine (pointer_any w7 p _ _ HC7.out).mono ?_
        rintro e w8 ⟨rfl, rfl⟩
        rw [show (fresh k l1).pointer = 0 from rfl]
        go_wp2_with fail
        refine (cut_any w7 p _ _ 0 A2 n2 c2 w.heap.size l2 HC7.out HO.out (by omega) (HN2.out.below HB7.out) HB7.out.size HC2.out.1 HC2.out.2).mono ?_
        rintro e w8 ⟨A8, c8, rfl, hcc, hm, hb⟩
        rw [HPL.out, show cellsL (fresh k l1).data [] l2 = l1 by simp [cellsL, fresh]] at hm
        have HN8 := Lib.hid (show Nums .u8 w8 w8.heap.size A8 n1 l1 from by rw [← HL1.out]; exact hm.nums fun x hx => byte_wf (HO.out.byte x hx))
        have HB8 := Lib.hid (HB7.out.trans (hb.mono HB7.out.size))
        rw [show (fresh k l1).data.length = n1 from HL1.out]
        clear hb hm hcc
        go_wp2_with fail
        refine (same_refl A8 A1 n1 c8 c1 w8.heap.size l1 w8 (by unfold maxLen; omega) HN8.out ((HN1.out.below HB8.out).mono HB8.out.size) (Nat.le_refl _)).mono ?_
        rintro e w9 ⟨rfl, hb⟩
        have HB9 := Lib.hid (HB8.out.trans (hb.mono HB8.out.size))
        clear hb
        go_wp2_with fail
        go_ret
        exact ⟨rfl, HB9.out⟩
    · have hb2' : decide (50 < (n2 : Int)) = true := decide_eq_true (by omega)
      go_enter Tryd.func4, Tryd.ntmps4
      go_wp2_with fail
      refine (awake_any w HT.out).mono ?_
      rintro e w1 ⟨rfl, hb⟩
      have HB1 := Lib.hid hb
      clear hb
      go_wp2_with fail
      go_ret
      exact ⟨rfl, HB1.out⟩
  · have hb1' : decide (2000 < (n1 : Int)) = true := decide_eq_true (by omega)
    go_enter Tryd.func4, Tryd.ntmps4
    go_wp2_with fail
    refine (awake_any w HT.out).mono ?_
    rintro e w1 ⟨rfl, hb⟩
    have HB1 := Lib.hid hb
    clear hb
    go_wp2_with fail
    go_ret
    exact ⟨rfl, HB1.out⟩
end Go.Proofs.YtfcdlnpfneinlaaDoor
