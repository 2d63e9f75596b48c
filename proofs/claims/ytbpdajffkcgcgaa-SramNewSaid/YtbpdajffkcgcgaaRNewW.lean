/-
  THE WALK OF SramNew.
-/
import Derived.Test.YtbpdajffkcgcgaaRAwake
import Derived.Test.YtbpdajffkcgcgaaBSame
namespace Go.Proofs.Ytbpdajffkcgcgaa
open Go.RowKit
set_option maxRecDepth 20000

set_option maxRecDepth 100000 in
set_option maxHeartbeats 4000000 in
theorem sramNew_walk (w : World) (k : Int) (_ : (Lit.int .i64 k).wf = true) (A : Option Addr) (n c : Nat) (z : List Int) (r : IsRow .u8 w A n c z) :
    Calls Try.prog 4 #[.int .i64 k, .slice A n c] w fun e w' => e = .returned (.bool true) ∧ Below w.heap.size w w' := by
  have HN := Lib.hid r.nums
  have hm := r.len_le.2
  unfold maxLen at hm
  clear r
  obtain ⟨l, hl⟩ : ∃ l, z.take n = l := ⟨_, rfl⟩
  rw [hl] at HN
  clear hl
  by_cases hb : n ≤ 300
  · have hb' : decide (300 < (n : Int)) = false := decide_eq_false (by omega)
    by_cases hlo : k < 1
    · have HNO := Lib.hid (show sramOf k = 0 ∨ (n : Int) ≠ sramOf k from .inl (by unfold sramOf; split <;> omega))
      go_enter Try.func4, Try.ntmps4
      go_wp2_with fail
      refine (awake_any w).mono ?_
      rintro e w1 ⟨rfl, hb⟩
      have HB1 := Lib.hid hb
      clear hb
      go_wp2_with fail
      refine (newChip_no k A n c w1 HNO.out).mono ?_
      rintro e w2 ⟨rfl, rfl⟩
      go_wp2_with fail
      go_ret
      exact ⟨rfl, HB1.out⟩
    · by_cases hhi : 128 < k
      · have HNO := Lib.hid (show sramOf k = 0 ∨ (n : Int) ≠ sramOf k from .inl (by unfold sramOf; split <;> omega))
        go_enter Try.func4, Try.ntmps4
        go_wp2_with fail
        refine (awake_any w).mono ?_
        rintro e w1 ⟨rfl, hb⟩
        have HB1 := Lib.hid hb
        clear hb
        go_wp2_with fail
        refine (newChip_no k A n c w1 HNO.out).mono ?_
        rintro e w2 ⟨rfl, rfl⟩
        go_wp2_with fail
        go_ret
        exact ⟨rfl, HB1.out⟩
      · have hhi' : decide (128 < k) = false := decide_eq_false hhi
        have hlo' : decide (k < 1) = false := decide_eq_false hlo
        obtain ⟨f, hf⟩ : ∃ f, sramOf k = f := ⟨_, rfl⟩
        have HF := Lib.hid hf
        by_cases hne : (n : Int) = f
        · obtain ⟨k, rfl⟩ := Int.eq_ofNat_of_zero_le (show 0 ≤ k by omega)
          have HNK := Lib.hid (show n = 64 * k by unfold sramOf at hf; rw [if_pos (by omega)] at hf; omega)
          have HK := Lib.hid (show 1 ≤ k ∧ k ≤ 128 by omega)
          have hne' : ((n : Int) != f) = false := by simp [hne]
          have HO := Lib.hid (show (fresh l).Ok from ⟨by show 1 ≤ l.length ∧ l.length ≤ 8192; have := HN.out.1; have := HNK.out; have := HK.out; omega, HN.out.byte⟩)
          have HL := Lib.hid HN.out.1
          clear hf hne hlo hhi
          go_enter Try.func4, Try.ntmps4
          go_wp2_with fail
          refine (awake_any w).mono ?_
          rintro e w1 ⟨rfl, hb⟩
          have HB1 := Lib.hid hb
          clear hb
          go_wp2_with fail
          refine (newChip_ok k A n c w.heap.size l w1 (HN.out.below HB1.out) HB1.out.size HK.out HNK.out).mono ?_
          rintro e w2 ⟨v, rfl, p, d, cap, rfl, hc, hp, hd, hb⟩
          have HC := Lib.hid hc
          have HB2 := Lib.hid (HB1.out.trans (hb.mono HB1.out.size))
          clear hb hc hp hd
          go_wp2_with fail
          refine (refSram_any k w2).mono ?_
          rintro e w3 ⟨rfl, rfl⟩
          rw [HF.out]
          go_wp2_with fail
          refine (locked_any w2 p d cap _ HC.out).mono ?_
          rintro e w3 ⟨rfl, rfl⟩
          rw [show (fresh l).op = false from rfl]
          go_wp2_with fail
          refine (bytes_new w2 p d cap _ HC.out HO.out).mono ?_
          rintro e w3 ⟨g, c6, rfl, _, _, hv, hb⟩
          have HN6 := Lib.hid (show Nums .u8 w3 w3.heap.size (some ⟨g, 0, none⟩) n l from by rw [← HL.out]; exact (hv.nums_at fun x hx => byte_wf (HO.out.byte x hx)).1)
          have HB3 := Lib.hid (HB2.out.trans (hb.mono HB2.out.size))
          rw [show (fresh l).data.length = n from HL.out]
          clear hb hv
          go_wp2_with fail
          refine (same_refl (some ⟨g, 0, none⟩) A n c6 c w3.heap.size l w3 (by unfold maxLen; omega) HN6.out ((HN.out.below HB3.out).mono HB3.out.size) (Nat.le_refl _)).mono ?_
          rintro e w4 ⟨rfl, hb⟩
          have HB4 := Lib.hid (HB3.out.trans (hb.mono HB3.out.size))
          clear hb
          go_wp2_with fail
          go_ret
          exact ⟨rfl, HB4.out⟩
        · have HNO := Lib.hid (show sramOf k = 0 ∨ (n : Int) ≠ sramOf k from .inr (by rw [hf]; exact hne))
          have hne' : ((n : Int) != f) = true := by simp [hne]
          clear hf hne
          go_enter Try.func4, Try.ntmps4
          go_wp2_with fail
          refine (awake_any w).mono ?_
          rintro e w1 ⟨rfl, hb⟩
          have HB1 := Lib.hid hb
          clear hb
          go_wp2_with fail
          refine (newChip_no k A n c w1 HNO.out).mono ?_
          rintro e w2 ⟨rfl, rfl⟩
          go_wp2_with fail
          refine (refSram_any k w1).mono ?_
          rintro e w3 ⟨rfl, rfl⟩
          rw [HF.out]
          go_wp2_with fail
          go_ret
          exact ⟨rfl, HB1.out⟩
  · have hb' : decide (300 < (n : Int)) = true := decide_eq_true (by omega)
    go_enter Try.func4, Try.ntmps4
    go_wp2_with fail
    refine (awake_any w).mono ?_
    rintro e w1 ⟨rfl, hb⟩
    have HB1 := Lib.hid hb
    clear hb
    go_wp2_with fail
    go_ret
    exact ⟨rfl, HB1.out⟩
end Go.Proofs.Ytbpdajffkcgcgaa
