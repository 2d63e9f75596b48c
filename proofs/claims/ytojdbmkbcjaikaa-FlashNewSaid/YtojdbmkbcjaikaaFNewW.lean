/-
  THE WALK OF FlashNew.
-/
import Derived.Test.YtojdbmkbcjaikaaFAwake
import Derived.Test.YtojdbmkbcjaikaaBSame
namespace Go.Proofs.Ytojdbmkbcjaikaa
open Go.RowKit
set_option maxRecDepth 20000

theorem eql_wait0 (w : World) : (binOp .eql 39 (.agg #[.int .i64 0, .int .i64 0, .int .i64 0, .int .u8 0]) (.agg #[.int .i64 0, .int .i64 0, .int .i64 0, .int .u8 0])).run Try.prog w = .ok (.bool true) w := by kernel_rfl
set_option maxRecDepth 100000 in
set_option maxHeartbeats 4000000 in
theorem flashNew_walk (w : World) (k : Int) (_ : (Lit.int .i64 k).wf = true) (A : Option Addr) (n c : Nat) (z : List Int) (r : IsRow .u8 w A n c z) :
    Calls Try.prog 4 #[.int .i64 k, .slice A n c] w fun e w' => e = .returned (.bool true) ∧ Below w.heap.size w w' := by
  have HN := Lib.hid r.nums
  have hm := r.len_le.2
  unfold maxLen at hm
  clear r
  obtain ⟨l, hl⟩ : ∃ l, z.take n = l := ⟨_, rfl⟩
  rw [hl] at HN
  clear hl
  by_cases hb : n ≤ 1050
  · have hb' : decide (1050 < (n : Int)) = false := decide_eq_false (by omega)
    by_cases hlo : k < 1
    · have HNO := Lib.hid (show flashOf k = 0 ∨ (n : Int) ≠ flashOf k from .inl (by unfold flashOf; split <;> omega))
      go_enter Try.func4, Try.ntmps4
      go_wp2_with fail
      refine (awake_any w).mono ?_
      rintro e w1 ⟨rfl, hb⟩
      have HB1 := Lib.hid hb
      clear hb
      go_wp2_with fail
      refine (newChip_no k A n c w1 HNO.out).mono ?_
      rintro e w2 ⟨rfl, rfl⟩
      go_wp2_with fail
      go_ret
      exact ⟨rfl, HB1.out⟩
    · by_cases hhi : 64 < k
      · have HNO := Lib.hid (show flashOf k = 0 ∨ (n : Int) ≠ flashOf k from .inl (by unfold flashOf; split <;> omega))
        go_enter Try.func4, Try.ntmps4
        go_wp2_with fail
        refine (awake_any w).mono ?_
        rintro e w1 ⟨rfl, hb⟩
        have HB1 := Lib.hid hb
        clear hb
        go_wp2_with fail
        refine (newChip_no k A n c w1 HNO.out).mono ?_
        rintro e w2 ⟨rfl, rfl⟩
        go_wp2_with fail
        go_ret
        exact ⟨rfl, HB1.out⟩
      · have hhi' : decide (64 < k) = false := decide_eq_false hhi
        have hlo' : decide (k < 1) = false := decide_eq_false hlo
        obtain ⟨f, hf⟩ : ∃ f, flashOf k = f := ⟨_, rfl⟩
        have HF := Lib.hid hf
        by_cases hne : (n : Int) = f
        · obtain ⟨k, rfl⟩ := Int.eq_ofNat_of_zero_le (show 0 ≤ k by omega)
          have HNK := Lib.hid (show n = 256 * k by unfold flashOf at hf; rw [if_pos (by omega)] at hf; omega)
          have HK := Lib.hid (show 1 ≤ k ∧ k ≤ 64 by omega)
          have hne' : ((n : Int) != f) = false := by simp [hne]
          have HO := Lib.hid (show (fresh l).Ok from fresh_ok HK.out.1 HK.out.2 (HN.out.1.trans HNK.out) HN.out.byte)
          have HL := Lib.hid HN.out.1
          have hw := eql_wait0
          clear hf hne hlo hhi
          go_enter Try.func4, Try.ntmps4
          go_wp2_with fail
          refine (awake_any w).mono ?_
          rintro e w1 ⟨rfl, hb⟩
          have HB1 := Lib.hid hb
          clear hb
          go_wp2_with fail
          refine (newChip_ok k A n c w.heap.size l w1 (HN.out.below HB1.out) HB1.out.size HK.out HNK.out).mono ?_
          rintro e w2 ⟨v, rfl, p, d, cap, rfl, hc, hp, hd, hb⟩
          have HC := Lib.hid hc
          have HB2 := Lib.hid (HB1.out.trans (hb.mono HB1.out.size))
          clear hb hc hp hd
          go_wp2_with fail
          refine (refFlash_any k w2).mono ?_
          rintro e w3 ⟨rfl, rfl⟩
          rw [HF.out]
          go_wp2_with fail
          refine (bytes_any w2 p d cap _ HC.out HO.out).mono ?_
          rintro e w3 ⟨v, rfl, hv, hb⟩
          obtain ⟨A6, c6, rfl, _, hn6⟩ := hv.nums fun x hx => byte_wf (HO.out.byte x hx)
          have HN6 := Lib.hid (show Nums .u8 w3 w3.heap.size A6 n l from by rw [← HL.out]; exact hn6)
          have HB3 := Lib.hid (HB2.out.trans (hb.mono HB2.out.size))
          have HC3 := Lib.hid (HC.out.below hb)
          rw [show (fresh l).data.length = n from HL.out]
          clear hb hv hn6
          go_wp2_with fail
          refine (same_refl A6 A n c6 c w3.heap.size l w3 (by unfold maxLen; omega) HN6.out ((HN.out.below HB3.out).mono HB3.out.size) (Nat.le_refl _)).mono ?_
          rintro e w4 ⟨rfl, hb⟩
          have HB4 := Lib.hid (HB3.out.trans (hb.mono HB3.out.size))
          have HC4 := Lib.hid (HC3.out.below hb)
          clear hb
          go_wp2_with fail
          refine (left_any w4 p d cap _ HC4.out).mono ?_
          rintro e w5 ⟨rfl, rfl⟩
          rw [show (fresh l).left = 0 from rfl]
          go_wp2_with fail
          refine (waits_any w4 p d cap _ HC4.out).mono ?_
          rintro e w5 ⟨rfl, hb⟩
          have HB5 := Lib.hid (HB4.out.trans (hb.mono HB4.out.size))
          clear hb
          rw [show (fresh l).waits = .agg #[.int .i64 0, .int .i64 0, .int .i64 0, .int .u8 0] from rfl]
          go_wp2_with fail
          go_ret
          exact ⟨rfl, HB5.out⟩
        · have HNO := Lib.hid (show flashOf k = 0 ∨ (n : Int) ≠ flashOf k from .inr (by rw [hf]; exact hne))
          have hne' : ((n : Int) != f) = true := by simp [hne]
          clear hf hne
          go_enter Try.func4, Try.ntmps4
          go_wp2_with fail
          refine (awake_any w).mono ?_
          rintro e w1 ⟨rfl, hb⟩
          have HB1 := Lib.hid hb
          clear hb
          go_wp2_with fail
          refine (newChip_no k A n c w1 HNO.out).mono ?_
          rintro e w2 ⟨rfl, rfl⟩
          go_wp2_with fail
          refine (refFlash_any k w1).mono ?_
          rintro e w3 ⟨rfl, rfl⟩
          rw [HF.out]
          go_wp2_with fail
          go_ret
          exact ⟨rfl, HB1.out⟩
  · have hb' : decide (1050 < (n : Int)) = true := decide_eq_true (by omega)
    go_enter Try.func4, Try.ntmps4
    go_wp2_with fail
    refine (awake_any w).mono ?_
    rintro e w1 ⟨rfl, hb⟩
    have HB1 := Lib.hid hb
    clear hb
    go_wp2_with fail
    go_ret
    exact ⟨rfl, HB1.out⟩
end Go.Proofs.Ytojdbmkbcjaikaa
