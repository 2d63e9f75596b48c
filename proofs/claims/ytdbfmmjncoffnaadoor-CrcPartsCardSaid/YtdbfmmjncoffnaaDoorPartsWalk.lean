/-
  THE WALK OF CrcParts.
-/
import Derived.Test.YtdbfmmjncoffnaaDoorRowsAt
namespace Go.Proofs.YtdbfmmjncoffnaaDoor
open Ks Go.RowKit

theorem wf_u8 {v : Int} (h : (Lit.int .u8 v).wf = true) : 0 ≤ v ∧ v ≤ 255 := by
  simpa [Lit.wf, IntKind.min, IntKind.max, IntKind.signed, IntKind.bits] using h

theorem bytes_take {w : World} {B n : Nat} {A : Option Addr} {l : List Int} (h : Bytes w B A n l) (k : Nat) (hk : k ≤ n) : Bytes w B A k (l.take k) := by
  obtain ⟨h1, h2, h3⟩ := h
  refine ⟨by simp; omega, fun v hv => h2 v (List.mem_of_mem_take hv), fun hk0 => ?_⟩
  obtain ⟨b, o, e, hB, hc⟩ := h3 (by omega)
  refine ⟨b, o, e, hB, fun j hj => ?_⟩
  rw [hc j (by omega)]
  simp [List.getD, hj]
theorem bytes_drop {w : World} {B n : Nat} {b o : Nat} {l : List Int} (h : Bytes w B (some ⟨b, o, none⟩) n l) (k : Nat) (hk : k ≤ n) : Bytes w B (some ⟨b, o + k, none⟩) (n - k) (l.drop k) := by
  obtain ⟨h1, h2, h3⟩ := h
  refine ⟨by simp; omega, fun v hv => h2 v (List.mem_of_mem_drop hv), fun hk0 => ?_⟩
  obtain ⟨b', o', e, hB, hc⟩ := h3 (by omega)
  cases e
  refine ⟨b, o + k, rfl, hB, fun j hj => ?_⟩
  rw [Nat.add_assoc, hc (k + j) (by omega)]
  simp [List.getD, List.getElem?_drop]
theorem bytes_nil (w : World) (B : Nat) (A : Option Addr) : Bytes w B A 0 [] := ⟨rfl, by simp, fun h => absurd h (by omega)⟩

theorem crcParts_walk (w : World) (A : Option Addr) (n c : Nat) (z : List Int) (hr : IsRow .u8 w A n c z) (a : Int) (wa : (Lit.int .u8 a).wf = true) (hT : Tab w) :
    Calls Tryd.prog 4 #[.slice A n c, .int .u8 a] w fun e w' => e = .returned (.bool true) ∧ Below w.heap.size w w' := by
  obtain ⟨ha0, ha1⟩ := wf_u8 wa
  obtain ⟨hnc, hnm⟩ := hr.len_le
  have HN := Lib.hid hnm
  have HT := Lib.hid hT
  have HR := Lib.hid hr
  clear hT wa hr hnm
  by_cases h200 : (200 : Int) < (n : Int)
  · go_enter Tryd.func4, Tryd.ntmps4
    go_wp2_with fail
    refine (awake_any _ HT.out).mono ?_
    rintro e w1 ⟨rfl, hw1⟩
    have HW1 := Lib.hid hw1
    clear hw1
    go_wp2_with fail
    go_ret
    exact ⟨rfl, HW1.out⟩
  · obtain ⟨k, hk, hkn⟩ : ∃ k : Nat, a % ((n : Int) + 1) = (k : Int) ∧ k ≤ n := by
      have h0 := Int.emod_nonneg a (show (n : Int) + 1 ≠ 0 by omega)
      have h1 := Int.emod_lt_of_pos a (show 0 < (n : Int) + 1 by omega)
      exact ⟨(a % ((n : Int) + 1)).toNat, by omega, by omega⟩
    have HK := Lib.hid hk
    clear hk
    have hk0 : (0 : Int) ≤ (k : Int) := by omega
    have hk1 : (k : Int) ≤ (n : Int) := by omega
    go_enter Tryd.func4, Tryd.ntmps4
    go_wp2_with fail
    refine (awake_any _ HT.out).mono ?_
    rintro e w1 ⟨rfl, hw1⟩
    have HT1 := Lib.hid (tab_below HT.out hw1 (tab_pos HT.out))
    have HY := Lib.hid (bytes_below HR.out.bytes hw1)
    have HW1 := Lib.hid hw1
    clear hw1
    obtain ⟨l, hl⟩ : ∃ l, z.take n = l := ⟨_, rfl⟩
    rw [hl] at HY
    have HR0 := Lib.hid (show 0 < c → ∃ b o, A = some ⟨b, o, none⟩ from fun hc0 => by
      rcases HR.out with ⟨_, _, h, _⟩ | ⟨x, rfl, _, _, h3, h4, _⟩
      · omega
      · obtain ⟨b, o, rfl, _⟩ := ints_at h4 (by omega)
        exact ⟨b, o, rfl⟩)
    clear hl HR
    obtain ⟨S, hS⟩ : ∃ S, more 0#32 (l.map Bv) = S := ⟨_, rfl⟩
    obtain ⟨S1, hS1⟩ : ∃ S, more 0#32 ((l.take k).map Bv) = S := ⟨_, rfl⟩
    obtain ⟨S2, hS2⟩ : ∃ S, more 0#32 ((l.drop k).map Bv) = S := ⟨_, rfl⟩
    have hS3 : more S1 ((l.drop k).map Bv) = S := by rw [← hS1, more_append, ← List.map_append, List.take_append_drop, hS]
    have hS4 : join S1 S2 (n - k) = S := by
      have := join_sum S1 ((l.drop k).map Bv)
      rw [hS2, hS3] at this
      have e : ((l.drop k).map Bv).length = n - k := by simp [HY.out.1]
      rwa [e] at this
    have HS := Lib.hid hS
    have HS1 := Lib.hid hS1
    have HS2 := Lib.hid hS2
    have HS3 := Lib.hid hS3
    have HS4 := Lib.hid hS4
    clear hS hS1 hS2 hS3 hS4
    go_wp2_with fail
    rw [HK.out]
    refine (sum_any A n c _ _ _ HT1.out HN.out HY.out).mono ?_
    rintro e w' ⟨rfl, rfl⟩
    rw [HS.out]
    go_wp2_with fail
    have HY1 := Lib.hid (bytes_take (bytes_below HY.out (Below.refl _ w1)) k hkn)
    have hyy : Bytes w1 w1.heap.size A n l := ⟨HY.out.1, HY.out.2.1, fun h => by
      obtain ⟨b, o, e, hB, hc⟩ := HY.out.2.2 h
      exact ⟨b, o, e, Nat.lt_of_lt_of_le hB HW1.out.size, hc⟩⟩
    have HY1 := Lib.hid (bytes_take hyy k hkn)
    by_cases hck : c = k
    · obtain rfl : n = k := by omega
      obtain rfl : c = n := hck
      have HY2 := Lib.hid (show Bytes w1 w1.heap.size A 0 (l.drop c) by
        rw [List.drop_of_length_le (by have := hyy.1; omega)]; exact bytes_nil _ _ _)
      clear hyy HY
      refine wp_region_quiet_below (by kernel_rfl) (by kernel_rfl) ?_
      iterate 5 go_big_quiet_step (fail)
      go_big_quiet_step ((refine sum_in w1 _ _ _ _ (l.take c) (U S1) (by rw [HS1.out]) HT1.out (Nat.le_trans hkn HN.out) HY1.out))
      iterate 3 go_big_quiet_step (fail)
      go_big_quiet_step ((refine more_in w1 _ (U S1) (U S) _ _ _ (l.drop c) ⟨U_ge _, U_lt _⟩ (by rw [Bv_U, HS3.out]) HT1.out (Nat.zero_le _) HY2.out))
      iterate 7 go_big_quiet_step (fail)
      go_big_quiet_step ((refine sum_in w1 _ _ _ _ (l.take c) (U S1) (by rw [HS1.out]) HT1.out (Nat.le_trans hkn HN.out) HY1.out))
      iterate 3 go_big_quiet_step (fail)
      go_big_quiet_step ((refine sum_in w1 _ _ _ _ (l.drop c) (U S2) (by rw [HS2.out]) HT1.out (Nat.zero_le _) HY2.out))
      iterate 4 go_big_quiet_step (fail)
      go_big_quiet_step ((refine join_in w1 _ (U S1) (U S2) _ (U S) ⟨U_ge _, U_lt _⟩ ⟨U_ge _, U_lt _⟩ (by omega) (by omega) (by rw [Bv_U, Bv_U, show (0 : Int).toNat = c - c by omega, HS4.out])))
      iterate 5 go_big_quiet_step (fail)
      go_big_quiet_step ((refine more_in w1 _ (U S) (U S) _ _ _ [] ⟨U_ge _, U_lt _⟩ (by rw [Bv_U, List.map_nil, more_nil]) HT1.out (by unfold maxLen; omega) (bytes_nil _ _ _)))
      iterate 4 go_big_quiet_step (fail)
      go_big_quiet_step ((refine sum_in w1 _ _ _ _ [] 0 (by rw [List.map_nil, more_nil]; rfl) HT1.out (by unfold maxLen; omega) (bytes_nil _ _ _)))
      repeat (go_big_quiet_step (fail))
      refine wpQuiet_nil ?_
      rintro w' ⟨q, rfl⟩
      have HQ := Lib.hid (HW1.out.trans ((in_below w1 q).mono HW1.out.size))
      go_wp2_with fail
      go_ret
      exact ⟨rfl, HQ.out⟩
    · obtain ⟨b, o, rfl⟩ := HR0.out (by omega)
      have HY2 := Lib.hid (bytes_drop hyy k hkn)
      clear hyy HY
      refine wp_region_quiet_below (by kernel_rfl) (by kernel_rfl) ?_
      iterate 5 go_big_quiet_step (fail)
      go_big_quiet_step ((refine sum_in w1 _ _ _ _ (l.take k) (U S1) (by rw [HS1.out]) HT1.out (Nat.le_trans hkn HN.out) HY1.out))
      iterate 3 go_big_quiet_step (fail)
      go_big_quiet_step ((refine more_in w1 _ (U S1) (U S) _ _ _ (l.drop k) ⟨U_ge _, U_lt _⟩ (by rw [Bv_U, HS3.out]) HT1.out (Nat.le_trans (Nat.sub_le _ _) HN.out) HY2.out))
      iterate 7 go_big_quiet_step (fail)
      go_big_quiet_step ((refine sum_in w1 _ _ _ _ (l.take k) (U S1) (by rw [HS1.out]) HT1.out (Nat.le_trans hkn HN.out) HY1.out))
      iterate 3 go_big_quiet_step (fail)
      go_big_quiet_step ((refine sum_in w1 _ _ _ _ (l.drop k) (U S2) (by rw [HS2.out]) HT1.out (Nat.le_trans (Nat.sub_le _ _) HN.out) HY2.out))
      iterate 4 go_big_quiet_step (fail)
      go_big_quiet_step ((refine join_in w1 _ (U S1) (U S2) _ (U S) ⟨U_ge _, U_lt _⟩ ⟨U_ge _, U_lt _⟩ (by omega) (by omega) (by rw [Bv_U, Bv_U, show ((n : Int) - (k : Int)).toNat = n - k by omega, HS4.out])))
      iterate 5 go_big_quiet_step (fail)
      go_big_quiet_step ((refine more_in w1 _ (U S) (U S) _ _ _ [] ⟨U_ge _, U_lt _⟩ (by rw [Bv_U, List.map_nil, more_nil]) HT1.out (by unfold maxLen; omega) (bytes_nil _ _ _)))
      iterate 4 go_big_quiet_step (fail)
      go_big_quiet_step ((refine sum_in w1 _ _ _ _ [] 0 (by rw [List.map_nil, more_nil]; rfl) HT1.out (by unfold maxLen; omega) (bytes_nil _ _ _)))
      repeat (go_big_quiet_step (fail))
      refine wpQuiet_nil ?_
      rintro w' ⟨q, rfl⟩
      have HQ := Lib.hid (HW1.out.trans ((in_below w1 q).mono HW1.out.size))
      go_wp2_with fail
      go_ret
      exact ⟨rfl, HQ.out⟩
end Go.Proofs.YtdbfmmjncoffnaaDoor
