/-
  THE WALK OF keepsakelaw05.ImageGlues.
-/
import Derived.Test.YtcojpiepbdcohaaDoorLists
import Derived.Test.YtcojpiepbdcohaaDoorNeeds
namespace Go.Proofs.YtcojpiepbdcohaaDoor
open Go.RowKit

theorem glues_long (w : World) (A : Option Addr) (n c : Nat) (hn : 300 < n) (h63 : n ≤ maxLen) (x : Int) (hT : Tab w) :
    Calls Tryd.prog 7 #[.slice A n c, .int .u8 x] w fun e w' => e = .returned (.bool true) ∧ Below w.heap.size w w' := by
  unfold maxLen at h63
  have HT := Lib.hid hT
  clear hT
  go_enter Tryd.func7, Tryd.ntmps7
  go_wp2_with fail
  refine (awake_any w HT.out).mono ?_
  rintro e w1 ⟨rfl, hw1⟩
  have HO := Lib.hid hw1.bel
  clear hw1
  go_wp2_with fail
  go_ret
  exact ⟨rfl, HO.out⟩
theorem glues_walk (w : World) (A : Option Addr) (n c : Nat) (l : List Int) (hl : Bytes w w.heap.size A n l) (hn : n ≤ 300) (x : Nat) (hx : x ≤ 255) (hT : Tab w) :
    Calls Tryd.prog 7 #[.slice A n c, .int .u8 x] w fun e w' => e = .returned (.bool true) ∧ Below w.heap.size w w' := by
  obtain ⟨z, hz⟩ : ∃ z, 1 + x % 100 = z := ⟨_, rfl⟩
  have hz1 : ((x : Int).tmod 100) = (z - 1 : Nat) := by rw [Int.tmod_eq_emod_of_nonneg (by omega)]; omega
  have hz2 : (x : Int) % 100 = (z - 1 : Nat) := by omega
  have h1z : (1 : Int) + (z - 1 : Nat) = (z : Nat) := by omega
  have hzb : 1 ≤ z := by omega
  have hzb2 : z ≤ 100 := by omega
  obtain ⟨s, hs⟩ : ∃ s, many n z = s := ⟨_, rfl⟩
  obtain ⟨b1, b2, b3⟩ := many_bounds n z hzb (by omega)
  rw [hs] at b1 b2 b3
  have HS := Lib.hid hs
  have HL := Lib.hid hl
  have HT := Lib.hid hT
  have hll := hl.1
  have HF := Lib.hid (fill_len l (s * z) (by omega))
  have HFI := Lib.hid (fill_in l (s * z) hl.2.1)
  have HG1 := Lib.hid (show glued (cutL (fill l (s * z)) z s) n = l by have := glued_cut l z s (by omega); rwa [hll] at this)
  have HG2 := Lib.hid (show (glued (cutL (fill l (s * z)) z s) (s * z + 1)).length < s * z + 1 by rw [glued_short _ z s _ HF.out (by omega)]; omega)
  obtain ⟨p, hp⟩ : ∃ p, s * z = p := ⟨_, rfl⟩
  have HP := Lib.hid hp
  have hzs : (z : Int) * (s : Int) = (p : Nat) := by rw [← hp, Int.natCast_mul, Int.mul_comm]
  rw [hp] at b1 b2 HF HFI HG1 HG2
  obtain ⟨q, hq⟩ : ∃ q, p + 1 = q := ⟨_, rfl⟩
  have hq1 : (p : Int) + 1 = (q : Nat) := by omega
  have hq2 : q ≤ 1000 := by omega
  rw [hq] at HG2
  have HLL := Lib.hid hll
  have HPC := Lib.hid (fun k hk => cutL_piece_len (fill l p) z s k hk (by rw [HF.out, HP.out]))
  have HPZ := Lib.hid (fun k (hk : k < (cutL (fill l p) z s).length) => Nat.le_of_eq (HPC.out k (by rwa [cutL_len] at hk)))
  clear hz hs hl hT hll hp hq
  go_enter Tryd.func7, Tryd.ntmps7
  go_wp2_with fail
  refine (awake_any w HT.out).mono ?_
  rintro e w1 ⟨rfl, hw1⟩
  have HO := Lib.hid hw1
  clear hw1
  go_wp2_with fail
  refine (cut_at A n c w.heap.size z s l _ (bytes_below HL.out HO.out.bel) HO.out.bel.size hzb (by omega) (by omega) HS.out).mono ?_
  rintro e w2 ⟨g, h, rfl, hc⟩
  rw [HP.out] at hc
  have HC := Lib.hid hc
  have HLS := Lib.hid (hc.lsts (by rw [HF.out, HP.out]) HFI.out)
  have HB2 := Lib.hid (HO.out.next hc.bel)
  clear hc
  go_wp2_with fail
  refine (sectors_at n z s _ (by omega) HS.out).mono ?_
  rintro e w2 ⟨rfl, rfl⟩
  go_wp2_with fail
  go_loop [9] (fun i => ∃ k : Nat, k ≤ s ∧ i = .int .i64 k) (fun i => s - (intOf i).toNat)
  case atStart => exact ⟨0, Nat.zero_le _, rfl⟩
  case round =>
    obtain ⟨k, hk, rfl⟩ := hrel
    by_cases hlt : k < s
    · have hcell : w2.cell? ⟨g, k, none⟩ = some (.slice (some ⟨h, k * z, none⟩) z z) := by rw [HC.out.val.cell, pcs_get h z s s k hlt]
      have hk0 : (0 : Int) ≤ (k : Int) := by omega
      have hk1 : (k : Int) < (s : Int) := by omega
      have hne : ((z : Int) != (z : Int)) = false := by simp
      go_wp2_with fail
      go_round
      case rel => exact ⟨k + 1, by omega, by go_num⟩
      case measure => simp [intOf]; omega
    · obtain rfl : k = s := by omega
      go_wp2_with fail
      refine (glue_ok _ k k w2.heap.size n z _ l w2 HLS.out (Nat.le_refl _) HPZ.out (by rw [HP.out]; omega) (by omega) (by omega) HG1.out HLL.out).mono ?_
      rintro e w3 ⟨hb3, A3, c3, rfl, hy3⟩
      have HB3 := Lib.hid hb3
      have HY3 := Lib.hid hy3
      clear hb3 hy3
      go_wp2_with fail
      refine (glue_few _ k k w2.heap.size q z _ w3 (HLS.out.below HB3.out) HB3.out.size HPZ.out (by rw [HP.out]; omega) (by omega) (by omega) HG2.out).mono ?_
      rintro e w4 ⟨rfl, hb4⟩
      have HB4 := Lib.hid hb4
      clear hb4
      go_wp2_with fail
      refine (same_refl A A3 n c c3 w4.heap.size l w4 (by unfold maxLen; omega) (bytes_mono (bytes_below HL.out (((HB2.out.next HB3.out).next HB4.out).bel)) (((HB2.out.next HB3.out).next HB4.out).bel.size)) (bytes_mono (bytes_below HY3.out HB4.out) HB4.out.size) (Nat.le_refl _)).mono ?_
      rintro e w5 ⟨rfl, hb5⟩
      have HB5 := Lib.hid (((HB2.out.next HB3.out).next HB4.out).next hb5)
      clear hb5
      have hpb : p ≤ 999 := by omega
      have hdec : decide ((p : Int) < (n : Int) + (z : Int)) = true := by simp; omega
      clear hz1 hz2 h1z hq1 b3
      go_wp2_with fail
      go_ret
      exact ⟨rfl, HB5.out.bel⟩

theorem imageGlues_walk (w : World) (A : Option Addr) (n c : Nat) (zs : List Int) (hr : IsRow .u8 w A n c zs) (x : Int) (wx : (Lit.int .u8 x).wf = true) (hT : Tab w) :
    Calls Tryd.prog 7 #[.slice A n c, .int .u8 x] w fun e w' => e = .returned (.bool true) ∧ Below w.heap.size w w' := by
  simp [Lit.wf, IntKind.min, IntKind.max, IntKind.signed, IntKind.bits] at wx
  obtain ⟨y, rfl⟩ := Int.eq_ofNat_of_zero_le wx.1
  by_cases hn : n ≤ 300
  · exact glues_walk w A n c _ hr.bytes hn y (by omega) hT
  · exact glues_long w A n c (by omega) hr.len_le.2 y hT
end Go.Proofs.YtcojpiepbdcohaaDoor
