/-
  THE WALKS OF head.take (of each type) AND OF keepsakeref04.Number.
-/
import Derived.Test.YtpbhkkcboppdmaaDoorHSame
import Derived.Test.YtpbhkkcboppdmaaDoorHLe
namespace Go.Proofs.YtpbhkkcboppdmaaDoor
open Ks Go.RowKit
set_option maxRecDepth 20000

theorem pow256 (a b : Nat) (h : a ≤ b) : (256 : Int) ^ a ≤ 256 ^ b := by
  obtain ⟨d, rfl⟩ : ∃ d, b = a + d := ⟨b - a, by omega⟩
  clear h
  induction d with
  | zero => exact Int.le_refl _
  | succ d ih =>
    rw [← Nat.add_assoc, Int.pow_succ]
    have : (0 : Int) < 256 ^ a := Int.pow_pos (by decide)
    omega
theorem or_u32 (y x : Int) (h0 : 0 ≤ y) (h1 : y < 16777216) (hx : 0 ≤ x ∧ x ≤ 255) : bits .or .u32 (y * 256) x = x + 256 * y := by
  rw [u32_or _ _ (by omega) (by omega) hx.1 (by omega), nat_join8 _ _ (by omega) (by omega)]
  omega
theorem or_u64 (y x : Int) (h0 : 0 ≤ y) (h1 : y < 72057594037927936) (hx : 0 ≤ x ∧ x ≤ 255) : bits .or .u64 (y * 256) x = x + 256 * y := by
  rw [u64_or _ _ (by omega) (by omega) hx.1 (by omega), nat_join8 _ _ (by omega) (by omega)]
  omega
theorem or_i64 (y x : Int) (h0 : 0 ≤ y) (h1 : y < 16777216) (hx : 0 ≤ x ∧ x ≤ 255) : bits .or .i64 (y * 256) x = x + 256 * y := by
  obtain ⟨a, ha⟩ := Int.eq_ofNat_of_zero_le (show 0 ≤ y * 256 by omega)
  obtain ⟨b, hb⟩ := Int.eq_ofNat_of_zero_le hx.1
  rw [ha, hb]
  show IntKind.i64.wrap ((BitVec.ofInt 64 (a : Int) ||| BitVec.ofInt 64 (b : Int)).toNat : Int) = _
  rw [BitVec.toNat_or, ofInt_u64 a (by omega), ofInt_u64 b (by omega), nat_join8 _ _ (by omega) (by omega), IntKind.wrap_i64]
  omega
theorem add_u64 (y x : Int) : 256 * y + x = x + 256 * y := by omega

theorem take32_any (A : Option Addr) (n c B : Nat) (l : List Int) (v : Int) (w : World) (hn : n ≤ 4) (hl : Bytes w B A n l) (hv : num l = v) :
    Calls Tryd.prog 71 #[.slice A n c] w fun e w' => e = .returned (.int .u32 v) ∧ w' = w := by
  subst hv
  have HL := Lib.hid hl
  clear hl
  go_enter Tryd.func71, Tryd.ntmps71
  go_wp2_with fail
  go_loop [3, 4] (fun y i => ∃ k : Nat, k ≤ n ∧ i = .int .i64 ((k : Int) - 1) ∧ y = .int .u32 (num (l.drop k))) (fun _ i => (intOf i + 1).toNat)
  case atStart => exact ⟨n, by omega, rfl, by rw [← HL.out.1, num_end]⟩
  case round =>
    obtain ⟨k, hk, rfl, rfl⟩ := hrel
    by_cases h0 : k = 0
    · subst h0
      go_wp2_with fail
      go_ret
      exact ⟨rfl, rfl⟩
    · obtain ⟨m, rfl⟩ : ∃ m, k = m + 1 := ⟨k - 1, by omega⟩
      obtain ⟨b, o, rfl, hc⟩ := bytes_cell HL.out (Below.refl B w) m (by omega)
      have hs := num_drop l m (by have := HL.out.1; omega)
      have hx := getD_in l HL.out.2.1 m
      have hb := num_in (l.drop (m + 1)) (fun v hv => HL.out.2.1 v (List.mem_of_mem_drop hv))
      have hp := pow256 (l.drop (m + 1)).length 3 (by have := HL.out.1; simp; omega)
      have hm0 : (0 : Int) ≤ ((m + 1 : Nat) : Int) - 1 := by omega
      have hm1 : ((m + 1 : Nat) : Int) - 1 < (n : Int) := by omega
      have hmm : (((m + 1 : Nat) : Int) - 1).toNat = m := by omega
      obtain ⟨hb0, hb1⟩ := hb
      have hb2 : num (l.drop (m + 1)) < 16777216 := Int.lt_of_lt_of_le hb1 hp
      have HS := Lib.hid hs
      generalize num (l.drop (m + 1)) = y at *
      generalize l.getD m 0 = x at *
      clear h0 hp hb1 hs
      obtain ⟨hx0, hx1⟩ := hx
      go_wp2_with fail
      go_round
      case rel => exact ⟨m, by omega, rfl, congrArg (Value.int .u32) (by rw [HS.out]; exact or_u32 _ _ hb0 hb2 ⟨hx0, hx1⟩)⟩
      case measure => simp [intOf]

theorem takeInt_any (A : Option Addr) (n c B : Nat) (l : List Int) (v : Int) (w : World) (hn : n ≤ 4) (hl : Bytes w B A n l) (hv : num l = v) :
    Calls Tryd.prog 92 #[.slice A n c] w fun e w' => e = .returned (.int .i64 v) ∧ w' = w := by
  subst hv
  have HL := Lib.hid hl
  clear hl
  go_enter Tryd.func92, Tryd.ntmps92
  go_wp2_with fail
  go_loop [3, 4] (fun y i => ∃ k : Nat, k ≤ n ∧ i = .int .i64 ((k : Int) - 1) ∧ y = .int .i64 (num (l.drop k))) (fun _ i => (intOf i + 1).toNat)
  case atStart => exact ⟨n, by omega, rfl, by rw [← HL.out.1, num_end]⟩
  case round =>
    obtain ⟨k, hk, rfl, rfl⟩ := hrel
    by_cases h0 : k = 0
    · subst h0
      go_wp2_with fail
      go_ret
      exact ⟨rfl, rfl⟩
    · obtain ⟨m, rfl⟩ : ∃ m, k = m + 1 := ⟨k - 1, by omega⟩
      obtain ⟨b, o, rfl, hc⟩ := bytes_cell HL.out (Below.refl B w) m (by omega)
      have hs := num_drop l m (by have := HL.out.1; omega)
      have hx := getD_in l HL.out.2.1 m
      have hb := num_in (l.drop (m + 1)) (fun v hv => HL.out.2.1 v (List.mem_of_mem_drop hv))
      have hp := pow256 (l.drop (m + 1)).length 3 (by have := HL.out.1; simp; omega)
      have hm0 : (0 : Int) ≤ ((m + 1 : Nat) : Int) - 1 := by omega
      have hm1 : ((m + 1 : Nat) : Int) - 1 < (n : Int) := by omega
      have hmm : (((m + 1 : Nat) : Int) - 1).toNat = m := by omega
      obtain ⟨hb0, hb1⟩ := hb
      have hb2 : num (l.drop (m + 1)) < 16777216 := Int.lt_of_lt_of_le hb1 hp
      have HS := Lib.hid hs
      generalize num (l.drop (m + 1)) = y at *
      generalize l.getD m 0 = x at *
      clear h0 hp hb1 hs
      obtain ⟨hx0, hx1⟩ := hx
      go_wp2_with fail
      go_round
      case rel => exact ⟨m, by omega, rfl, congrArg (Value.int .i64) (by rw [HS.out]; exact or_i64 _ _ hb0 hb2 ⟨hx0, hx1⟩)⟩
      case measure => simp [intOf]

theorem take64_any (A : Option Addr) (n c B : Nat) (l : List Int) (v : Int) (w : World) (hn : n ≤ 8) (hl : Bytes w B A n l) (hv : num l = v) :
    Calls Tryd.prog 93 #[.slice A n c] w fun e w' => e = .returned (.int .u64 v) ∧ w' = w := by
  subst hv
  have HL := Lib.hid hl
  clear hl
  go_enter Tryd.func93, Tryd.ntmps93
  go_wp2_with fail
  go_loop [3, 4] (fun y i => ∃ k : Nat, k ≤ n ∧ i = .int .i64 ((k : Int) - 1) ∧ y = .int .u64 (num (l.drop k))) (fun _ i => (intOf i + 1).toNat)
  case atStart => exact ⟨n, by omega, rfl, by rw [← HL.out.1, num_end]⟩
  case round =>
    obtain ⟨k, hk, rfl, rfl⟩ := hrel
    by_cases h0 : k = 0
    · subst h0
      go_wp2_with fail
      go_ret
      exact ⟨rfl, rfl⟩
    · obtain ⟨m, rfl⟩ : ∃ m, k = m + 1 := ⟨k - 1, by omega⟩
      obtain ⟨b, o, rfl, hc⟩ := bytes_cell HL.out (Below.refl B w) m (by omega)
      have hs := num_drop l m (by have := HL.out.1; omega)
      have hx := getD_in l HL.out.2.1 m
      have hb := num_in (l.drop (m + 1)) (fun v hv => HL.out.2.1 v (List.mem_of_mem_drop hv))
      have hp := pow256 (l.drop (m + 1)).length 7 (by have := HL.out.1; simp; omega)
      have hm0 : (0 : Int) ≤ ((m + 1 : Nat) : Int) - 1 := by omega
      have hm1 : ((m + 1 : Nat) : Int) - 1 < (n : Int) := by omega
      have hmm : (((m + 1 : Nat) : Int) - 1).toNat = m := by omega
      obtain ⟨hb0, hb1⟩ := hb
      have hb2 : num (l.drop (m + 1)) < 72057594037927936 := Int.lt_of_lt_of_le hb1 hp
      have HS := Lib.hid hs
      generalize num (l.drop (m + 1)) = y at *
      generalize l.getD m 0 = x at *
      clear h0 hp hb1 hs
      obtain ⟨hx0, hx1⟩ := hx
      go_wp2_with fail
      go_round
      case rel => exact ⟨m, by omega, rfl, congrArg (Value.int .u64) (by rw [HS.out]; exact or_u64 _ _ hb0 hb2 ⟨hx0, hx1⟩)⟩
      case measure => simp [intOf]

theorem number_any (A : Option Addr) (n c B : Nat) (l : List Int) (v : Int) (w : World) (hn : n ≤ 8) (hl : Bytes w B A n l) (hv : num l = v) :
    Calls Tryd.prog 76 #[.slice A n c] w fun e w' => e = .returned (.int .u64 v) ∧ w' = w := by
  subst hv
  have HL := Lib.hid hl
  clear hl
  go_enter Tryd.func76, Tryd.ntmps76
  go_wp2_with fail
  go_loop [3, 4] (fun y i => ∃ k : Nat, k ≤ n ∧ i = .int .i64 ((k : Int) - 1) ∧ y = .int .u64 (num (l.drop k))) (fun _ i => (intOf i + 1).toNat)
  case atStart => exact ⟨n, by omega, rfl, by rw [← HL.out.1, num_end]⟩
  case round =>
    obtain ⟨k, hk, rfl, rfl⟩ := hrel
    by_cases h0 : k = 0
    · subst h0
      go_wp2_with fail
      go_ret
      exact ⟨rfl, rfl⟩
    · obtain ⟨m, rfl⟩ : ∃ m, k = m + 1 := ⟨k - 1, by omega⟩
      obtain ⟨b, o, rfl, hc⟩ := bytes_cell HL.out (Below.refl B w) m (by omega)
      have hs := num_drop l m (by have := HL.out.1; omega)
      have hx := getD_in l HL.out.2.1 m
      have hb := num_in (l.drop (m + 1)) (fun v hv => HL.out.2.1 v (List.mem_of_mem_drop hv))
      have hp := pow256 (l.drop (m + 1)).length 7 (by have := HL.out.1; simp; omega)
      have hm0 : (0 : Int) ≤ ((m + 1 : Nat) : Int) - 1 := by omega
      have hm1 : ((m + 1 : Nat) : Int) - 1 < (n : Int) := by omega
      have hmm : (((m + 1 : Nat) : Int) - 1).toNat = m := by omega
      obtain ⟨hb0, hb1⟩ := hb
      have hb2 : num (l.drop (m + 1)) < 72057594037927936 := Int.lt_of_lt_of_le hb1 hp
      have HS := Lib.hid hs
      generalize num (l.drop (m + 1)) = y at *
      generalize l.getD m 0 = x at *
      clear h0 hp hb1 hs
      obtain ⟨hx0, hx1⟩ := hx
      go_wp2_with fail
      go_round
      case rel => exact ⟨m, by omega, rfl, congrArg (Value.int .u64) (by rw [HS.out]; exact add_u64 _ _)⟩
      case measure => simp [intOf]
end Go.Proofs.YtpbhkkcboppdmaaDoor
