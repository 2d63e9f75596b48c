/-
  THE WALKS OF crc.More, crc.Sum.
-/
import Derived.Test.YtdbfmmjncoffnaaDoorPower
namespace Go.Proofs.YtdbfmmjncoffnaaDoor
open Ks Go.RowKit

/-- a slice of bytes that reads as the list l, all of it below block B -/
def Bytes (w : World) (B : Nat) (A : Option Addr) (n : Nat) (l : List Int) : Prop :=
  l.length = n ∧ (∀ v ∈ l, 0 ≤ v ∧ v ≤ 255) ∧ (0 < n → ∃ b o, A = some ⟨b, o, none⟩ ∧ b < B ∧ ∀ k, k < n → w.cell? ⟨b, o + k, none⟩ = some (.int .u8 (l.getD k 0)))

/-- what is left of the first k bytes -/
def leftAt (s : BitVec 32) (l : List Int) (k : Nat) : BitVec 32 := run (~~~ s) ((l.take k).map Bv)
theorem leftAt_zero (s : BitVec 32) (l : List Int) : leftAt s l 0 = ~~~ s := rfl
theorem leftAt_succ (s : BitVec 32) (l : List Int) (k : Nat) (h : k < l.length) : four (four (leftAt s l k ^^^ Bv (l.getD k 0))) = leftAt s l (k + 1) := by
  unfold leftAt
  rw [step_four, List.take_succ_eq_append_getElem h, List.map_append, List.map_cons, List.map_nil, run_snoc]
  simp [List.getD, h]
theorem leftAt_end (s : BitVec 32) (l : List Int) (k : Nat) (h : l.length ≤ k) : ~~~ leftAt s l k = more s (l.map Bv) := by
  unfold leftAt more
  rw [List.take_of_length_le h]

theorem more_any (s : BitVec 32) (A : Option Addr) (n c B : Nat) (l : List Int) (w : World) (hT : Tab w) (hn : n ≤ maxLen) (hl : Bytes w B A n l) :
    Calls Tryd.prog 13 #[.int .u32 (U s), .slice A n c] w fun e w' => e = .returned (.int .u32 (U (more s (l.map Bv)))) ∧ w = w' := by
  unfold maxLen at hn
  have HT := Lib.hid hT
  have HL := Lib.hid hl
  clear hT hl
  go_enter Tryd.func13, Tryd.ntmps13
  go_wp2_with fail
  go_loop [5, 7, 12] (fun a v i => ∃ k : Nat, k ≤ n ∧ i = .int .i64 k ∧ a = .int .u32 (U (leftAt s l k))) (fun _ _ i => n - (intOf i).toNat)
  case atStart => exact ⟨0, Nat.zero_le _, rfl, by rw [not_U, leftAt_zero]⟩
  case round =>
    obtain ⟨k, hk, rfl, rfl⟩ := hrel
    by_cases hlt : k < n
    · obtain ⟨hlen, hbd, hcs⟩ := HL.out
      obtain ⟨b, o, rfl, _, hcell⟩ := hcs (by omega)
      have hc := hcell k hlt
      have hvb := hbd (l.getD k 0) (by simp [List.getD, hlen, hlt])
      have HN := Lib.hid (leftAt_succ s l k (by omega))
      generalize l.getD k 0 = v at *
      obtain ⟨hv0, hv1⟩ := hvb
      clear hcell hcs hlen hbd
      go_wp2_with fail
      rw [xor_any]
      refine (fourOn_any _ _ HT.out).mono ?_
      rintro e w' ⟨rfl, rfl⟩
      go_wp2_with fail
      refine (fourOn_any _ _ HT.out).mono ?_
      rintro e w' ⟨rfl, rfl⟩
      rw [HN.out]
      go_wp2_with fail
      go_round
      case rel => exact ⟨k + 1, by omega, by go_num, rfl⟩
      case measure => simp [intOf]; omega
    · have HE := Lib.hid (leftAt_end s l k (by have := HL.out.1; omega))
      go_wp2_with fail
      go_ret
      exact ⟨ret_int (by rw [not_U, HE.out]), rfl⟩

theorem sum_any (A : Option Addr) (n c B : Nat) (l : List Int) (w : World) (hT : Tab w) (hn : n ≤ maxLen) (hl : Bytes w B A n l) :
    Calls Tryd.prog 11 #[.slice A n c] w fun e w' => e = .returned (.int .u32 (U (more 0#32 (l.map Bv)))) ∧ w = w' := by
  have HT := Lib.hid hT
  have HL := Lib.hid hl
  clear hT hl
  go_enter Tryd.func11, Tryd.ntmps11
  go_wp2_with fail
  rw [show (0 : Int) = U 0#32 from rfl]
  refine (more_any _ _ _ _ B l _ HT.out hn HL.out).mono ?_
  rintro e w' ⟨rfl, rfl⟩
  go_wp2_with fail
  go_ret
  exact ⟨rfl, rfl⟩
end Go.Proofs.YtdbfmmjncoffnaaDoor
