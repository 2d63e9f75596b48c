/-
  THE WALKS OF crc.oneOn, crc.fourOn, crc.times.
-/
import Derived.Test.YtdbfmmjncoffnaaDoorWords
import Derived.Test.YtdbfmmjncoffnaaDoorRows
import Derived.WalkKit
import Derived.WalkSpells
import Derived.WalkLawsBesides
import Derived.Lib.Hide
namespace Go.Proofs.YtdbfmmjncoffnaaDoor
open Ks Go.RowKit

theorem ret_int {k : IntKind} {a b : Int} (h : a = b) : Ending.returned (.int k a) = .returned (.int k b) := by rw [h]
theorem ret_bool {a b : Bool} (h : a = b) : Ending.returned (.bool a) = .returned (.bool b) := by rw [h]

theorem oneOn_any (x : BitVec 32) (w : World) : Calls Tryd.prog 24 #[.int .u32 (U x)] w fun e w' => e = .returned (.int .u32 (U (X x))) ∧ w = w' := by
  have h1 := bit0 x
  have h4 := U_ge x
  have h5 := U_lt x
  cases hb : x.getLsbD 0
  · have HX := Lib.hid (show U x / 2 = U (X x) by rw [shr1, X_even hb])
    rw [hb] at h1
    clear hb
    go_enter Tryd.func24, Tryd.ntmps24
    go_wp2
    go_ret
    exact ⟨ret_int HX.out, rfl⟩
  · have HX := Lib.hid (show bits .xor .u32 (U x / 2) 3988292384 = U (X x) by rw [shr1, xor_D]; unfold X; rw [hb]; rfl)
    rw [hb] at h1
    clear hb
    go_enter Tryd.func24, Tryd.ntmps24
    go_wp2
    go_ret
    exact ⟨ret_int HX.out, rfl⟩

/-- the table lies in memory -/
def Tab (w : World) : Prop := ∀ k, k < 16 → w.cell? ⟨0, k, none⟩ = some (.int .u32 (nib.getD k 0 : Nat))

theorem fourOn_any (x : BitVec 32) (w : World) (hT : Tab w) : Calls Tryd.prog 20 #[.int .u32 (U x)] w fun e w' => e = .returned (.int .u32 (U (four x))) ∧ w = w' := by
  have h4 := U_ge x
  have h5 := U_lt x
  have ha := and_15 x
  have hk : x.toNat % 16 < 16 := Nat.mod_lt _ (by decide)
  have HX := Lib.hid (show bits .xor .u32 (U x / 16) ((nib.getD (x.toNat % 16) 0 : Nat) : Int) = U (four x) by
    rw [shr4, xor_any]; unfold four Bv; rw [BitVec.ofInt_natCast])
  generalize x.toNat % 16 = k at *
  have hc := hT k hk
  generalize nib.getD k 0 = z at *
  clear hT
  go_enter Tryd.func20, Tryd.ntmps20
  go_wp2
  go_ret
  exact ⟨ret_int HX.out, rfl⟩


/-- where the product's loop stands behind k rounds -/
def TimesAt (x y : BitVec 32) (k : Nat) (p acc : BitVec 32) : Prop := k ≤ 32 ∧ p = x >>> k ∧ tloop (32 - k) (x >>> k) y acc = times x y
theorem timesAt_zero (x y : BitVec 32) : TimesAt x y 0 x 0#32 := ⟨by omega, by simp, by simp [times]⟩
theorem timesAt_succ {x y : BitVec 32} {k : Nat} {p acc : BitVec 32} (h : TimesAt x y k p acc) (hk : k < 32) :
    TimesAt x y (k + 1) (p >>> 1) (if p.getLsbD 0 then X acc ^^^ y else X acc) := by
  obtain ⟨_, rfl, h3⟩ := h
  refine ⟨by omega, by rw [← BitVec.shiftRight_add], ?_⟩
  rw [show 32 - k = (32 - (k + 1)) + 1 by omega, tloop] at h3
  rw [BitVec.shiftRight_add]
  exact h3
theorem timesAt_end {x y : BitVec 32} {k : Nat} {p acc : BitVec 32} (h : TimesAt x y k p acc) (hk : ¬ k < 32) : acc = times x y := by
  obtain ⟨h1, rfl, h3⟩ := h
  rw [show 32 - k = 0 by omega, tloop] at h3
  exact h3

theorem times_any (x y : BitVec 32) (w : World) : Calls Tryd.prog 21 #[.int .u32 (U x), .int .u32 (U y)] w fun e w' => e = .returned (.int .u32 (U (times x y))) ∧ w = w' := by
  go_enter Tryd.func21, Tryd.ntmps21
  go_wp2_with fail
  go_loop [0, 5, 6] (fun a b i => ∃ (k : Nat) (p acc : BitVec 32), TimesAt x y k p acc ∧ i = .int .i64 k ∧ a = .int .u32 (U p) ∧ b = .int .u32 (U acc)) (fun _ _ i => 32 - (intOf i).toNat)
  case atStart => exact ⟨0, x, 0#32, timesAt_zero x y, rfl, rfl, rfl⟩
  case round =>
    obtain ⟨k, p, acc, hat, rfl, rfl, rfl⟩ := hrel
    by_cases hlt : k < 32
    · have hn := timesAt_succ hat hlt
      have h1 := bit0 p
      cases hb : p.getLsbD 0
      · rw [hb] at h1 hn
        clear hb hat
        go_wp2_with (go_at_call 24; refine (oneOn_any _ _).mono ?_; rintro e w' ⟨rfl, rfl⟩)
        go_round
        case rel => exact ⟨k + 1, p >>> 1, X acc, hn, by go_num, by rw [← shr1], rfl⟩
        case measure => simp [intOf]; omega
      · rw [hb] at h1 hn
        clear hb hat
        go_wp2_with (go_at_call 24; refine (oneOn_any _ _).mono ?_; rintro e w' ⟨rfl, rfl⟩)
        go_round
        case rel => exact ⟨k + 1, p >>> 1, X acc ^^^ y, hn, by go_num, by rw [← shr1], by rw [← xor_U]⟩
        case measure => simp [intOf]; omega
    · have HE := Lib.hid (timesAt_end hat hlt)
      clear hat
      go_wp2_with fail
      go_ret
      exact ⟨ret_int (by rw [HE.out]), rfl⟩
end Go.Proofs.YtdbfmmjncoffnaaDoor
