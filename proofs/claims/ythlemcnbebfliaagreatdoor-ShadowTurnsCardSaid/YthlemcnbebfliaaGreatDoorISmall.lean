/-
  THE WALKS OF image.sizeMayBe, image.Sectors, image.piece AND OF THE DOCUMENT's Sectors.
-/
import Derived.Test.YthlemcnbebfliaaGreatDoorHPre
import Derived.Lib.SliceRun
namespace Go.Proofs.YthlemcnbebfliaaGreatDoor
open Ks Go.RowKit
set_option maxRecDepth 20000

def sizeOk (s : Int) : Bool := decide (1 ≤ s ∧ s ≤ 4096)
theorem sizeMayBe_any (s : Int) (r : Bool) (w : World) (hr : sizeOk s = r) : Calls Tryz.prog 131 #[.int .i64 s] w fun e w' => e = .returned (.bool r) ∧ w' = w := by
  subst hr
  by_cases h0 : (1 : Int) ≤ s
  · by_cases h1 : s ≤ 4096
    · go_enter Tryz.func131, Tryz.ntmps131
      go_wp2_with fail
      go_ret
      exact ⟨by simp [sizeOk, h0, h1], rfl⟩
    · go_enter Tryz.func131, Tryz.ntmps131
      go_wp2_with fail
      go_ret
      exact ⟨by simp [sizeOk, h1], rfl⟩
  · go_enter Tryz.func131, Tryz.ntmps131
    go_wp2_with fail
    go_ret
    exact ⟨by unfold sizeOk; rw [decide_eq_false (by omega)]; rfl, rfl⟩

/-- how many sectors so many bytes need -/
def sect (many size : Int) : Int := if 1 ≤ many ∧ 1 ≤ size ∧ size ≤ 4096 then (many - 1) / size + 1 else 0
theorem sect_out {many size : Int} (h : ¬ (1 ≤ many ∧ 1 ≤ size ∧ size ≤ 4096)) : sect many size = 0 := by unfold sect; rw [if_neg h]
theorem tdiv_pos (a b : Int) (h : 0 ≤ a) : a.tdiv b = a / b := Int.tdiv_eq_ediv_of_nonneg h
theorem div_bounds (a b : Int) (h : 0 ≤ a) (hb : 1 ≤ b) : 0 ≤ a / b ∧ a / b ≤ a := ⟨Int.ediv_nonneg h (by omega), Int.ediv_le_self _ h⟩

theorem sectors_any (many size v : Int) (w : World) (hm : (Lit.int .i64 many).wf = true) (hv : sect many size = v) : Calls Tryz.prog 130 #[.int .i64 many, .int .i64 size] w fun e w' => e = .returned (.int .i64 v) ∧ w' = w := by
  subst hv
  by_cases h0 : many < 1
  · rw [sect_out (by omega)]
    go_enter Tryz.func130, Tryz.ntmps130
    go_wp2_with fail
    go_ret
    exact ⟨rfl, rfl⟩
  · cases hs : sizeOk size
    · rw [sect_out (by unfold sizeOk at hs; simp at hs; omega)]
      have HS := Lib.hid hs
      clear hs
      go_enter Tryz.func130, Tryz.ntmps130
      go_wp2_with fail
      refine (sizeMayBe_any size false _ HS.out).mono ?_
      rintro e w' ⟨rfl, rfl⟩
      go_wp2_with fail
      go_ret
      exact ⟨rfl, rfl⟩
    · have hb : 1 ≤ size ∧ size ≤ 4096 := by unfold sizeOk at hs; simpa using hs
      have hu : many ≤ 9223372036854775807 := by simp [Lit.wf, IntKind.min, IntKind.max, IntKind.signed, IntKind.bits] at hm; omega
      have HV := Lib.hid (show sect many size = (many - 1) / size + 1 by unfold sect; rw [if_pos (by omega)])
      obtain ⟨h2, h3⟩ := div_bounds (many - 1) size (by omega) hb.1
      have ht := tdiv_pos (many - 1) size (by omega)
      have HS := Lib.hid hs
      have hw : IntKind.i64.wrap (many - 1) = many - 1 := by rw [IntKind.wrap_i64]; omega
      have hz : size ≠ 0 := by omega
      rw [HV.out]
      obtain ⟨q, hq⟩ : ∃ q, (many - 1) / size = q := ⟨_, rfl⟩
      rw [hq] at h2 h3 ht ⊢
      have hwq : IntKind.i64.wrap q = q := by rw [IntKind.wrap_i64]; omega
      have hwq1 : IntKind.i64.wrap (q + 1) = q + 1 := by rw [IntKind.wrap_i64]; omega
      clear hs hm HV hq
      go_enter Tryz.func130, Tryz.ntmps130
      go_wp2_with fail
      refine (sizeMayBe_any size true _ HS.out).mono ?_
      rintro e w' ⟨rfl, rfl⟩
      go_wp2_with fail
      go_ret
      exact ⟨rfl, rfl⟩

theorem sect_ref (many size : Int) (h0 : 1 ≤ many) (h1 : 1 ≤ size) (h2 : size ≤ 4096) : sect many size = if 0 < many % size then many / size + 1 else many / size := by
  unfold sect
  rw [if_pos ⟨h0, h1, h2⟩]
  have e := Int.mul_ediv_add_emod many size
  have hm := Int.emod_lt_of_pos many (show 0 < size by omega)
  have hm0 := Int.emod_nonneg many (show size ≠ 0 by omega)
  generalize many / size = q at *
  generalize many % size = r at *
  split
  · have : (many - 1) / size = q := by
      rw [show many - 1 = (r - 1) + size * q by omega, Int.add_mul_ediv_left _ _ (by omega), Int.ediv_eq_zero_of_lt (by omega) (by omega)]; omega
    omega
  · have : (many - 1) / size = q - 1 := by
      rw [show many - 1 = (size - 1) + size * (q - 1) by rw [Int.mul_sub]; omega, Int.add_mul_ediv_left _ _ (by omega), Int.ediv_eq_zero_of_lt (by omega) (by omega)]; omega
    omega

theorem refSectors_any (many size v : Int) (w : World) (hm : (Lit.int .i64 many).wf = true) (hv : sect many size = v) : Calls Tryz.prog 76 #[.int .i64 many, .int .i64 size] w fun e w' => e = .returned (.int .i64 v) ∧ w' = w := by
  subst hv
  by_cases h1 : size < 1
  · rw [sect_out (by omega)]
    go_enter Tryz.func76, Tryz.ntmps76
    go_wp2_with fail
    go_ret
    exact ⟨rfl, rfl⟩
  · by_cases h2 : 4096 < size
    · rw [sect_out (by omega)]
      go_enter Tryz.func76, Tryz.ntmps76
      go_wp2_with fail
      go_ret
      exact ⟨rfl, rfl⟩
    · by_cases h0 : many < 1
      · rw [sect_out (by omega)]
        go_enter Tryz.func76, Tryz.ntmps76
        go_wp2_with fail
        go_ret
        exact ⟨rfl, rfl⟩
      · have HV := Lib.hid (sect_ref many size (by omega) (by omega) (by omega))
        rw [HV.out]
        have hu : many ≤ 9223372036854775807 := by simp [Lit.wf, IntKind.min, IntKind.max, IntKind.signed, IntKind.bits] at hm; omega
        obtain ⟨h3, h4⟩ := div_bounds many size (by omega) (by omega)
        have ht := tdiv_pos many size (by omega)
        have ht2 : many.tmod size = many % size := Int.tmod_eq_emod_of_nonneg (by omega)
        have hz : size ≠ 0 := by omega
        have hs := Int.mul_ediv_add_emod many size
        have hr0 := Int.emod_nonneg many hz
        have hq1 : 0 < many % size → many / size < many := fun h => by
          have : many / size ≤ size * (many / size) := by have := Int.mul_le_mul_of_nonneg_right (show (1 : Int) ≤ size by omega) h3; omega
          omega
        obtain ⟨q, hq⟩ : ∃ q, many / size = q := ⟨_, rfl⟩
        obtain ⟨r, hr⟩ : ∃ r, many % size = r := ⟨_, rfl⟩
        rw [hq, hr] at hq1 ⊢
        rw [hq] at h3 h4 ht
        rw [hr] at ht2 hr0
        have hwq : IntKind.i64.wrap q = q := by rw [IntKind.wrap_i64]; omega
        clear hq hr hs hm HV
        by_cases hr1 : 0 < r
        · have := hq1 hr1
          have hwq1 : IntKind.i64.wrap (q + 1) = q + 1 := by rw [IntKind.wrap_i64]; omega
          rw [if_pos hr1]
          clear hq1
          go_enter Tryz.func76, Tryz.ntmps76
          go_wp2_with fail
          go_ret
          exact ⟨rfl, rfl⟩
        · rw [if_neg hr1]
          clear hq1
          go_enter Tryz.func76, Tryz.ntmps76
          go_wp2_with fail
          go_ret
          exact ⟨rfl, rfl⟩

/-- where a piece begins: one without a byte stays at the list's own begin -/
def pieceAt (o i m : Nat) : Nat := if m = 0 then o else o + i
theorem piece_some (b o n c i m : Nat) (w : World) (h2 : i + m ≤ c) : Calls Tryz.prog 132 #[.slice (some ⟨b, o, none⟩) n c, .int .i64 i, .int .i64 (i + m : Nat)] w fun e w' => e = .returned (.slice (some ⟨b, pieceAt o i m, none⟩) m m) ∧ w' = w := by
  obtain ⟨j, hj⟩ : ∃ j, i + m = j := ⟨_, rfl⟩
  rw [hj]
  have hi : i ≤ j := by omega
  have hjc : j ≤ c := by omega
  by_cases hm : m = 0
  · subst hm
    obtain rfl : i = j := by omega
    clear hj
    unfold pieceAt
    rw [if_pos rfl]
    go_enter Tryz.func132, Tryz.ntmps132
    go_wp2_with fail
    go_ret
    exact ⟨rfl, rfl⟩
  · have hjm : j - i = m := by omega
    have hne : ¬ j = i := by omega
    clear hj
    unfold pieceAt
    rw [if_neg hm]
    go_enter Tryz.func132, Tryz.ntmps132
    go_wp2_with fail
    go_ret
    exact ⟨rfl, rfl⟩
theorem piece_none (w : World) : Calls Tryz.prog 132 #[.slice none 0 0, .int .i64 0, .int .i64 0] w fun e w' => e = .returned (.slice none 0 0) ∧ w' = w := by
  go_enter Tryz.func132, Tryz.ntmps132
  go_wp2_with fail
  go_ret
  exact ⟨rfl, rfl⟩
end Go.Proofs.YthlemcnbebfliaaGreatDoor
