/-
  THE WALK OF CrcTells.
-/
import Derived.Test.YtdbfmmjncoffnaaDoorRefSum
namespace Go.Proofs.YtdbfmmjncoffnaaDoor
open Ks Go.RowKit

theorem crcTells_walk (w : World) (A : Option Addr) (n c : Nat) (z : List Int) (hr : IsRow .u8 w A n c z) (hT : Tab w) :
    Calls Tryd.prog 3 #[.slice A n c] w fun e w' => e = .returned (.bool true) ∧ Below w.heap.size w w' := by
  have HN := Lib.hid hr.len_le
  have HT := Lib.hid hT
  have HR := Lib.hid hr.bytes
  clear hT hr
  by_cases h150 : (150 : Int) < (n : Int)
  · go_enter Tryd.func3, Tryd.ntmps3
    go_wp2_with fail
    refine (awake_any _ HT.out).mono ?_
    rintro e w1 ⟨rfl, hw1⟩
    have HW1 := Lib.hid hw1
    clear hw1
    go_wp2_with fail
    go_ret
    exact ⟨rfl, HW1.out⟩
  · go_enter Tryd.func3, Tryd.ntmps3
    go_wp2_with fail
    refine (awake_any _ HT.out).mono ?_
    rintro e w1 ⟨rfl, hw1⟩
    have HT1 := Lib.hid (tab_below HT.out hw1 (tab_pos HT.out))
    have hy := bytes_below HR.out hw1
    have HY := Lib.hid (show Bytes w1 w1.heap.size A n (z.take n) from ⟨hy.1, hy.2.1, fun h => by
      obtain ⟨b, o, e, hB, hc⟩ := hy.2.2 h
      exact ⟨b, o, e, Nat.lt_of_lt_of_le hB hw1.size, hc⟩⟩)
    have HW1 := Lib.hid hw1
    clear hw1 hy
    generalize z.take n = l at *
    go_wp2_with fail
    refine (sum_any A n c _ l _ HT1.out HN.out.2 HY.out).mono ?_
    rintro e w' ⟨rfl, rfl⟩
    obtain ⟨s, hs⟩ : ∃ s, more 0#32 (l.map Bv) = s := ⟨_, rfl⟩
    rw [hs]
    have HS := Lib.hid hs
    clear hs
    go_wp2_with fail
    refine (refSum_any A n c l _ (by omega) HY.out).mono ?_
    rintro e w2 ⟨rfl, hw2⟩
    have HW2 := Lib.hid (HW1.out.trans (hw2.mono HW1.out.size))
    clear hw2
    go_wp2_with fail
    go_ret
    exact ⟨ret_bool (by rw [HS.out]; exact beq_self_eq_true _), HW2.out⟩
end Go.Proofs.YtdbfmmjncoffnaaDoor
