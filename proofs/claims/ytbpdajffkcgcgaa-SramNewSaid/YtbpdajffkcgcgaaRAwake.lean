/-
  THE WALK OF keepsakelaw12.awake.
-/
import Derived.Test.YtbpdajffkcgcgaaRLaw
namespace Go.Proofs.Ytbpdajffkcgcgaa
open Go.RowKit
set_option maxRecDepth 20000

def ex0 : Ram := made 1 []
def ex1 : Ram := ex0.latch 165
def ex2 : Ram := ex1.write 67 7
theorem ex_w3 : ex0.write 3 7 = ex0 := rfl
theorem ex_tell : ex2.tell 3 = 7 := by decide +kernel
set_option maxRecDepth 100000 in
set_option maxHeartbeats 4000000 in
theorem awake_any (w : World) : Calls Try.prog 8 #[] w fun e w' => e = .returned (.bool true) ∧ Below w.heap.size w w' := by
  have HO := Lib.hid (show ex0.Ok from made_ok (by decide) (by simp))
  have HO1 := Lib.hid (show ex1.Ok from HO.out.latch 165)
  have HO2 := Lib.hid (show ex2.Ok from HO1.out.write 67 (by decide))
  go_enter Try.func8, Try.ntmps8
  go_wp2_with fail
  refine (made_any 1 none 0 0 w.heap.size [] w (Nums.nil _ _ _ _) (Nat.le_refl _) (by omega) (by omega)).mono ?_
  rintro e w1 ⟨v, rfl, p, d, cap, rfl, hc, hp, hd, hb⟩
  have HC := Lib.hid (show ChipAt w1 p d cap ex0 from hc)
  have HP := Lib.hid hp
  have HD := Lib.hid hd
  have HB1 := Lib.hid hb
  clear hc hp hd hb
  go_wp2_with fail
  refine (write_any w1 p d cap ex0 3 7 HC.out HO.out).mono ?_
  rintro e w2 ⟨rfl, hz⟩
  rw [show ex0.op = false from rfl]
  have Z1 := Lib.hid (show Went p d cap ex0 w1 w2 from hz)
  clear hz
  go_wp2_with fail
  refine (latch_any w2 p d cap ex0 165 Z1.out.1).mono ?_
  rintro e w3 ⟨rfl, hz⟩
  have Z2 := Lib.hid (Z1.out.then_ (show Went p d cap ex1 w2 w3 from hz))
  clear hz
  go_wp2_with fail
  refine (write_any w3 p d cap ex1 67 7 Z2.out.1 HO1.out).mono ?_
  rintro e w4 ⟨rfl, hz⟩
  rw [show ex1.op = true from rfl]
  have Z3 := Lib.hid (Z2.out.then_ (show Went p d cap ex2 w3 w4 from hz))
  clear hz
  go_wp2_with fail
  refine (read_any w4 p d cap ex2 3 Z3.out.1 HO2.out).mono ?_
  rintro e w5 ⟨rfl, n5, rfl⟩
  rw [ex_tell]
  have Z4 := Lib.hid (Z3.out.drewN n5)
  go_wp2_with fail
  refine (locked_any _ p d cap ex2 Z4.out.1).mono ?_
  rintro e w6 ⟨rfl, rfl⟩
  rw [show ex2.op = true from rfl]
  go_wp2_with fail
  go_ret
  exact ⟨rfl, HB1.out.trans (Z4.out.far HP.out HD.out HB1.out.size)⟩
end Go.Proofs.Ytbpdajffkcgcgaa
