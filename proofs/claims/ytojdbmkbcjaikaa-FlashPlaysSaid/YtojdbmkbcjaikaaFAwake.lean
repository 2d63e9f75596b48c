/-
  THE WALK OF keepsakelaw11.awake.
-/
import Derived.Test.YtojdbmkbcjaikaaFLaw
namespace Go.Proofs.Ytojdbmkbcjaikaa
open Go.RowKit
set_option maxRecDepth 20000

def ex0 : Flash := made 1 [255]
def ex1 : Flash := ex0.puts (programW 7 15 (by decide) (by decide))
def ex2 : Flash := ex1.ticks 10
theorem ex_left : ex1.left = 10 := by decide +kernel
theorem ex_tell7 : ex2.tell 7 = 15 := by decide +kernel
theorem ex_tell8 : ex2.read.tell 8 = 255 := by decide +kernel
theorem ex_end : ex2.read.read.left = 0 := by decide +kernel
set_option maxRecDepth 100000 in
set_option maxHeartbeats 4000000 in
theorem awake_any (w : World) : Calls Try.prog 11 #[] w fun e w' => e = .returned (.bool true) ∧ Below w.heap.size w w' := by
  have HN := Lib.hid (show Nums .u8 (w.alloc (.cells #[.int .u8 255] 5)) (w.heap.size + 1) (some ⟨w.heap.size, 0, none⟩) 1 [255] from ⟨rfl, by decide, fun _ => ⟨_, 0, rfl, by omega, fun i hi => by
    obtain rfl : i = 0 := by omega
    exact (Blk.new w 5 #[.int .u8 255]).cell 0⟩⟩)
  have HO := Lib.hid (show ex0.Ok from made_ok (by decide) (by decide))
  have HB := Lib.hid (below_box w (.cells #[.int .u8 255] 5))
  go_enter Try.func11, Try.ntmps11
  go_wp2_with fail
  refine (made_any 1 _ 1 1 _ [255] _ HN.out (by simp) (by omega) (by omega)).mono ?_
  rintro e w1 ⟨v, rfl, p, d, cap, rfl, hc, hp, hd, hb⟩
  have HC := Lib.hid (show ChipAt w1 p d cap ex0 from hc)
  have HP := Lib.hid hp
  have HD := Lib.hid hd
  have HB1 := Lib.hid (HB.out.trans (hb.mono (by simp)))
  have HLT := Lib.hid hc.lt
  clear hc hp hd hb
  go_wp2_with fail
  refine (program_put w1 7 15 (by decide) (by decide)).mono ?_
  rintro e w2 ⟨b, rfl, hb0, hm, hb2⟩
  have HB0 := Lib.hid hb0
  have HM := Lib.hid hm
  have HB2 := Lib.hid hb2
  clear hb0 hm hb2
  go_wp2_with fail
  refine (puts_any w2 p d cap ex0 _ _ _ _ _ (HC.out.below HB2.out) HO.out HM.out (Nat.le_refl _) (Off.new (by have := HB0.out; have := HLT.out; omega) (by have := HB0.out; have := HLT.out; omega)) (by decide)).mono ?_
  rintro e w3 ⟨rfl, hz⟩
  have Z1 := Lib.hid (show Went p d cap ex1 w2 w3 from hz)
  have HO1 := Lib.hid (show ex1.Ok from puts_ok _ HO.out)
  clear hz
  go_wp2_with fail
  refine (left_any w3 p d cap ex1 Z1.out.1).mono ?_
  rintro e w4 ⟨rfl, rfl⟩
  rw [ex_left]
  go_wp2_with fail
  refine (ticks_any w3 p d cap ex1 10 Z1.out.1 HO1.out (by omega)).mono ?_
  rintro e w4 ⟨rfl, hz⟩
  have Z2 := Lib.hid (Z1.out.then_ (show Went p d cap ex2 w3 w4 from hz))
  have HO2 := Lib.hid (show ex2.Ok from ticks_ok _ HO1.out)
  clear hz
  go_wp2_with fail
  refine (read_any w4 p d cap ex2 7 Z2.out.1 HO2.out).mono ?_
  rintro e w5 ⟨rfl, hz⟩
  rw [ex_tell7]
  have Z3 := Lib.hid (Z2.out.then_ hz)
  clear hz
  go_wp2_with fail
  refine (read_any w5 p d cap ex2.read 8 Z3.out.1 HO2.out.read).mono ?_
  rintro e w6 ⟨rfl, hz⟩
  rw [ex_tell8]
  have Z4 := Lib.hid (Z3.out.then_ hz)
  clear hz
  go_wp2_with fail
  refine (left_any w6 p d cap ex2.read.read Z4.out.1).mono ?_
  rintro e w7 ⟨rfl, rfl⟩
  rw [ex_end]
  go_wp2_with fail
  go_ret
  have s1 := HB1.out.size
  have s2 := HB2.out.size
  refine ⟨rfl, HB1.out.trans ((HB2.out.mono s1).trans (Z4.out.2.below (fun b hb => ?_) (by omega)))⟩
  have q1 := HP.out
  have q2 := HD.out
  simp only [World.size_alloc] at q1 q2
  rcases hb with rfl | rfl <;> omega
end Go.Proofs.Ytojdbmkbcjaikaa
