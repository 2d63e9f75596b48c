/-
  THE WALK OF keepsakelaw10.awake.
-/
import Derived.Test.YtfcdlnpfneinlaaDoorEAim
import Derived.Test.YtfcdlnpfneinlaaDoorENew
import Derived.Test.YtfcdlnpfneinlaaDoorEFill
namespace Go.Proofs.YtfcdlnpfneinlaaDoor
open Go.RowKit
set_option maxRecDepth 20000

/-- the example's chip: written, and when it was busy long enough -/
def exA : Chip := (fresh 1 (List.replicate 128 0)).aim 1 5
def exB : Chip := exA.put 42
def exC : Chip := exB.steps false endL
def exD : Chip := exC.idles 50
theorem ex_n : (fresh 1 (List.replicate 128 0)).aimN 1 5 = 2 := by decide +kernel
theorem ex_a : exA.acks 42 = 1 := by decide +kernel
theorem ex_left : exC.left = 50 := by decide +kernel
theorem ex_left0 : exD.left = 0 := by decide +kernel
theorem ex_ptr : exD.pointer = 6 := by decide +kernel
theorem ex_five : exD.data.getD 5 0 = 42 := by decide +kernel
theorem ex_len : exD.data.length = 128 := by decide +kernel
set_option maxRecDepth 100000 in
set_option maxHeartbeats 4000000 in
theorem awake_any (w : World) (hT : Tab w) : Calls Tryd.prog 10 #[] w fun e w' => e = .returned (.bool true) ∧ Below w.heap.size w w' := by
  have HT := Lib.hid hT
  have hmb : (Instr.makeSlice 22 (.int .i64 128) (.int .i64 128)).run Tryd.prog w = _ := make_bytes 128 (by omega) w
  have HO := Lib.hid (made_own w 128 (by omega))
  have HB0 := Lib.hid (below_box w (.cells (madeCells #[Value.int .u8 0] 128) 5))
  have HT0 := Lib.hid (tab_below hT HB0.out (tab_pos hT))
  have HK := Lib.hid (show Chip.Ok 0 (fresh 1 (List.replicate 128 0)) from fresh_ok 1 _ (by omega) (by decide) (fun v hv => by rw [List.mem_replicate] at hv; omega))
  clear hT
  go_enter Tryd.func10, Tryd.ntmps10
  go_wp2_with fail
  generalize w.alloc (.cells (madeCells #[Value.int .u8 0] 128) 5) = w0 at *
  have hnum := HO.out.nums_at (fun v hv => by rw [List.mem_replicate] at hv; exact byte_wf (by omega))
  have HN := Lib.hid hnum.1
  clear hnum
  refine (newChip_ok 1 _ 128 128 w0.heap.size (List.replicate 128 0) w0 HT0.out HN.out (Nat.le_refl _) (by omega) (by decide)).mono ?_
  rintro e w1 ⟨p, rfl, hc, hb⟩
  have HC := Lib.hid hc
  have HB1 := Lib.hid (HB0.out.trans (hb.mono HB0.out.size))
  clear hc hb
  go_wp2_with fail
  have HF := Lib.hid (show ∀ b, NewF w0 w1 b → w.heap.size ≤ b from fun b hb => Nat.le_trans HB0.out.size hb.1)
  have HT1 := Lib.hid HC.out.tab
  refine (aim_any w1 p _ _ 0 1 5 HC.out HK.out rfl (by omega) (by omega) (by omega) (by omega) (by decide)).mono ?_
  rintro e w2 ⟨rfl, hz⟩
  rw [ex_n]
  have Z2 := Lib.hid (show Went p (NewF w0 w1) exA w1 w2 from hz)
  have HA := Lib.hid (show exA.Ok 85 from by have := aim_ok 1 5 HK.out (by omega); rwa [Int.zero_add] at this)
  have HJA := Lib.hid (show exA.join = false from aim_join _ _ rfl)
  clear hz
  go_wp2_with fail
  refine (put_any w2 p _ exA 85 42 Z2.out.1 HA.out HJA.out (by omega) (by omega) (by omega) (by omega)).mono ?_
  rintro e w3 ⟨rfl, hz⟩
  rw [ex_a]
  have Z3 := Lib.hid (show Went p (NewF w0 w1) exB w1 w3 from Z2.out.then_ hz HT1.out)
  have HA3 := Lib.hid (show exB.Ok 112 from put_ok 42 HA.out (by omega))
  have HJ3 := Lib.hid (show exB.join = false from put_join _ HJA.out)
  clear hz
  go_wp2_with fail
  refine (end_any w3).mono ?_
  rintro e w4 ⟨v, rfl, ho, hb⟩
  obtain ⟨A, c, rfl⟩ := ho.form
  have HL := Lib.hid ho
  have HS := Lib.hid (beside Z3.out.1 ho)
  have HC4 := Lib.hid (Z3.out.1.below hb)
  have HB4 := Lib.hid hb
  clear ho hb
  go_wp2_with fail
  refine (stepsLaw_any w4 p _ exB 112 A endL.length c _ _ endL false HC4.out HA3.out HJ3.out (by omega) HL.out HS.out rfl (by decide)).mono ?_
  rintro e w5 ⟨rfl, hz⟩
  have Z5 := Lib.hid (show Went p (NewF w0 w1) exC w1 w5 from Z3.out.then_ (Went.after HB4.out hz Z3.out.1.tab) HT1.out)
  have HA5 := Lib.hid (show exC.Ok 115 from steps_ok false endL HA3.out (by omega))
  have HJ5 := Lib.hid (show exC.join = false from steps_join _ _ HJ3.out)
  clear hz
  go_wp2_with fail
  refine (left_any w5 p _ exC Z5.out.1).mono ?_
  rintro e w6 ⟨rfl, rfl⟩
  rw [ex_left]
  go_wp2_with fail
  refine (idles_any w5 p _ exC 115 50 Z5.out.1 HA5.out HJ5.out (by omega) (by omega)).mono ?_
  rintro e w6 ⟨rfl, hz⟩
  have Z6 := Lib.hid (show Went p (NewF w0 w1) exD w1 w6 from Z5.out.then_ hz HT1.out)
  have HA6 := Lib.hid (show exD.Ok 165 from idles_ok 50 HA5.out (by omega))
  clear hz
  go_wp2_with fail
  refine (bytes_any w6 p _ exD 165 Z6.out.1 HA6.out).mono ?_
  rintro e w7 ⟨v, rfl, hv, hb⟩
  obtain ⟨A7, c7, rfl, _, hm⟩ := hv.mine
  obtain ⟨g, rfl, hg1, hg2, hgc⟩ := hm.2 (by rw [ex_len]; omega)
  have c5 := (hgc 5 (by rw [ex_len]; omega)).1
  rw [ex_five] at c5
  rw [ex_len]
  have Z7 := Lib.hid (Z6.out.calm hb HT1.out)
  have HB7 := Lib.hid (HB1.out.trans (Z7.out.far (N := w.heap.size) HF.out HB1.out.size))
  clear hv hb hm hgc
  go_wp2_with fail
  refine (left_any w7 p _ exD Z7.out.1).mono ?_
  rintro e w8 ⟨rfl, rfl⟩
  rw [ex_left0]
  go_wp2_with fail
  refine (pointer_any w7 p _ exD Z7.out.1).mono ?_
  rintro e w8 ⟨rfl, rfl⟩
  rw [ex_ptr]
  go_wp2_with fail
  go_ret
  exact ⟨rfl, HB7.out⟩
end Go.Proofs.YtfcdlnpfneinlaaDoor
