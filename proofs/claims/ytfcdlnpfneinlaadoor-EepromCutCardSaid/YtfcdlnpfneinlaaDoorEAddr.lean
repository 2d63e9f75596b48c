/-
  THE WALK OF (*Chip).hearAddress.
-/
import Derived.Test.YtfcdlnpfneinlaaDoorEDev
import Derived.Laws.BitsAllLaws
namespace Go.Proofs.YtfcdlnpfneinlaaDoor
open Go.RowKit
set_option maxRecDepth 20000

theorem or_i64 (y x : Int) (h0 : 0 ≤ y) (h1 : y < 16777216) (hx : 0 ≤ x ∧ x ≤ 255) : bits .or .i64 (y * 256) x = y * 256 + x := by
  obtain ⟨a, ha⟩ := Int.eq_ofNat_of_zero_le (show 0 ≤ y * 256 by omega)
  obtain ⟨b, hb⟩ := Int.eq_ofNat_of_zero_le hx.1
  rw [ha, hb]
  show IntKind.i64.wrap ((BitVec.ofInt 64 (a : Int) ||| BitVec.ofInt 64 (b : Int)).toNat : Int) = _
  rw [BitVec.toNat_or, ofInt_u64 a (by omega), ofInt_u64 b (by omega), nat_join8 _ _ (by omega) (by omega), IntKind.wrap_i64]
  omega
set_option maxHeartbeats 4000000 in
theorem addr_any (w : World) (p : Nat) (F : Nat → Prop) (s : Chip) (n e : Int) (line wp : Bool) (h : ChipAt w p F s) (hok : s.Ok n) (hx : s.nx = 2) (hn : n ≤ 1000000) (he : e = 2 ∨ e = 3 ∨ e = 4) :
    Calls Tryd.prog 63 #[.pointer (some ⟨p, 0, none⟩), nowV e line wp] w (Did p F (s.addr e line) w) := by
  have H := Lib.hid h
  have HK := Lib.hid hok
  have HE := Lib.hid he
  have HT := Lib.hid h.tab
  have hct : 0 ≤ s.count ∧ s.count ≤ 1000000 := by have := hok.count; omega
  have HC := Lib.hid hct
  have HS := Lib.hid hok.shift
  have HA := Lib.hid (hok.hears (.inl hx))
  have HB := Lib.hid (h.went.box h.tab (.cells #[.int .i64 e, .bool line, .bool wp] 72))
  clear h hok he hct hx
  unfold nowV
  cases hw : s.whole e
  · have HW := Lib.hid hw
    have HR := Lib.hid (show s.addr e line = s.hear e line by unfold Chip.addr; rw [hw]; rfl)
    clear hw
    go_enter Tryd.func63, Tryd.ntmps63
    go_wp2_with fail
    refine (hear_any _ p _ s e line wp HB.out.1 HE.out HS.out HC.out).mono ?_
    rintro e' w1 ⟨rfl, hz⟩
    have Z := Lib.hid (HB.out.then_ hz HT.out)
    clear hz
    rw [HW.out]
    go_wp2_with fail
    go_end0
    rw [HR.out]
    exact ⟨rfl, Z.out⟩
  · obtain ⟨b, hb⟩ : ∃ b, s.shift = b := ⟨_, rfl⟩
    obtain ⟨a, ha⟩ : ∃ a, s.address = a := ⟨_, rfl⟩
    obtain ⟨m, hm⟩ : ∃ m, s.missing = m := ⟨_, rfl⟩
    have HW := Lib.hid hw
    have hh : s.hear e line = { s with count := 0 } := by
      have : e = 4 ∧ s.count = 8 := by simpa [Chip.whole] using hw
      unfold Chip.hear
      rw [if_neg (by omega), if_pos this]
    have HH := Lib.hid hh
    have hb01 := HS.out
    have ha01 := HA.out
    have ha00 := HK.out.addr
    rw [hb] at hb01
    rw [ha, hm] at ha01
    rw [ha] at ha00
    obtain ⟨hb0, hb1⟩ := hb01
    obtain ⟨ha1, ha2⟩ := ha01
    have ha0 := ha00.1
    have HD := Lib.hid hb
    have HAE := Lib.hid ha
    have HME := Lib.hid hm
    by_cases hmo : m = 2
    · subst hmo
      have HR := Lib.hid (show s.addr e line = ({ s with count := 0, address := a * 256 + b, missing := 1 } : Chip).ack 2 by unfold Chip.addr; rw [hw, hb, ha, hm]; rfl)
      clear hw hh hb ha hm ha00 ha2
      go_enter Tryd.func63, Tryd.ntmps63
      go_wp2_with fail
      refine (hear_any _ p _ s e line wp HB.out.1 HE.out HS.out HC.out).mono ?_
      rintro e' w1 ⟨rfl, hz⟩
      rw [HH.out] at hz
      have Z := Lib.hid (HB.out.then_ hz HT.out)
      clear hz
      rw [HW.out, HD.out]
      obtain ⟨d, cap, l, cm, wm, hin⟩ := Z.out.1
      have HI := Lib.hid hin
      have c9 := hin.blk.cell 9
      have c10 := hin.blk.cell 10
      have f9 := hin.blk.frozen 9
      have f10 := hin.blk.frozen 10
      simp only [cellsOf, List.getElem?_toArray, List.getElem?_cons_zero, List.getElem?_cons_succ] at c9 c10
      rw [HAE.out] at c9
      rw [HME.out] at c10
      clear hin
      have hor := or_i64 a b ha0 (by omega) ⟨hb0, hb1⟩
      have hmf : ∀ (fn : Fn) (first cap : Array Value) (w : World), (Instr.makeFunc fn first cap).run Tryd.prog w = .ok (.func fn first cap) w := fun _ _ _ _ => rfl
      go_wp2_with fail
      have Z5 := Lib.hid (Z.out.then_ (HI.out.sets (cm' := cm) [(9, .int .i64 (a * 256 + b)), (10, .int .i64 1)] { s with count := 0, address := a * 256 + b, missing := 1 } rfl rfl rfl rfl (.inl ⟨rfl, rfl, rfl⟩)) HT.out)
      simp only [List.foldl] at Z5
      refine (ack_any _ p _ _ 2 (by decide) Z5.out.1).mono ?_
      rintro e' w5 ⟨rfl, hz⟩
      have Z6 := Lib.hid (Z5.out.then_ hz HT.out)
      clear hz Z5 HI c9 c10 f9 f10
      go_wp2_with fail
      go_end0
      rw [HR.out]
      exact ⟨rfl, Z6.out⟩
    · obtain rfl : m = 1 := by omega
      obtain ⟨x, hx⟩ : ∃ x, s.block = x := ⟨_, rfl⟩
      obtain ⟨z, hz⟩ : ∃ z, s.data.length = z := ⟨_, rfl⟩
      have hx01 := HK.out.block
      have hz01 := HK.out.pos
      unfold Chip.size at hz01
      rw [hx] at hx01
      rw [hz] at hz01
      obtain ⟨hx0, hx1⟩ := hx01
      obtain ⟨hz0, hz1⟩ := hz01
      have HX := Lib.hid hx
      have HZ := Lib.hid hz
      have HR := Lib.hid (show s.addr e line = ({ s with count := 0, address := a * 256 + b, missing := 0, pointer := (a * 256 + b + x * 256) % z } : Chip).ack 3 by unfold Chip.addr Chip.size; rw [hw, hb, ha, hm, hx, hz]; rfl)
      clear hw hh hb hmo ha hm ha00 ha2 hx hz
      go_enter Tryd.func63, Tryd.ntmps63
      go_wp2_with fail
      refine (hear_any _ p _ s e line wp HB.out.1 HE.out HS.out HC.out).mono ?_
      rintro e' w1 ⟨rfl, hz⟩
      rw [HH.out] at hz
      have Z := Lib.hid (HB.out.then_ hz HT.out)
      clear hz
      rw [HW.out, HD.out]
      obtain ⟨d, cap, l, cm, wm, hin⟩ := Z.out.1
      have HI := Lib.hid hin
      have c9 := hin.blk.cell 9
      have c10 := hin.blk.cell 10
      have f9 := hin.blk.frozen 9
      have f10 := hin.blk.frozen 10
      have c1 := hin.blk.cell 1
      have c8 := hin.blk.cell 8
      have c11 := hin.blk.cell 11
      have f11 := hin.blk.frozen 11
      simp only [cellsOf, List.getElem?_toArray, List.getElem?_cons_zero, List.getElem?_cons_succ] at c1 c8 c9 c10 c11
      rw [HAE.out] at c9
      rw [HME.out] at c10
      rw [HX.out] at c8
      rw [HZ.out] at c1
      clear hin
      have hor := or_i64 a b ha0 (by omega) ⟨hb0, hb1⟩
      have hmf : ∀ (fn : Fn) (first cap : Array Value) (w : World), (Instr.makeFunc fn first cap).run Tryd.prog w = .ok (.func fn first cap) w := fun _ _ _ _ => rfl
      go_wp2_with fail
      go_region
      have Z5 := Lib.hid ((Z.out.then_ (HI.out.sets (cm' := cm) [(9, .int .i64 (a * 256 + b)), (10, .int .i64 0), (11, .int .i64 ((a * 256 + b + x * 256) % z))] { s with count := 0, address := a * 256 + b, missing := 0, pointer := (a * 256 + b + x * 256) % z } rfl rfl rfl rfl (.inl ⟨rfl, rfl, rfl⟩)) HT.out).calm (below_drew _) HT.out)
      simp only [List.foldl] at Z5
      clear HI c1 c8 c9 c10 c11 f9 f10 f11
      go_wp2_with fail
      refine (ack_any _ p _ _ 3 (by decide) Z5.out.1).mono ?_
      rintro e' w5 ⟨rfl, hz⟩
      have Z6 := Lib.hid (Z5.out.then_ hz HT.out)
      clear hz Z5
      go_wp2_with fail
      go_end0
      rw [HR.out]
      exact ⟨rfl, Z6.out⟩
end Go.Proofs.YtfcdlnpfneinlaaDoor
