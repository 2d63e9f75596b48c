/-
  THE WALK OF (*Chip).hearDevice.
-/
import Derived.Test.YtfcdlnpfneinlaaDoorEMeant
import Derived.BigRegion
namespace Go.Proofs.YtfcdlnpfneinlaaDoor
open Go.RowKit
set_option maxRecDepth 20000

theorem and_one (x : Int) (h0 : 0 ≤ x) (h1 : x ≤ 255) : bits .and .u8 x 1 = x % 2 := by
  obtain ⟨n, rfl⟩ := Int.eq_ofNat_of_zero_le h0
  have : ∀ n : Nat, n < 256 → bits .and .u8 (n : Int) 1 = (n : Int) % 2 := by decide +kernel
  exact this n (by omega)
set_option maxHeartbeats 4000000 in
theorem device_any (w : World) (p : Nat) (F : Nat → Prop) (s : Chip) (n e : Int) (line wp : Bool) (h : ChipAt w p F s) (hok : s.Ok n) (hn : n ≤ 1000000) (he : e = 2 ∨ e = 3 ∨ e = 4) :
    Calls Tryd.prog 43 #[.pointer (some ⟨p, 0, none⟩), nowV e line wp] w (Did p F (s.device e line) w) := by
  have H := Lib.hid h
  have HK := Lib.hid hok
  have HE := Lib.hid he
  have HT := Lib.hid h.tab
  have hsh := hok.shift
  have hct : 0 ≤ s.count ∧ s.count ≤ 1000000 := by have := hok.count; omega
  have HC := Lib.hid hct
  have HS := Lib.hid hsh
  have HB := Lib.hid (h.went.box h.tab (.cells #[.int .i64 e, .bool line, .bool wp] 72))
  clear h hok he hct hsh
  unfold nowV
  cases hw : s.whole e
  · have HW := Lib.hid hw
    have HR := Lib.hid (show s.device e line = s.hear e line by unfold Chip.device; rw [hw]; rfl)
    clear hw
    go_enter Tryd.func43, Tryd.ntmps43
    go_wp2_with fail
    refine (hear_any _ p _ s e line wp HB.out.1 HE.out HS.out HC.out).mono ?_
    rintro e' w1 ⟨rfl, hz⟩
    have Z := Lib.hid (HB.out.then_ hz HT.out)
    clear hz
    rw [HW.out]
    go_wp2_with fail
    go_end0
    rw [HR.out]
    exact ⟨rfl, Z.out⟩
  · obtain ⟨b, hb⟩ : ∃ b, s.shift = b := ⟨_, rfl⟩
    have HW := Lib.hid hw
    have hh : s.hear e line = { s with count := 0 } := by
      have : e = 4 ∧ s.count = 8 := by simpa [Chip.whole] using hw
      unfold Chip.hear
      rw [if_neg (by omega), if_pos this]
    have HH := Lib.hid hh
    have HM := Lib.hid (show Chip.meant { s with count := 0 } b = s.meant b from rfl)
    have hb01 := HS.out
    rw [hb] at hb01
    obtain ⟨hb0, hb1⟩ := hb01
    have HD := Lib.hid hb
    cases hm : s.meant b
    · have HR := Lib.hid (show s.device e line = ({ s with count := 0 } : Chip).rest by unfold Chip.device; rw [hw, hb, hm]; rfl)
      have HN := Lib.hid hm
      clear hw hh hb hm
      go_enter Tryd.func43, Tryd.ntmps43
      go_wp2_with fail
      refine (hear_any _ p _ s e line wp HB.out.1 HE.out HS.out HC.out).mono ?_
      rintro e' w1 ⟨rfl, hz⟩
      rw [HH.out] at hz
      have Z := Lib.hid (HB.out.then_ hz HT.out)
      clear hz
      rw [HW.out, HD.out]
      go_wp2_with fail
      refine (meant_any w1 p _ _ b Z.out.1 HK.out.kind hb0 hb1).mono ?_
      rintro e' w2 ⟨rfl, hz⟩
      rw [HM.out, HN.out]
      have Z2 := Lib.hid (Z.out.calm hz HT.out)
      clear hz
      go_wp2_with fail
      refine (rest_any w2 p _ _ Z2.out.1).mono ?_
      rintro e' w3 ⟨rfl, hz⟩
      have Z3 := Lib.hid (Z2.out.then_ hz HT.out)
      clear hz
      go_wp2_with fail
      go_end0
      rw [HR.out]
      exact ⟨rfl, Z3.out⟩
    · have HN := Lib.hid hm
      have ha1 := and_one b hb0 hb1
      by_cases hev : b % 2 = 0
      · have HR := Lib.hid (show s.device e line = ({ s with count := 0, block := b / 2 % 8, address := 0, missing := gcol s.kind 2 } : Chip).ack 2 by unfold Chip.device; rw [hw, hb, hm, hev]; rfl)
        have hev' : (bits .and .u8 b 1 == 0) = true := by rw [ha1, hev]; rfl
        clear hw hh hb hm hev ha1
        go_enter Tryd.func43, Tryd.ntmps43
        go_wp2_with fail
        refine (hear_any _ p _ s e line wp HB.out.1 HE.out HS.out HC.out).mono ?_
        rintro e' w1 ⟨rfl, hz⟩
        rw [HH.out] at hz
        have Z := Lib.hid (HB.out.then_ hz HT.out)
        clear hz
        rw [HW.out, HD.out]
        go_wp2_with fail
        refine (meant_any w1 p _ _ b Z.out.1 HK.out.kind hb0 hb1).mono ?_
        rintro e' w2 ⟨rfl, hz⟩
        rw [HM.out, HN.out]
        have Z2 := Lib.hid (Z.out.calm hz HT.out)
        clear hz
        obtain ⟨d, cap, l, cm, wm, hin⟩ := Z2.out.1
        have HI := Lib.hid hin
        have c0 := hin.blk.cell 0
        have c8 := hin.blk.cell 8
        have f8 := hin.blk.frozen 8
        simp only [cellsOf, List.getElem?_toArray, List.getElem?_cons_zero, List.getElem?_cons_succ] at c0 c8
        clear hin
        go_wp2_with fail
        refine (block_any b _ hb0 hb1).mono ?_
        rintro e' w2' ⟨rfl, rfl⟩
        go_wp2_with fail
        have Z3 := Lib.hid (Z2.out.then_ (HI.out.sets (cm' := cm) [(8, .int .i64 (b / 2 % 8))] { s with count := 0, block := b / 2 % 8 } rfl rfl rfl rfl (.inl ⟨rfl, rfl, rfl⟩)) HT.out)
        simp only [List.foldl] at Z3
        clear HI c0 c8 f8
        generalize w2.setCell ⟨p, 8, none⟩ (.int .i64 (b / 2 % 8)) = w3 at *
        refine (wide_any s.kind _ _ w3 (On.start Z3.out.1.tab) rfl).mono ?_
        rintro e' w4 ⟨rfl, hz⟩
        have Z4 := Lib.hid (Z3.out.calm hz.bel HT.out)
        clear hz
        obtain ⟨d', cap', l', cm', wm', hin⟩ := Z4.out.1
        have HI := Lib.hid hin
        have c9 := hin.blk.cell 9
        have c10 := hin.blk.cell 10
        have f9 := hin.blk.frozen 9
        have f10 := hin.blk.frozen 10
        simp only [cellsOf, List.getElem?_toArray, List.getElem?_cons_zero, List.getElem?_cons_succ] at c9 c10
        clear hin
        have hmf : ∀ (fn : Fn) (first cap : Array Value) (w : World), (Instr.makeFunc fn first cap).run Tryd.prog w = .ok (.func fn first cap) w := fun _ _ _ _ => rfl
        go_wp2_with fail
        have Z5 := Lib.hid (Z4.out.then_ (HI.out.sets (cm' := cm') [(9, .int .i64 0), (10, .int .i64 (gcol s.kind 2))] { s with count := 0, block := b / 2 % 8, address := 0, missing := gcol s.kind 2 } rfl rfl rfl rfl (.inl ⟨rfl, rfl, rfl⟩)) HT.out)
        simp only [List.foldl] at Z5
        refine (ack_any _ p _ _ 2 (by decide) Z5.out.1).mono ?_
        rintro e' w5 ⟨rfl, hz⟩
        have Z6 := Lib.hid (Z5.out.then_ hz HT.out)
        clear hz Z5 HI c9 c10 f9 f10
        go_wp2_with fail
        go_end0
        rw [HR.out]
        exact ⟨rfl, Z6.out⟩
      · have hev' : (bits .and .u8 b 1 == 0) = false := by rw [ha1]; simp; omega
        obtain ⟨x, hx⟩ : ∃ x, s.pointer = x := ⟨_, rfl⟩
        have hx01 := HK.out.ptr
        have hxs := HK.out.pos
        rw [hx] at hx01
        have hx0 : 0 ≤ x := hx01.1
        have hx1 : x < 65536 := by omega
        have HX := Lib.hid hx
        by_cases hpos : 0 < gcol s.kind 3
        · have HR := Lib.hid (show s.device e line = ({ s with count := 0, block := b / 2 % 8, pointer := x % 256 + b / 2 % 8 * 256 } : Chip).ack 5 by unfold Chip.device; rw [hw, hb, hm, hx]; simp [hev, hpos])
          have hpos' : decide (0 < gcol s.kind 3) = true := decide_eq_true hpos
          clear hw hh hb hm hev ha1 hx hx01 hxs hpos
          go_enter Tryd.func43, Tryd.ntmps43
          go_wp2_with fail
          refine (hear_any _ p _ s e line wp HB.out.1 HE.out HS.out HC.out).mono ?_
          rintro e' w1 ⟨rfl, hz⟩
          rw [HH.out] at hz
          have Z := Lib.hid (HB.out.then_ hz HT.out)
          clear hz
          rw [HW.out, HD.out]
          go_wp2_with fail
          refine (meant_any w1 p _ _ b Z.out.1 HK.out.kind hb0 hb1).mono ?_
          rintro e' w2 ⟨rfl, hz⟩
          rw [HM.out, HN.out]
          have Z2 := Lib.hid (Z.out.calm hz HT.out)
          clear hz
          obtain ⟨d, cap, l, cm, wm, hin⟩ := Z2.out.1
          have HI := Lib.hid hin
          have c0 := hin.blk.cell 0
          have c8 := hin.blk.cell 8
          have f8 := hin.blk.frozen 8
          simp only [cellsOf, List.getElem?_toArray, List.getElem?_cons_zero, List.getElem?_cons_succ] at c0 c8
          clear hin
          go_wp2_with fail
          refine (block_any b _ hb0 hb1).mono ?_
          rintro e' w2' ⟨rfl, rfl⟩
          go_wp2_with fail
          have Z3 := Lib.hid (Z2.out.then_ (HI.out.sets (cm' := cm) [(8, .int .i64 (b / 2 % 8))] { s with count := 0, block := b / 2 % 8 } rfl rfl rfl rfl (.inl ⟨rfl, rfl, rfl⟩)) HT.out)
          simp only [List.foldl] at Z3
          clear HI c0 c8 f8
          generalize w2.setCell ⟨p, 8, none⟩ (.int .i64 (b / 2 % 8)) = w3 at *
          refine (blocks_any s.kind _ _ w3 (On.start Z3.out.1.tab) rfl).mono ?_
          rintro e' w4 ⟨rfl, hz⟩
          have Z4 := Lib.hid (Z3.out.calm hz.bel HT.out)
          clear hz
          obtain ⟨d', cap', l', cm', wm', hin⟩ := Z4.out.1
          have HI := Lib.hid hin
          have c8 := hin.blk.cell 8
          have c11 := hin.blk.cell 11
          have f11 := hin.blk.frozen 11
          simp only [cellsOf, List.getElem?_toArray, List.getElem?_cons_zero, List.getElem?_cons_succ] at c8 c11
          rw [HX.out] at c11
          clear hin
          have hmf : ∀ (fn : Fn) (first cap : Array Value) (w : World), (Instr.makeFunc fn first cap).run Tryd.prog w = .ok (.func fn first cap) w := fun _ _ _ _ => rfl
          go_wp2_with fail
          go_region
          have Z5 := Lib.hid ((Z4.out.then_ (HI.out.sets (cm' := cm') [(11, .int .i64 (x % 256 + b / 2 % 8 * 256))] { s with count := 0, block := b / 2 % 8, pointer := x % 256 + b / 2 % 8 * 256 } rfl rfl rfl rfl (.inl ⟨rfl, rfl, rfl⟩)) HT.out).calm (below_drew _) HT.out)
          simp only [List.foldl] at Z5
          clear HI c8 c11 f11
          go_wp2_with fail
          refine (ack_any _ p _ _ 5 (by decide) Z5.out.1).mono ?_
          rintro e' w5 ⟨rfl, hz⟩
          have Z6 := Lib.hid (Z5.out.then_ hz HT.out)
          clear hz Z5
          go_wp2_with fail
          go_end0
          rw [HR.out]
          exact ⟨rfl, Z6.out⟩
        · have HR := Lib.hid (show s.device e line = ({ s with count := 0, block := b / 2 % 8 } : Chip).ack 5 by unfold Chip.device; rw [hw, hb, hm, hx]; simp [hev, hpos, ← hx])
          have hpos' : decide (0 < gcol s.kind 3) = false := decide_eq_false hpos
          clear hw hh hb hm hev ha1 hx hx01 hxs hpos
          go_enter Tryd.func43, Tryd.ntmps43
          go_wp2_with fail
          refine (hear_any _ p _ s e line wp HB.out.1 HE.out HS.out HC.out).mono ?_
          rintro e' w1 ⟨rfl, hz⟩
          rw [HH.out] at hz
          have Z := Lib.hid (HB.out.then_ hz HT.out)
          clear hz
          rw [HW.out, HD.out]
          go_wp2_with fail
          refine (meant_any w1 p _ _ b Z.out.1 HK.out.kind hb0 hb1).mono ?_
          rintro e' w2 ⟨rfl, hz⟩
          rw [HM.out, HN.out]
          have Z2 := Lib.hid (Z.out.calm hz HT.out)
          clear hz
          obtain ⟨d, cap, l, cm, wm, hin⟩ := Z2.out.1
          have HI := Lib.hid hin
          have c0 := hin.blk.cell 0
          have c8 := hin.blk.cell 8
          have f8 := hin.blk.frozen 8
          simp only [cellsOf, List.getElem?_toArray, List.getElem?_cons_zero, List.getElem?_cons_succ] at c0 c8
          clear hin
          go_wp2_with fail
          refine (block_any b _ hb0 hb1).mono ?_
          rintro e' w2' ⟨rfl, rfl⟩
          go_wp2_with fail
          have Z3 := Lib.hid (Z2.out.then_ (HI.out.sets (cm' := cm) [(8, .int .i64 (b / 2 % 8))] { s with count := 0, block := b / 2 % 8 } rfl rfl rfl rfl (.inl ⟨rfl, rfl, rfl⟩)) HT.out)
          simp only [List.foldl] at Z3
          clear HI c0 c8 f8
          generalize w2.setCell ⟨p, 8, none⟩ (.int .i64 (b / 2 % 8)) = w3 at *
          refine (blocks_any s.kind _ _ w3 (On.start Z3.out.1.tab) rfl).mono ?_
          rintro e' w4 ⟨rfl, hz⟩
          have Z4 := Lib.hid (Z3.out.calm hz.bel HT.out)
          clear hz
          have hmf : ∀ (fn : Fn) (first cap : Array Value) (w : World), (Instr.makeFunc fn first cap).run Tryd.prog w = .ok (.func fn first cap) w := fun _ _ _ _ => rfl
          go_wp2_with fail
          refine (ack_any _ p _ _ 5 (by decide) Z4.out.1).mono ?_
          rintro e' w5 ⟨rfl, hz⟩
          have Z6 := Lib.hid (Z4.out.then_ hz HT.out)
          clear hz
          go_wp2_with fail
          go_end0
          rw [HR.out]
          exact ⟨rfl, Z6.out⟩
end Go.Proofs.YtfcdlnpfneinlaaDoor
