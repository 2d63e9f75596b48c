/-
  THE WALK OF EepromIdle.
-/
import Derived.Test.YtfcdlnpfneinlaaDoorEAwake
import Derived.Test.YtfcdlnpfneinlaaDoorBSame
import Derived.Test.YtfcdlnpfneinlaaDoorEOpenL
import Derived.Deep.RegionHeld3
namespace Go.Proofs.YtfcdlnpfneinlaaDoor
open Go.RowKit
set_option maxRecDepth 20000

/-- a chip that is new, but for its lines -/
def idleC (k : Int) (D : List Int) (v : Lev) : Chip := { fresh k D with lev := v }
theorem idle_step (k : Int) (D : List Int) (v : Lev) (scl sda wp : Bool) (h : tell v (scl, sda) ≠ 1) : (idleC k D v).step scl sda wp = idleC k D (scl, sda) := by
  have hw : (idleC k D v).write = idleC k D v := rfl
  have hl : (sda && !(idleC k D v).pulls) = sda := by simp [idleC, fresh]
  unfold Chip.step
  simp only [hw, hl]
  have he : ({ idleC k D v with lev := (scl, sda) } : Chip) = idleC k D (scl, sda) := rfl
  rw [he]
  show (idleC k D (scl, sda)).event (tell v (scl, sda)) sda wp = _
  have hr : ∀ e, (idleC k D (scl, sda)).run e sda wp = idleC k D (scl, sda) := fun e => rfl
  unfold Chip.event
  rw [if_neg h, hr]
  split
  · rfl
  · split <;> rfl
theorem idle_ok {k : Int} {D : List Int} (v : Lev) (h : Chip.Ok 0 (fresh k D)) : Chip.Ok 0 (idleC k D v) := { h with }
/-- where the loop stands -/
def IdleAt (p q : Nat) (F : Nat → Prop) (k : Int) (D : List Int) (w3 w5 : World) (wr : World) : Prop :=
  ∃ v, ChipAt wr p (Grow F w5 wr) (idleC k D v) ∧ WireAt wr q v ∧ Below w3.heap.size w3 wr ∧ w5.heap.size ≤ wr.heap.size
/-- the wire has gone on -/
theorem idle_wire {p q : Nat} {F : Nat → Prop} {k : Int} {D : List Int} {w3 w5 wr w6 : World} {v x : Lev} (hF : ∀ b, F b → b < q) (hq : q < w5.heap.size) (hq3 : w3.heap.size ≤ q) (hT3 : Tab w3) (hc : ChipAt wr p (Grow F w5 wr) (idleC k D v)) (hb : Below w3.heap.size w3 wr)
    (_ : WireAt w6 q x) (hk : Keeps (fun b => b = q) wr.drew w6) : ChipAt w6 p (Grow F w5 wr) (idleC k D v) ∧ Below w3.heap.size w3 w6 := by
  have hk' : Keeps (fun b => b = q) wr w6 := hk.of_drew
  refine ⟨hc.keeps hk' (fun b hb e => ?_) (fun e => ?_), hb.trans (hk'.below (fun b e => by rw [e]; exact hq3) hb.size)⟩
  · subst e
    rcases hb with h | h
    · exact absurd (hF b h) (by omega)
    · omega
  · have := tab_pos hT3
    omega
/-- the chip has gone on -/
theorem idle_next {p q : Nat} {F : Nat → Prop} {k : Int} {D : List Int} {w3 w5 wr w6 w7 : World} {x : Lev} (hF : ∀ b, F b → b < q) (hF3 : ∀ b, F b → w3.heap.size ≤ b) (hq : q < w5.heap.size) (h35 : w3.heap.size ≤ w5.heap.size) (hs6 : wr.heap.size ≤ w6.heap.size) (h56 : w5.heap.size ≤ wr.heap.size)
    (hT5 : ¬ Grow F w5 w7 0) (hb6 : Below w3.heap.size w3 w6) (hw6 : WireAt w6 q x) (h : Went p (Grow F w5 wr) (idleC k D x) w6.drew w7) : IdleAt p q F k D w3 w5 w7 := by
  obtain ⟨h1, h2⟩ := h
  have h2' : Keeps (Grow F w5 wr) w6 w7 := h2.of_drew
  have hs7 := h2'.size
  refine ⟨x, h1.mono (fun b hb => ?_) (fun b hb => ?_) hT5, hw6.keeps h2' (fun hb => ?_), hb6.trans (h2'.below (fun b hb => ?_) hb6.size), by omega⟩
  · rcases hb with (hb | hb) | hb
    · exact .inl hb
    · exact .inr ⟨hb.1, by omega⟩
    · refine .inr ⟨?_, hb.2⟩
      have : w6.heap.size ≤ b := hb.1
      omega
  · rcases hb with hb | hb
    · exact h1.there b (.inl (.inl hb))
    · exact hb.2
  · rcases hb with h | h
    · exact absurd (hF q h) (by omega)
    · omega
  · rcases hb with h | h
    · exact hF3 b h
    · omega
set_option maxRecDepth 100000 in
set_option maxHeartbeats 8000000 in
theorem eepromIdle_walk (w : World) (a : Int) (wa : (Lit.int .u8 a).wf = true) (A1 : Option Addr) (n1 c1 : Nat) (z1 : List Int) (r1 : IsRow .u8 w A1 n1 c1 z1) (A2 : Option Addr) (n2 c2 : Nat) (l : List Smp) (r2 : Many samE w w.heap.size A2 n2 l ∧ n2 ≤ c2 ∧ n2 ≤ maxLen) (hT : Tab w) :
    Calls Tryd.prog 8 #[.int .u8 a, .slice A1 n1 c1, .slice A2 n2 c2] w fun e w' => e = .returned (.bool true) ∧ Below w.heap.size w w' := by
  have HT := Lib.hid hT
  have ha : 0 ≤ a ∧ a ≤ 255 := by simpa [Lit.wf, IntKind.min, IntKind.max, IntKind.signed, IntKind.bits] using wa
  have HN1 := Lib.hid r1.nums
  have HM2 := Lib.hid r2.1
  have hm1 := r1.len_le.2
  have hm2 := r2.2.2
  unfold maxLen at hm1 hm2
  obtain ⟨ha0, ha1⟩ := ha
  clear hT r1 r2 wa
  obtain ⟨b, hl1⟩ : ∃ l, z1.take n1 = l := ⟨_, rfl⟩
  rw [hl1] at HN1
  clear hl1
  obtain ⟨k, hk⟩ : ∃ k, 1 + a % 5 = k := ⟨_, rfl⟩
  have hk1 : 1 ≤ k := by omega
  have hk5 : k ≤ 5 := by omega
  have HK := Lib.hid (show 1 ≤ k ∧ k ≤ 10 by omega)
  have hks := kind_size HK.out
  obtain ⟨z, hz⟩ : ∃ z : Nat, gcol k 0 = z := ⟨(gcol k 0).toNat, by omega⟩
  have HZ := Lib.hid hz
  have hz0 : 128 ≤ z := by omega
  have hz1 : z ≤ 65536 := by omega
  have hkr : 1 + a % 5 = k := hk
  clear hks hz
  obtain ⟨D, hD⟩ : ∃ D, fillL b z = D := ⟨_, rfl⟩
  have HD := Lib.hid hD
  have HDL := Lib.hid (show D.length = z by rw [← hD, fillL_len])
  have HDB := Lib.hid (show ∀ v ∈ D, 0 ≤ v ∧ v ≤ 255 by rw [← hD]; exact fillL_in z HN1.out.byte)
  have HO := Lib.hid (show Chip.Ok 0 (fresh k D) from fresh_ok k D HK.out (by rw [HDL.out, HZ.out]) HDB.out)
  clear hD
  by_cases hb1 : n1 ≤ 40
  · have hb1' : decide (40 < (n1 : Int)) = false := decide_eq_false (by omega)
    by_cases hb2 : n2 ≤ 400
    · have hb2' : decide (400 < (n2 : Int)) = false := decide_eq_false (by omega)
      go_enter Tryd.func8, Tryd.ntmps8
      go_wp2_with fail
      refine (awake_any w HT.out).mono ?_
      rintro e w1 ⟨rfl, hb⟩
      have HB1 := Lib.hid hb
      have HT1 := Lib.hid (tab_below HT.out hb (tab_pos HT.out))
      clear hb
      go_wp2_with fail
      refine (refEeprom_any k z w1 w1 (On.start HT1.out) HZ.out).mono ?_
      rintro e w2 ⟨rfl, hb⟩
      have HB2 := Lib.hid (HB1.out.trans (hb.bel.mono HB1.out.size))
      have HT2 := Lib.hid hb.tab
      clear hb
      go_wp2_with fail
      refine (fill_any A1 n1 c1 w.heap.size z b w2 (HN1.out.below HB2.out) HB2.out.size (by omega) (by omega)).mono ?_
      rintro e w3 ⟨v, rfl, hv, hb⟩
      rw [HD.out] at hv
      obtain ⟨A3, c3, rfl, _, hn3⟩ := hv.nums fun x hx => byte_wf (HDB.out x hx)
      rw [HDL.out] at hn3 ⊢
      have HN3 := Lib.hid hn3
      have HB3 := Lib.hid (HB2.out.trans (hb.mono HB2.out.size))
      have HT3 := Lib.hid (tab_below HT2.out hb (tab_pos HT2.out))
      clear hv hb hn3
      go_wp2_with fail
      refine (newChip_ok k A3 z c3 w3.heap.size D w3 HT3.out HN3.out (Nat.le_refl _) HK.out HZ.out.symm).mono ?_
      rintro e w4 ⟨p, rfl, hc, hb⟩
      have HC4 := Lib.hid hc
      have HB4 := Lib.hid hb
      clear hc hb
      go_wp2_with fail
      refine (new_any w4).mono ?_
      rintro e w5 ⟨q, rfl, hq, hwq, hb⟩
      have HQ := Lib.hid (And.intro hq hwq.lt)
      have HB5 := Lib.hid (HB4.out.trans (hb.mono HB4.out.size))
      have HST := Lib.hid (show IdleAt p q (NewF w3 w4) k D w3 w5 w5 from ⟨up, (HC4.out.below hb).went.1, hwq, HB5.out, Nat.le_refl _⟩)
      clear hq hwq hb
      go_wp2_with fail
      have HFQ := Lib.hid (show ∀ b, NewF w3 w4 b → b < q from fun b hb => Nat.lt_of_lt_of_le hb.2 HQ.out.1)
      have HF3 := Lib.hid (show ∀ b, NewF w3 w4 b → w3.heap.size ≤ b from fun b hb => hb.1)
      have HQ5 := Lib.hid HQ.out.2
      have HT5 := Lib.hid (tab_below HT3.out HB5.out (tab_pos HT3.out))
      have HFT := Lib.hid (show ¬ NewF w3 w4 0 from fun h => by have := tab_pos HT3.out; have := h.1; omega)
      have HQ3 := Lib.hid (show w3.heap.size ≤ q from Nat.le_trans HB4.out.size HQ.out.1)
      go_loopw [13, 14] (fun i _ wr => ∃ t : Nat, t ≤ n2 ∧ i = .int .i64 t ∧ IdleAt p q (NewF w3 w4) k D w3 w5 wr) (fun i _ _ => n2 - (intOf i).toNat)
      case atStart => exact ⟨0, Nat.zero_le _, rfl, HST.out⟩
      case round =>
        obtain ⟨t, ht, rfl, v, hc, hwq, hbr, hbr5⟩ := hrel
        have HBR5 := Lib.hid hbr5
        have HC := Lib.hid hc
        have HWQ := Lib.hid hwq
        have HBR := Lib.hid hbr
        clear hc hwq hbr hbr5
        by_cases hlt : t < n2
        · obtain ⟨x, hx⟩ : ∃ x, l[t]? = some x := ⟨l[t]'(by have := HM2.out.1; omega), by simp [show t < l.length by have := HM2.out.1; omega]⟩
          have hone := HM2.out.2 (by omega)
          obtain ⟨bb, oo, rfl, hbb, hcs⟩ := hone
          obtain ⟨x0, x1, x2⟩ := x
          have e0 : w.cell? ⟨bb, oo + t * 3, none⟩ = some (.bool x0) := hcs t _ hx 0 (.bool x0) rfl
          have e1 : w.cell? ⟨bb, oo + t * 3 + 1, none⟩ = some (.bool x1) := hcs t _ hx 1 (.bool x1) rfl
          have e2 : w.cell? ⟨bb, oo + t * 3 + 2, none⟩ = some (.bool x2) := hcs t _ hx 2 (.bool x2) rfl
          have E := Lib.hid (And.intro e0 (And.intro e1 e2))
          have HBB := Lib.hid hbb
          have HBW := Lib.hid (HB3.out.trans (HBR.out.mono HB3.out.size))
          have d0 := (HBW.out.cell (p := ⟨bb, oo + t * 3, none⟩) hbb).trans e0
          have d1 := (HBW.out.cell (p := ⟨bb, oo + t * 3 + 1, none⟩) hbb).trans e1
          have ht1 : (t : Int) < (n2 : Int) := by omega
          have ht0 : (0 : Int) ≤ (t : Int) := by omega
          have HWD := Lib.hid (show WireAt wr.drew q v from HWQ.out.below (below_drew wr))
          clear hcs hx e0 e1 e2 hbb
          by_cases h1 : tell v (x0, x1) = 1
          · obtain ⟨y, hy⟩ : ∃ y, tell v (x0, x1) = y := ⟨_, rfl⟩
            have h1' : (y == 1) = true := by rw [← hy, h1]; rfl
            have HY := Lib.hid hy
            clear h1 hy
            go_wp2_with fail
            go_region_with (go_at_call 35; refine (step_any _ q v (x0, x1) HWD.out).mono ?_; rintro e' w6 ⟨rfl, hwl, hkl⟩; rw [HY.out])
            all_goals
              have R := Lib.hid (idle_wire HFQ.out HQ5.out HQ3.out HT3.out HC.out HBR.out hwl hkl)
              clear hwl hkl d0 d1
              go_wp2_with fail
              go_ret
              exact ⟨rfl, HB3.out.trans (R.out.2.mono HB3.out.size)⟩
          · obtain ⟨y, hy⟩ : ∃ y, tell v (x0, x1) = y := ⟨_, rfl⟩
            have h1' : (y == 1) = false := by rw [← hy]; simpa using h1
            have HY := Lib.hid hy
            have HST2 := Lib.hid (idle_step k D v x0 x1 x2 h1)
            have HOI := Lib.hid (idle_ok v HO.out)
            have HXX := Lib.hid (show (idleC k D (x0, x1)).out x1 = x1 by simp [Chip.out, idleC, fresh])
            clear h1 hy
            go_wp2_with fail
            go_region_held3 (fun w' => w'.cell? ⟨bb, oo + t * 3, none⟩ = some (.bool x0) ∧ w'.cell? ⟨bb, oo + t * 3 + 1, none⟩ = some (.bool x1)) (first | (with_reducible exact Z6.out) | go_keep) (first
              | (go_at_call 35; refine (step_any _ q v (x0, x1) HWD.out).mono ?_; rintro e' w6 ⟨rfl, hwl, hkl⟩; rw [HY.out]
                 have R := Lib.hid (idle_wire HFQ.out HQ5.out HQ3.out HT3.out HC.out HBR.out hwl hkl)
                 have HWL := Lib.hid hwl
                 have HK6 := Lib.hid (show wr.heap.size ≤ w6.heap.size from hkl.of_drew.size)
                 have HB6 := Lib.hid (HB3.out.trans (R.out.2.mono HB3.out.size))
                 have HC6 := Lib.hid (show ChipAt w6.drew p _ _ from R.out.1.below (below_drew w6))
                 have Z6 := Lib.hid (show w6.cell? ⟨bb, oo + t * 3, none⟩ = some (.bool x0) ∧ w6.cell? ⟨bb, oo + t * 3 + 1, none⟩ = some (.bool x1) from ⟨(HB6.out.cell (p := ⟨bb, oo + t * 3, none⟩) HBB.out).trans E.out.1, (HB6.out.cell (p := ⟨bb, oo + t * 3 + 1, none⟩) HBB.out).trans E.out.2.1⟩)
                 clear hwl hkl))
            clear d0 d1
            have d0 := (HB6.out.cell (p := ⟨bb, oo + t * 3, none⟩) HBB.out).trans E.out.1
            have d1 := (HB6.out.cell (p := ⟨bb, oo + t * 3 + 1, none⟩) HBB.out).trans E.out.2.1
            have d2 := (HB6.out.cell (p := ⟨bb, oo + t * 3 + 2, none⟩) HBB.out).trans E.out.2.2
            go_wp2_with fail
            go_region_held3 (fun w' => w'.cell? ⟨bb, oo + t * 3, none⟩ = some (.bool x0) ∧ w'.cell? ⟨bb, oo + t * 3 + 1, none⟩ = some (.bool x1) ∧ w'.cell? ⟨bb, oo + t * 3 + 2, none⟩ = some (.bool x2)) (first | (with_reducible exact Z7.out) | go_keep) (first
              | (go_at_call 15; refine (chipStep_any _ p _ _ 0 x0 x1 x2 HC6.out HOI.out rfl (by omega)).mono ?_; rintro e' w7 ⟨rfl, hz⟩; rw [HST2.out, HXX.out]; rw [HST2.out] at hz
                 have R7 := Lib.hid (idle_next HFQ.out HF3.out HQ5.out HB5.out.size HK6.out HBR5.out (grow_tab HT5.out HFT.out) R.out.2 HWL.out hz)
                 have HB7 := Lib.hid (show Below w.heap.size w w7 from by obtain ⟨_, _, _, h, _⟩ := R7.out; exact HB3.out.trans (h.mono HB3.out.size))
                 have Z7 := Lib.hid (show w7.cell? ⟨bb, oo + t * 3, none⟩ = some (.bool x0) ∧ w7.cell? ⟨bb, oo + t * 3 + 1, none⟩ = some (.bool x1) ∧ w7.cell? ⟨bb, oo + t * 3 + 2, none⟩ = some (.bool x2) from ⟨(HB7.out.cell (p := ⟨bb, oo + t * 3, none⟩) HBB.out).trans E.out.1, (HB7.out.cell (p := ⟨bb, oo + t * 3 + 1, none⟩) HBB.out).trans E.out.2.1, (HB7.out.cell (p := ⟨bb, oo + t * 3 + 2, none⟩) HBB.out).trans E.out.2.2⟩)
                 have HC7 := Lib.hid hz.1
                 clear hz))
            clear d0 d1 d2
            have d1 := Z7.out.2.1
            go_wp2_with fail
            refine (left_any _ p _ _ HC7.out).mono ?_
            rintro e w8 ⟨rfl, rfl⟩
            rw [show (idleC k D (x0, x1)).left = 0 from rfl]
            go_wp2_with fail
            refine (pointer_any _ p _ _ HC7.out).mono ?_
            rintro e w8 ⟨rfl, rfl⟩
            rw [show (idleC k D (x0, x1)).pointer = 0 from rfl]
            go_wp2_with fail
            go_roundw
            case rel => exact ⟨t + 1, by omega, by go_num, R7.out⟩
            case measure => simp [intOf]; omega
        · obtain rfl : t = n2 := by omega
          have HOI := Lib.hid (idle_ok v HO.out)
          have HB7 := Lib.hid (HB3.out.trans (HBR.out.mono HB3.out.size))
          go_wp2_with fail
          refine (bytes_any wr p _ _ 0 HC.out HOI.out).mono ?_
          rintro e w6 ⟨v6, rfl, hv, hb⟩
          obtain ⟨A6, c6, rfl, _, hn6⟩ := hv.nums fun x hx => byte_wf (HO.out.byte x hx)
          have HN6 := Lib.hid (show Nums .u8 w6 w6.heap.size A6 z D from by rw [← HDL.out]; exact hn6)
          have HB8 := Lib.hid (HBR.out.trans (hb.mono HBR.out.size))
          rw [show (idleC k D v).data.length = z from HDL.out]
          clear hb hv hn6
          go_wp2_with fail
          refine (same_refl A6 A3 z c6 c3 w6.heap.size D w6 (by unfold maxLen; omega) HN6.out ((HN3.out.below HB8.out).mono HB8.out.size) (Nat.le_refl _)).mono ?_
          rintro e w7 ⟨rfl, hb⟩
          have HB9 := Lib.hid ((HB3.out.trans (HB8.out.mono HB3.out.size)).trans (hb.mono (Nat.le_trans HB3.out.size HB8.out.size)))
          clear hb
          go_wp2_with fail
          go_ret
          exact ⟨rfl, HB9.out⟩
    · have hb2' : decide (400 < (n2 : Int)) = true := decide_eq_true (by omega)
      go_enter Tryd.func8, Tryd.ntmps8
      go_wp2_with fail
      refine (awake_any w HT.out).mono ?_
      rintro e w1 ⟨rfl, hb⟩
      have HB1 := Lib.hid hb
      clear hb
      go_wp2_with fail
      go_ret
      exact ⟨rfl, HB1.out⟩
  · have hb1' : decide (40 < (n1 : Int)) = true := decide_eq_true (by omega)
    go_enter Tryd.func8, Tryd.ntmps8
    go_wp2_with fail
    refine (awake_any w HT.out).mono ?_
    rintro e w1 ⟨rfl, hb⟩
    have HB1 := Lib.hid hb
    clear hb
    go_wp2_with fail
    go_ret
    exact ⟨rfl, HB1.out⟩
end Go.Proofs.YtfcdlnpfneinlaaDoor
