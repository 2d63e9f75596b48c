/-
  THE WALK OF CrcBursts.
-/
import Derived.Test.YtdbfmmjncoffnaaDoorSame
import Derived.Test.YtdbfmmjncoffnaaDoorXorsWalk
import Derived.Test.YtdbfmmjncoffnaaDoorBits
import Derived.StillTailTactics
namespace Go.Proofs.YtdbfmmjncoffnaaDoor
open Ks Go.RowKit

theorem own_empty (w : World) : (w.alloc (Obj.cells #[] 5)).ownsRow w.heap.size 5 1 (.slice (some ⟨w.heap.size, 0, none⟩) 0 0) 0 [] :=
  ⟨rfl, .inr ⟨w.heap.size, 0, #[], rfl, Nat.le_refl _, heap_alloc_new w _, Nat.le_refl _, Nat.zero_le _, rfl, rfl⟩⟩
theorem news_of {w : World} {B n b o : Nat} {l : List Int} (h : Bytes w B (some ⟨b, o, none⟩) n l) (hB : B ≤ w.heap.size) (ob : Obj) : ∀ (j : Nat) (u : Value), (l.map (Value.int .u8))[j]? = some u → (w.alloc ob).cell? ((⟨b, o, none⟩ : Addr).add j) = some u := by
  intro j u hj
  have hjl : j < l.length := by
    rcases Nat.lt_or_ge j l.length with h | h
    · exact h
    · rw [List.getElem?_eq_none (by simpa using h)] at hj; cases hj
  have hjn : j < n := by have := h.1; omega
  obtain ⟨b', o', e, hb, hc⟩ := h.2.2 (by omega)
  cases e
  rw [Go.WideShapes.add_plain, World.cell?_alloc_lt w ob _ (by exact Nat.lt_of_lt_of_le hb hB), hc j hjn, ← hj]
  simp [List.getD, hjl]

theorem bytes_more {w : World} {B B' n : Nat} {A : Option Addr} {l : List Int} (h : Bytes w B A n l) (hB : B ≤ B') : Bytes w B' A n l :=
  ⟨h.1, h.2.1, fun hn => by
    obtain ⟨b, o, e, hb, hc⟩ := h.2.2 hn
    exact ⟨b, o, e, Nat.lt_of_lt_of_le hb hB, hc⟩⟩
/-- where the loop stands behind i rounds -/
def BurstAt (w1 : World) (l : List Int) (Y : BitVec 32) (k n g cap i : Nat) (cl : List Int) (wr : World) : Prop :=
  cl.length = n ∧ (∀ v ∈ cl, 0 ≤ v ∧ v ≤ 255) ∧ wr.ownsRow w1.heap.size 5 1 (.slice (some ⟨g, 0, none⟩) n cap) n (cl.map (Value.int .u8)) ∧ Below w1.heap.size w1 wr ∧
  ∀ j, j < 8 * n → bitOf cl j = (bitOf l j ^^ (decide (k ≤ j) && decide (j < k + i) && Y.getLsbD (j - k)))
theorem burstAt_zero {w1 w2 : World} {l : List Int} {Y : BitVec 32} {k n g cap : Nat} (hl : l.length = n) (hv : ∀ v ∈ l, 0 ≤ v ∧ v ≤ 255)
    (hown : w2.ownsRow w1.heap.size 5 1 (.slice (some ⟨g, 0, none⟩) (0 + n) cap) (0 + n) ([] ++ l.map (Value.int .u8))) (hg : (w1.alloc (Obj.cells #[] 5)).grownBy w2 (some w1.heap.size)) : BurstAt w1 l Y k n g cap 0 l w2 := by
  rw [Nat.zero_add, List.nil_append] at hown
  refine ⟨hl, hv, hown, ?_, fun j hj => ?_⟩
  · exact ((Below.refl _ _).alloc (Nat.le_refl _) _).grown hg (by simp) (fun k hk => by cases hk; exact Nat.le_refl _)
  · by_cases h : k ≤ j
    · have : decide (j < k + 0) = false := by simp; omega
      rw [this, Bool.and_false, Bool.false_and, Bool.xor_false]
    · simp [h]

theorem biti (Y : BitVec 32) (i : Nat) : (bits .and .u32 (U Y / 2 ^ i) 1 == 1) = Y.getLsbD i := by
  rw [shr_U, bit0, BitVec.getLsbD_ushiftRight, Nat.add_zero]
theorem burstAt_skip {w1 wr : World} {l cl : List Int} {Y : BitVec 32} {k n g cap i : Nat} (h : BurstAt w1 l Y k n g cap i cl wr) (hb : Y.getLsbD i = false) : BurstAt w1 l Y k n g cap (i + 1) cl wr := by
  obtain ⟨h1, h2, h3, h4, h5⟩ := h
  refine ⟨h1, h2, h3, h4, fun j hj => ?_⟩
  rw [h5 j hj]
  by_cases e : j = k + i
  · subst e
    have : k + i - k = i := by omega
    rw [this, hb]; simp
  · have : decide (j < k + (i + 1)) = decide (j < k + i) := by simp; omega
    rw [this]
theorem burstAt_cell {w1 wr : World} {l cl : List Int} {Y : BitVec 32} {k n g cap i : Nat} (h : BurstAt w1 l Y k n g cap i cl wr) (q : Nat) (hq : q < n) :
    wr.cell? ⟨g, q, none⟩ = some (.int .u8 (cl.getD q 0)) ∧ wr.frozen? ⟨g, q, none⟩ = false := by
  obtain ⟨h1, h2, h3, h4, h5⟩ := h
  constructor
  · have := h3.cells (g := g) rfl q (.int .u8 (cl.getD q 0)) (by simp [List.getD, h1, hq])
    rw [Go.WideShapes.add_plain, Nat.zero_add] at this
    exact this
  · rcases h3.2 with ⟨hh, _⟩ | ⟨g', cap', cur, hh, _, hg, _⟩
    · cases hh
    · cases hh
      simp [World.frozen?, hg]
theorem own_set {w : World} {base n g cap q : Nat} {xs : List Value} {u : Value} (h : w.ownsRow base 5 1 (.slice (some ⟨g, 0, none⟩) n cap) n xs) (_hq : q < n) :
    (w.setCell ⟨g, q, none⟩ u).ownsRow base 5 1 (.slice (some ⟨g, 0, none⟩) n cap) n (xs.set q u) := by
  refine ⟨by simp [h.1], .inr ?_⟩
  rcases h.2 with ⟨hh, _⟩ | ⟨g', cap', cur, hh, hb, hg, h4, h5, h6, h7⟩
  · cases hh
  · cases hh
    refine ⟨g, cap, cur.setIfInBounds q u, rfl, hb, ?_, h4, h5, by simp [h6], ?_⟩
    · simp [World.setCell, Array.getElem?_modify, hg]
    · rw [← h7, Array.toList_setIfInBounds, List.take_set]

theorem bitOf_set (cl : List Int) (q r : Nat) (hq : q < cl.length) (v' : Int) (hv' : v'.toNat = (cl.getD q 0).toNat ^^^ 2 ^ r) (j : Nat) (hr : r < 8) :
    bitOf (cl.set q v') j = (bitOf cl j ^^ decide (j = 8 * q + r)) := by
  unfold bitOf
  by_cases h : j / 8 = q
  · subst h
    have e : (cl.set (j / 8) v').getD (j / 8) 0 = v' := by simp [List.getD, hq]
    rw [e, hv', Nat.testBit_xor, Nat.testBit_two_pow]
    congr 1
    by_cases e2 : r = j % 8
    · have : j = 8 * (j / 8) + r := by omega
      rw [decide_eq_true e2, decide_eq_true this]
    · have : ¬ j = 8 * (j / 8) + r := by omega
      rw [decide_eq_false e2, decide_eq_false this]
  · have e : (cl.set q v').getD (j / 8) 0 = cl.getD (j / 8) 0 := by simp [List.getD, Ne.symm h]
    have : ¬ j = 8 * q + r := by omega
    rw [e, decide_eq_false this, Bool.xor_false]
theorem burstAt_flip {w1 wr : World} {l cl : List Int} {Y : BitVec 32} {k n g cap i : Nat} (h : BurstAt w1 l Y k n g cap i cl wr) (hY : Y.getLsbD i = true) (hlt : k + i < 8 * n) (q r : Nat) (hq : q = (k + i) / 8) (hr : r = (k + i) % 8) :
    BurstAt w1 l Y k n g cap (i + 1) (cl.set q (bits .xor .u8 (cl.getD q 0) (2 ^ r % 256))) (wr.setCell ⟨g, q, none⟩ (.int .u8 (bits .xor .u8 (cl.getD q 0) (2 ^ r % 256)))).drew := by
  obtain ⟨h1, h2, h3, h4, h5⟩ := h
  have hqn : q < n := by omega
  have hr8 : r < 8 := by omega
  have hv : 0 ≤ cl.getD q 0 ∧ cl.getD q 0 ≤ 255 := by
    have hql : q < cl.length := by omega
    simpa [List.getD, hql] using h2 cl[q] (List.getElem_mem hql)
  have hp : ∀ r : Nat, r < 8 → (2 : Int) ^ r % 256 = ((2 ^ r : Nat) : Int) ∧ (2 : Nat) ^ r ≤ 255 := by decide
  obtain ⟨hp1, hp2⟩ := hp r hr8
  rw [hp1]
  obtain ⟨x1, x2, _⟩ := xor8 (cl.getD q 0) ((2 ^ r : Nat) : Int) hv ⟨by omega, by omega⟩
  have x3 : (bits .xor .u8 (cl.getD q 0) ((2 ^ r : Nat) : Int)).toNat = (cl.getD q 0).toNat ^^^ 2 ^ r := by
    rw [u8_xor _ _ hv.1 (by omega) (by omega) (by omega), Int.toNat_natCast, Int.toNat_natCast]
  generalize bits .xor .u8 (cl.getD q 0) ((2 ^ r : Nat) : Int) = v' at *
  have hb : w1.heap.size ≤ g := by
    rcases h3.2 with ⟨hh, _⟩ | ⟨g', cap', cur, hh, hb, _⟩
    · cases hh
    · cases hh; exact hb
  refine ⟨by simp [h1], fun v hm => ?_, ?_, (h4.setCell (p := ⟨g, q, none⟩) hb _).drew, fun j hj => ?_⟩
  · rcases List.mem_or_eq_of_mem_set hm with hm | rfl
    · exact h2 v hm
    · exact ⟨x1, x2⟩
  · have := own_set (u := .int .u8 v') h3 hqn
    rw [← List.map_set] at this
    exact this
  · rw [bitOf_set cl q r (by omega) v' x3 j hr8, h5 j hj]
    have e8 : 8 * q + r = k + i := by omega
    rw [e8]
    by_cases e : j = k + i
    · subst e
      have a1 : decide (k ≤ k + i) = true := by simp
      have a2 : decide (k + i < k + i) = false := by simp
      have a3 : decide (k + i < k + (i + 1)) = true := by simp
      have a4 : k + i - k = i := by omega
      rw [a1, a2, a3, a4, hY]; simp
    · have a2 : decide (j < k + (i + 1)) = decide (j < k + i) := by simp; omega
      rw [a2, decide_eq_false e, Bool.xor_false]
theorem burstAt_end {w1 wr : World} {l cl : List Int} {Y : BitVec 32} {k n g cap i : Nat} (h : BurstAt w1 l Y k n g cap i cl wr) (hl : l.length = n) (hv : ∀ v ∈ l, 0 ≤ v ∧ v ≤ 255) (hk : k < 8 * n) (he : ¬ (i < 32 ∧ k + i < 8 * n)) :
    (more 0#32 (l.map Bv) = more 0#32 (cl.map Bv) ↔ l = cl) ∧ Bytes wr wr.heap.size (some ⟨g, 0, none⟩) n cl ∧ Below w1.heap.size w1 wr := by
  obtain ⟨h1, h2, h3, h4, h5⟩ := h
  refine ⟨bursts l cl hv h2 (by omega) k Y (by omega) (fun j hj => ?_), ?_, h4⟩
  · rw [h5 j (by omega)]
    by_cases hj2 : j < k + i
    · rw [decide_eq_true hj2, Bool.and_true]
    · have : Y.getLsbD (j - k) = false := BitVec.getLsbD_of_ge _ _ (by omega)
      rw [this, Bool.and_false, Bool.and_false]
  · obtain ⟨A, cp, e, hy⟩ := own_bytes h3 h2
    cases e
    exact hy

theorem crcBursts_walk (w : World) (A : Option Addr) (n c : Nat) (z : List Int) (hr : IsRow .u8 w A n c z) (at_ : Int) (wat : (Lit.int .u16 at_).wf = true) (by_ : Int) (wby : (Lit.int .u32 by_).wf = true) (hT : Tab w) :
    Calls Tryd.prog 7 #[.slice A n c, .int .u16 at_, .int .u32 by_] w fun e w' => e = .returned (.bool true) ∧ Below w.heap.size w w' := by
  have ha : 0 ≤ at_ ∧ at_ ≤ 65535 := by simpa [Lit.wf, IntKind.min, IntKind.max, IntKind.signed, IntKind.bits] using wat
  have hb : 0 ≤ by_ ∧ by_ ≤ 4294967295 := by simpa [Lit.wf, IntKind.min, IntKind.max, IntKind.signed, IntKind.bits] using wby
  obtain ⟨ha0, ha1⟩ := ha
  obtain ⟨Y, rfl⟩ : ∃ Y, by_ = U Y := ⟨Bv by_, (U_Bv by_ hb.1 (by omega)).symm⟩
  have HNC := Lib.hid hr.len_le
  have HT := Lib.hid hT
  have HR := Lib.hid hr.bytes
  have hm := hr.len_le.2
  unfold maxLen at hm
  clear hT hr wat wby hb
  by_cases h0 : (n : Int) = 0
  · obtain rfl : n = 0 := by omega
    clear h0
    go_enter Tryd.func7, Tryd.ntmps7
    go_wp2_with fail
    refine (awake_any _ HT.out).mono ?_
    rintro e w1 ⟨rfl, hw1⟩
    have HW1 := Lib.hid hw1
    clear hw1
    go_wp2_with fail
    go_ret
    exact ⟨rfl, HW1.out⟩
  have hz : ((n : Int) == 0) = false := by simp; omega
  by_cases h200 : (200 : Int) < (n : Int)
  · go_enter Tryd.func7, Tryd.ntmps7
    go_wp2_with fail
    refine (awake_any _ HT.out).mono ?_
    rintro e w1 ⟨rfl, hw1⟩
    have HW1 := Lib.hid hw1
    clear hw1
    go_wp2_with fail
    go_ret
    exact ⟨rfl, HW1.out⟩
  have hd : decide ((200 : Int) < (n : Int)) = false := by simp; omega
  have hpos : 0 < n := by omega
  clear h0
  obtain ⟨i0, hi, hz0, hz1, hz2⟩ := info_parts info5
  obtain ⟨b0, o0, rfl, _, _⟩ := HR.out.2.2 hpos
  obtain ⟨k, hk, hkn⟩ : ∃ k : Nat, at_ % (8 * (n : Int)) = (k : Int) ∧ k < 8 * n := by
    have h0 := Int.emod_nonneg at_ (show 8 * (n : Int) ≠ 0 by omega)
    have h1 := Int.emod_lt_of_pos at_ (show 0 < 8 * (n : Int) by omega)
    exact ⟨(at_ % (8 * (n : Int))).toNat, by omega, by omega⟩
  have HK := Lib.hid hk
  clear hk
  go_enter Tryd.func7, Tryd.ntmps7
  go_wp2_with fail
  refine (awake_any _ HT.out).mono ?_
  rintro e w1 ⟨rfl, hw1⟩
  have HY := Lib.hid (bytes_below HR.out hw1)
  have HS1 := Lib.hid hw1.size
  have HW1 := Lib.hid hw1
  clear hw1 HR
  obtain ⟨l, hel⟩ : ∃ l, z.take n = l := ⟨_, rfl⟩
  rw [hel] at HY
  clear hel
  have HO := Lib.hid (own_empty w1)
  have HNW := Lib.hid (news_of HY.out HS1.out (Obj.cells #[] 5))
  have HLN := Lib.hid HY.out.1
  go_wp2_with (at_builtin; refine wpList_append_lies _ rfl _ _ _ rfl w1.heap.size 5 i0 _ 1 1 Tryd.underlying22 hi hz0 hz1 hz2 rfl (by omega) (.slice (some ⟨w1.heap.size, 0, none⟩) 0 0) 0 [] rfl HO.out ⟨b0, o0, none⟩ n c (l.map (Value.int .u8)) rfl (by rw [List.length_map, HLN.out]; omega) HNW.out (by simp [Value.oneCell']) hpos (by unfold maxLen; omega) (by omega) (by simp) (w1.heap.size + 1) (by simp) ?_; intro g cap w2 hown2 hgrow hat hlt2)
  have HB0 := Lib.hid (burstAt_zero (Y := Y) (k := k) HY.out.1 HY.out.2.1 hown2 hgrow)
  rw [HK.out]
  clear hown2 hgrow hat hlt2 HO HNW
  go_loopw [10] (fun s wr => ∃ (i : Nat) (cl : List Int), i ≤ 32 ∧ s = .int .i64 i ∧ BurstAt w1 l Y k n g cap i cl wr) (fun s _ => 32 - (intOf s).toNat)
  case atStart => exact ⟨0, l, by omega, rfl, HB0.out⟩
  case round =>
    obtain ⟨i, cl, hi32, rfl, hat⟩ := hrel
    have HAT := Lib.hid hat
    clear hat HB0
    by_cases hlt : i < 32
    · by_cases hlt2 : k + i < 8 * n
      · have hc1 : ((k : Int) + (i : Int)) < 8 * (n : Int) := by omega
        have hbi := biti Y i
        cases hY : Y.getLsbD i
        · rw [hY] at hbi
          have R := Lib.hid (burstAt_skip HAT.out hY)
          clear HAT hY
          go_wp2_with fail
          go_roundw
          case rel => exact ⟨i + 1, cl, by omega, by go_num, R.out⟩
          case measure => simp [intOf]; omega
        · rw [hY] at hbi
          have HYY := Lib.hid hY
          clear hY
          obtain ⟨q, hq, hqn⟩ : ∃ q : Nat, ((k : Int) + (i : Int)) / 8 = (q : Int) ∧ q < n := ⟨(k + i) / 8, by omega, by omega⟩
          obtain ⟨r, hr, hr8⟩ : ∃ r : Nat, ((k : Int) + (i : Int)) % 8 = (r : Int) ∧ r < 8 := ⟨(k + i) % 8, by omega, by omega⟩
          have HQ := Lib.hid (show q = (k + i) / 8 by omega)
          have HRR := Lib.hid (show r = (k + i) % 8 by omega)
          have hq0 : (0 : Int) ≤ (q : Int) := by omega
          have hq1 : (q : Int) < (n : Int) := by omega
          obtain ⟨hcv, hcf⟩ := burstAt_cell HAT.out q hqn
          generalize hv : cl.getD q 0 = v at *
          have HV := Lib.hid hv
          clear hv
          go_wp2_with fail
          have e1 : IntKind.i64.wrap ((k : Int) + (i : Int)) = (k : Int) + (i : Int) := IntWalk.i64_in _ (by omega)
          have e2 : IntKind.i64.wrap (((k : Int) + (i : Int)).tdiv 8) = (q : Int) := by rw [Int.tdiv_eq_ediv_of_nonneg (by omega), hq]; exact IntWalk.i64_in _ (by omega)
          have e3 : ((k : Int) + (i : Int)).tmod 8 = (r : Int) := by rw [Int.tmod_eq_emod_of_nonneg (by omega), hr]
          clear hq hr
          go_still_tail 19, (by kernel_rfl)
          clear e1 e2 e3
          change wpList _ _ _ _ _ wr.drew
          go_wp2_with fail
          go_roundw
          case rel => exact ⟨i + 1, _, by omega, by go_num, by have R := burstAt_flip HAT.out HYY.out hlt2 q r HQ.out HRR.out; rw [HV.out] at R; exact R⟩
          case measure => simp [intOf]; omega
      · have hc1 : ¬ ((k : Int) + (i : Int)) < 8 * (n : Int) := by omega
        obtain ⟨hend, hcb, hbel⟩ := burstAt_end HAT.out HY.out.1 HY.out.2.1 hkn (by omega)
        have HF := Lib.hid (show ((more 0#32 (l.map Bv) == more 0#32 (cl.map Bv)) == decide (l = cl)) = true by
          by_cases h : l = cl
          · rw [beq_iff_eq.2 (hend.2 h), decide_eq_true h]; rfl
          · have h2 : ¬ more 0#32 (l.map Bv) = more 0#32 (cl.map Bv) := fun e => h (hend.1 e)
            rw [beq_eq_false_iff_ne.2 h2, decide_eq_false h]; rfl)
        have HS2 := Lib.hid hbel.size
        have HC0 := Lib.hid hcb
        have HT2 := Lib.hid (tab_below (tab_below HT.out HW1.out (tab_pos HT.out)) hbel (Nat.lt_of_lt_of_le (tab_pos HT.out) HS1.out))
        have HZ := Lib.hid (bytes_below (bytes_more HY.out HS1.out) hbel)
        have HB := Lib.hid (HW1.out.trans (hbel.mono HS1.out))
        clear hend hcb hbel HAT
        go_wp2_with fail
        refine (same_any _ _ n _ _ wr.heap.size l cl wr HNC.out.2 (bytes_more HZ.out HS2.out) HC0.out (Nat.le_refl _)).mono ?_
        rintro e w3 ⟨rfl, hw3⟩
        have HT3 := Lib.hid (tab_below HT2.out hw3 (Nat.lt_of_lt_of_le (tab_pos HT.out) (Nat.le_trans HS1.out HS2.out)))
        have HZ3 := Lib.hid (bytes_below HZ.out (hw3.mono HS2.out))
        have HC3 := Lib.hid (bytes_below HC0.out hw3)
        have HB3 := Lib.hid (HB.out.trans (hw3.mono (Nat.le_trans HS1.out HS2.out)))
        clear hw3
        go_wp2_with fail
        refine (sum_any _ _ _ _ _ _ HT3.out HNC.out.2 HZ3.out).mono ?_
        rintro e w' ⟨rfl, rfl⟩
        go_wp2_with fail
        refine (sum_any _ _ _ _ _ _ HT3.out HNC.out.2 HC3.out).mono ?_
        rintro e w' ⟨rfl, rfl⟩
        go_wp2_with fail
        go_ret
        exact ⟨ret_bool (by rw [U_beq]; exact HF.out), HB3.out⟩
    · obtain ⟨hend, hcb, hbel⟩ := burstAt_end HAT.out HY.out.1 HY.out.2.1 hkn (by omega)
      have HF := Lib.hid (show ((more 0#32 (l.map Bv) == more 0#32 (cl.map Bv)) == decide (l = cl)) = true by
        by_cases h : l = cl
        · rw [beq_iff_eq.2 (hend.2 h), decide_eq_true h]; rfl
        · have h2 : ¬ more 0#32 (l.map Bv) = more 0#32 (cl.map Bv) := fun e => h (hend.1 e)
          rw [beq_eq_false_iff_ne.2 h2, decide_eq_false h]; rfl)
      have HS2 := Lib.hid hbel.size
      have HC0 := Lib.hid hcb
      have HT2 := Lib.hid (tab_below (tab_below HT.out HW1.out (tab_pos HT.out)) hbel (Nat.lt_of_lt_of_le (tab_pos HT.out) HS1.out))
      have HZ := Lib.hid (bytes_below (bytes_more HY.out HS1.out) hbel)
      have HB := Lib.hid (HW1.out.trans (hbel.mono HS1.out))
      clear hend hcb hbel HAT
      go_wp2_with fail
      refine (same_any _ _ n _ _ wr.heap.size l cl wr HNC.out.2 (bytes_more HZ.out HS2.out) HC0.out (Nat.le_refl _)).mono ?_
      rintro e w3 ⟨rfl, hw3⟩
      have HT3 := Lib.hid (tab_below HT2.out hw3 (Nat.lt_of_lt_of_le (tab_pos HT.out) (Nat.le_trans HS1.out HS2.out)))
      have HZ3 := Lib.hid (bytes_below HZ.out (hw3.mono HS2.out))
      have HC3 := Lib.hid (bytes_below HC0.out hw3)
      have HB3 := Lib.hid (HB.out.trans (hw3.mono (Nat.le_trans HS1.out HS2.out)))
      clear hw3
      go_wp2_with fail
      refine (sum_any _ _ _ _ _ _ HT3.out HNC.out.2 HZ3.out).mono ?_
      rintro e w' ⟨rfl, rfl⟩
      go_wp2_with fail
      refine (sum_any _ _ _ _ _ _ HT3.out HNC.out.2 HC3.out).mono ?_
      rintro e w' ⟨rfl, rfl⟩
      go_wp2_with fail
      go_ret
      exact ⟨ret_bool (by rw [U_beq]; exact HF.out), HB3.out⟩
end Go.Proofs.YtdbfmmjncoffnaaDoor
