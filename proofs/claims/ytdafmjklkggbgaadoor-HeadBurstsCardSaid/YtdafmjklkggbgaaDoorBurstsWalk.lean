/-
  THE WALK OF HeadBursts.
-/
import Derived.Test.YtdafmjklkggbgaaDoorBackWalk
import Derived.Test.YtdafmjklkggbgaaDoorThree
namespace Go.Proofs.YtdafmjklkggbgaaDoor
open Ks Go.RowKit
/-- where the loop stands behind i rounds -/
def BurstAt (w1 : World) (l : List Int) (Y : BitVec 32) (k n g cap i : Nat) (cl : List Int) (wr : World) : Prop :=
  cl.length = n ∧ (∀ v ∈ cl, 0 ≤ v ∧ v ≤ 255) ∧ wr.ownsRow w1.heap.size 5 1 (.slice (some ⟨g, 0, none⟩) n cap) n (cl.map (Value.int .u8)) ∧ Below w1.heap.size w1 wr ∧
  ∀ j, j < 8 * n → bitOf cl j = (bitOf l j ^^ (decide (k ≤ j) && decide (j < k + i) && Y.getLsbD (j - k)))
theorem burstAt_zero {w1 w2 : World} {l : List Int} {Y : BitVec 32} {k n g cap : Nat} (hl : l.length = n) (hv : ∀ v ∈ l, 0 ≤ v ∧ v ≤ 255)
    (hown : Own w1.heap.size w2 (.slice (some ⟨g, 0, none⟩) n cap) l) (hb : Below w1.heap.size w1 w2) : BurstAt w1 l Y k n g cap 0 l w2 := by
  unfold Own at hown
  rw [hl] at hown
  refine ⟨hl, hv, hown, hb, fun j hj => ?_⟩
  by_cases h : k ≤ j
  · have : decide (j < k + 0) = false := by simp; omega
    rw [this, Bool.and_false, Bool.false_and, Bool.xor_false]
  · simp [h]
theorem biti (Y : BitVec 32) (i : Nat) : (bits .and .u32 (U Y / 2 ^ i) 1 == 1) = Y.getLsbD i := by
  rw [shr_U, bit0, BitVec.getLsbD_ushiftRight, Nat.add_zero]
theorem burstAt_skip {w1 wr : World} {l cl : List Int} {Y : BitVec 32} {k n g cap i : Nat} (h : BurstAt w1 l Y k n g cap i cl wr) (hb : Y.getLsbD i = false) : BurstAt w1 l Y k n g cap (i + 1) cl wr := by
  obtain ⟨h1, h2, h3, h4, h5⟩ := h
  refine ⟨h1, h2, h3, h4, fun j hj => ?_⟩
  rw [h5 j hj]
  by_cases e : j = k + i
  · subst e
    have : k + i - k = i := by omega
    rw [this, hb]; simp
  · have : decide (j < k + (i + 1)) = decide (j < k + i) := by simp; omega
    rw [this]
theorem burstAt_cell {w1 wr : World} {l cl : List Int} {Y : BitVec 32} {k n g cap i : Nat} (h : BurstAt w1 l Y k n g cap i cl wr) (q : Nat) (hq : q < n) :
    wr.cell? ⟨g, q, none⟩ = some (.int .u8 (cl.getD q 0)) ∧ wr.frozen? ⟨g, q, none⟩ = false := by
  obtain ⟨h1, h2, h3, h4, h5⟩ := h
  constructor
  · have := h3.cells (g := g) rfl q (.int .u8 (cl.getD q 0)) (by simp [List.getD, h1, hq])
    rw [Go.WideShapes.add_plain, Nat.zero_add] at this
    exact this
  · rcases h3.2 with ⟨hh, _⟩ | ⟨g', cap', cur, hh, _, hg, _⟩
    · cases hh
    · cases hh
      simp [World.frozen?, hg]
theorem own_set {w : World} {base n g cap q : Nat} {xs : List Value} {u : Value} (h : w.ownsRow base 5 1 (.slice (some ⟨g, 0, none⟩) n cap) n xs) (_hq : q < n) :
    (w.setCell ⟨g, q, none⟩ u).ownsRow base 5 1 (.slice (some ⟨g, 0, none⟩) n cap) n (xs.set q u) := by
  refine ⟨by simp [h.1], .inr ?_⟩
  rcases h.2 with ⟨hh, _⟩ | ⟨g', cap', cur, hh, hb, hg, h4, h5, h6, h7⟩
  · cases hh
  · cases hh
    refine ⟨g, cap, cur.setIfInBounds q u, rfl, hb, ?_, h4, h5, by simp [h6], ?_⟩
    · simp [World.setCell, Array.getElem?_modify, hg]
    · rw [← h7, Array.toList_setIfInBounds, List.take_set]

theorem bitOf_set (cl : List Int) (q r : Nat) (hq : q < cl.length) (v' : Int) (hv' : v'.toNat = (cl.getD q 0).toNat ^^^ 2 ^ r) (j : Nat) (hr : r < 8) :
    bitOf (cl.set q v') j = (bitOf cl j ^^ decide (j = 8 * q + r)) := by
  unfold bitOf
  by_cases h : j / 8 = q
  · subst h
    have e : (cl.set (j / 8) v').getD (j / 8) 0 = v' := by simp [List.getD, hq]
    rw [e, hv', Nat.testBit_xor, Nat.testBit_two_pow]
    congr 1
    by_cases e2 : r = j % 8
    · have : j = 8 * (j / 8) + r := by omega
      rw [decide_eq_true e2, decide_eq_true this]
    · have : ¬ j = 8 * (j / 8) + r := by omega
      rw [decide_eq_false e2, decide_eq_false this]
  · have e : (cl.set q v').getD (j / 8) 0 = cl.getD (j / 8) 0 := by simp [List.getD, Ne.symm h]
    have : ¬ j = 8 * q + r := by omega
    rw [e, decide_eq_false this, Bool.xor_false]
theorem burstAt_flip {w1 wr : World} {l cl : List Int} {Y : BitVec 32} {k n g cap i : Nat} (h : BurstAt w1 l Y k n g cap i cl wr) (hY : Y.getLsbD i = true) (hlt : k + i < 8 * n) (q r : Nat) (hq : q = (k + i) / 8) (hr : r = (k + i) % 8) :
    BurstAt w1 l Y k n g cap (i + 1) (cl.set q (bits .xor .u8 (cl.getD q 0) (2 ^ r % 256))) (wr.setCell ⟨g, q, none⟩ (.int .u8 (bits .xor .u8 (cl.getD q 0) (2 ^ r % 256)))).drew := by
  obtain ⟨h1, h2, h3, h4, h5⟩ := h
  have hqn : q < n := by omega
  have hr8 : r < 8 := by omega
  have hv : 0 ≤ cl.getD q 0 ∧ cl.getD q 0 ≤ 255 := by
    have hql : q < cl.length := by omega
    simpa [List.getD, hql] using h2 cl[q] (List.getElem_mem hql)
  have hp : ∀ r : Nat, r < 8 → (2 : Int) ^ r % 256 = ((2 ^ r : Nat) : Int) ∧ (2 : Nat) ^ r ≤ 255 := by decide
  obtain ⟨hp1, hp2⟩ := hp r hr8
  rw [hp1]
  obtain ⟨x1, x2, _⟩ := xor8 (cl.getD q 0) ((2 ^ r : Nat) : Int) hv ⟨by omega, by omega⟩
  have x3 : (bits .xor .u8 (cl.getD q 0) ((2 ^ r : Nat) : Int)).toNat = (cl.getD q 0).toNat ^^^ 2 ^ r := by
    rw [u8_xor _ _ hv.1 (by omega) (by omega) (by omega), Int.toNat_natCast, Int.toNat_natCast]
  generalize bits .xor .u8 (cl.getD q 0) ((2 ^ r : Nat) : Int) = v' at *
  have hb : w1.heap.size ≤ g := by
    rcases h3.2 with ⟨hh, _⟩ | ⟨g', cap', cur, hh, hb, _⟩
    · cases hh
    · cases hh; exact hb
  refine ⟨by simp [h1], fun v hm => ?_, ?_, (h4.setCell (p := ⟨g, q, none⟩) hb _).drew, fun j hj => ?_⟩
  · rcases List.mem_or_eq_of_mem_set hm with hm | rfl
    · exact h2 v hm
    · exact ⟨x1, x2⟩
  · have := own_set (u := .int .u8 v') h3 hqn
    rw [← List.map_set] at this
    exact this
  · rw [bitOf_set cl q r (by omega) v' x3 j hr8, h5 j hj]
    have e8 : 8 * q + r = k + i := by omega
    rw [e8]
    by_cases e : j = k + i
    · subst e
      have a1 : decide (k ≤ k + i) = true := by simp
      have a2 : decide (k + i < k + i) = false := by simp
      have a3 : decide (k + i < k + (i + 1)) = true := by simp
      have a4 : k + i - k = i := by omega
      rw [a1, a2, a3, a4, hY]; simp
    · have a2 : decide (j < k + (i + 1)) = decide (j < k + i) := by simp; omega
      rw [a2, decide_eq_false e, Bool.xor_false]
theorem burstAt_end {w1 wr : World} {l cl : List Int} {Y : BitVec 32} {k n g cap i : Nat} (h : BurstAt w1 l Y k n g cap i cl wr) (he : ¬ (i < 32 ∧ k + i < 8 * n)) :
    (cl.length = n ∧ (∀ v ∈ cl, 0 ≤ v ∧ v ≤ 255) ∧ ∀ j, j < 8 * n → bitOf cl j = (bitOf l j ^^ (decide (k ≤ j) && Y.getLsbD (j - k)))) ∧ n ≤ cap ∧ Bytes wr wr.heap.size (some ⟨g, 0, none⟩) n cl ∧ Below w1.heap.size w1 wr := by
  obtain ⟨h1, h2, h3, h4, h5⟩ := h
  have ho : Own w1.heap.size wr (.slice (some ⟨g, 0, none⟩) n cap) cl := by unfold Own; rw [h1]; exact h3
  obtain ⟨A, cp, e, hcp, hy⟩ := ho.bytes h2
  cases e
  refine ⟨⟨h1, h2, fun j hj => ?_⟩, by rw [← h1]; exact hcp, by rw [← h1]; exact hy, h4⟩
  rw [h5 j hj]
  by_cases hj2 : j < k + i
  · rw [decide_eq_true hj2, Bool.and_true]
  · have : Y.getLsbD (j - k) = false := BitVec.getLsbD_of_ge _ _ (by omega)
    rw [this, Bool.and_false, Bool.and_false]
theorem headBursts_walk (ee : Int) (we : (Lit.int .u8 ee).wf = true) (ff : Int) (wf : (Lit.int .u8 ff).wf = true) (ss : Int) (wss : (Lit.int .u8 ss).wf = true) (q : Int) (wq : (Lit.int .u64 q).wf = true) (s : Int) (ws : (Lit.int .u32 s).wf = true) (at_ : Int) (wat : (Lit.int .u8 at_).wf = true) (by_ : Int) (wby : (Lit.int .u32 by_).wf = true) (w : World) (hT : Tab w) :
    Calls Tryd.prog 6 #[.int .u8 ee, .int .u8 ff, .int .u8 ss, .int .u64 q, .int .u32 s, .int .u8 at_, .int .u32 by_] w fun e w' => e = .returned (.bool true) ∧ Below w.heap.size w w' := by
  obtain ⟨e0, e1⟩ := wf8 we
  obtain ⟨f0, f1⟩ := wf8 wf
  obtain ⟨s0, s1⟩ := wf8 wss
  obtain ⟨a0, a1⟩ := wf8 wat
  have hb := wf32 wby
  obtain ⟨Y, rfl⟩ : ∃ Y, by_ = U Y := ⟨Bv by_, (U_Bv by_ hb.1 hb.2).symm⟩
  have HQ := Lib.hid (wf64 wq)
  have HS := Lib.hid (wf32 ws)
  have HT := Lib.hid hT
  clear hT we wf wss wq ws wat wby hb
  go_enter Tryd.func6, Tryd.ntmps6
  go_wp2_with fail
  refine (awake_any _ _ (On.start HT.out)).mono ?_
  rintro e w1 ⟨rfl, hw1⟩
  have H1 := Lib.hid hw1
  clear hw1
  go_wp2_with fail
  obtain ⟨xa, hxa⟩ : ∃ x, ee % 11 = x := ⟨_, rfl⟩
  obtain ⟨xb, hxb⟩ : ∃ x, ff % 65 = x := ⟨_, rfl⟩
  obtain ⟨xc, hxc⟩ : ∃ x, ss % 129 = x := ⟨_, rfl⟩
  have HCAN := Lib.hid (show can xa xb xc (total xa xb xc) = true by
    unfold can right
    rw [decide_eq_true (by omega), decide_eq_true (by omega), decide_eq_true (by omega)]; simp)
  rw [hxa, hxb, hxc]
  clear hxa hxb hxc
  have HC := Lib.hid (show Tri _ _ xa xb xc from boxed3 w1 (.int .i64 xa) (.int .i64 xb) (.int .i64 xc) 23)
  have hbx := below_box w1 (.cells #[.int .i64 xa, .int .i64 xb, .int .i64 xc] 23)
  have H2 := Lib.hid (H1.out.next hbx)
  clear hbx H1
  generalize w1.alloc (.cells #[.int .i64 xa, .int .i64 xb, .int .i64 xc] 23) = W at *
  generalize w1.heap.size = p at *
  obtain ⟨x0, x1, x2⟩ := HC.out
  obtain ⟨N, hN⟩ : ∃ N, total xa xb xc = N := ⟨_, rfl⟩
  have HNN := Lib.hid hN
  rw [hN] at HCAN
  clear hN
  go_region_held3 (fun w' => w'.cell? ⟨p, 0, none⟩ = some (.int .i64 xa) ∧ w'.cell? ⟨p, 1, none⟩ = some (.int .i64 xb) ∧ w'.cell? ⟨p, 2, none⟩ = some (.int .i64 xc)) (first | (with_reducible exact Z4.out) | (with_reducible exact Z5.out) | go_keep) (first
      | (go_at_call 17; refine (total_any xa xb xc N W W.drew (On.start H2.out.tab).drew HNN.out).mono ?_; rintro e w4 ⟨rfl, hw4⟩
         have T4 := Lib.hid (HC.out.below hw4.bel)
         have z4 := T4.out
         unfold Tri at z4
         have Z4 := Lib.hid z4
         have H4 := Lib.hid (H2.out.next hw4.bel)
         clear hw4 z4)
      | (go_at_call 10; refine (enc_ok xa xb xc N q s w4 w4 (On.start H4.out.tab) HCAN.out HQ.out HS.out).mono ?_; rintro e w5 ⟨g, rfl, hw5, hg, hrow⟩
         have z5 := T4.out.below hw5.bel
         unfold Tri at z5
         have Z5 := Lib.hid z5
         have H5 := Lib.hid (H4.out.next hw5.bel)
         have R5 := Lib.hid (hrow.bytes (enc_in xa xb xc N q s) (enc_len xa xb xc N q s))
         clear hw5 hg hrow z5))
  clear x0 x1 x2 Z4 Z5 T4 HC H2 H4
  obtain ⟨v6, w6, hap, hown, hb6⟩ := clone_run w5 _ rfl _ 28 28 _ _ R5.out (Nat.le_refl _) (by omega)
  obtain ⟨A6, cap, rfl, hcap, hby6⟩ := hown.bytes (enc_in xa xb xc N q s)
  obtain ⟨g6, rfl, hg6⟩ := hown.at_ (by rw [enc_len]; omega)
  rw [enc_len] at hcap hby6 hown hap
  have AP := Lib.hid hap
  obtain ⟨k, hk, hkn⟩ : ∃ k : Nat, at_ % 224 = (k : Int) ∧ k < 224 := ⟨(at_ % 224).toNat, by omega, by omega⟩
  have BA := Lib.hid (burstAt_zero (Y := Y) (k := k) (enc_len xa xb xc N q s) (enc_in xa xb xc N q s) hown hb6)
  have DB := Lib.hid (fun l hl hv h => dec_bursts xa xb xc N q s HCAN.out HQ.out HS.out l hl hv k Y (Nat.le_of_lt hkn) h)
  obtain ⟨L, hL⟩ : ∃ L, enc xa xb xc N q s = L := ⟨_, rfl⟩
  rw [hL] at R5 BA DB
  have HKK := Lib.hid hk
  clear hap hown hb6 hby6 hcap hg6 hL hk HCAN HQ HS HNN
  go_wp2_with (at_builtin; refine Lib.wpList_append_run _ rfl _ _ _ _ rfl _ _ rfl rfl _ _ AP.out ?_)
  rw [HKK.out]
  clear AP HKK
  go_loopw [21] (fun s wr => ∃ (i : Nat) (cl : List Int), i ≤ 32 ∧ s = .int .i64 i ∧ BurstAt w5 L Y k 28 g6 cap i cl wr) (fun s _ => 32 - (intOf s).toNat)
  case atStart => exact ⟨0, L, by omega, rfl, BA.out⟩
  case round =>
    obtain ⟨i, cl, hi32, rfl, hat⟩ := hrel
    have HAT := Lib.hid hat
    clear hat BA
    by_cases hgo : i < 32 ∧ k + i < 224
    · obtain ⟨hlt, hlt2⟩ := hgo
      have hc0 : (i : Int) < 32 := by omega
      have hc1 : ((k : Int) + (i : Int)) < 224 := by omega
      have hbi := biti Y i
      cases hY : Y.getLsbD i
      · rw [hY] at hbi
        have R := Lib.hid (burstAt_skip HAT.out hY)
        clear HAT hY
        go_wp2_with fail
        go_roundw
        case rel => exact ⟨i + 1, cl, by omega, by go_num, R.out⟩
        case measure => simp [intOf]; omega
      · rw [hY] at hbi
        have HYY := Lib.hid hY
        clear hY
        obtain ⟨u, hq, hqn⟩ : ∃ q : Nat, ((k : Int) + (i : Int)) / 8 = (q : Int) ∧ q < 28 := ⟨(k + i) / 8, by omega, by omega⟩
        obtain ⟨r, hr, hr8⟩ : ∃ r : Nat, ((k : Int) + (i : Int)) % 8 = (r : Int) ∧ r < 8 := ⟨(k + i) % 8, by omega, by omega⟩
        have HU := Lib.hid (show u = (k + i) / 8 by omega)
        have HRR := Lib.hid (show r = (k + i) % 8 by omega)
        have hq0 : (0 : Int) ≤ (u : Int) := by omega
        have hq1 : (u : Int) < 28 := by omega
        obtain ⟨hcv, hcf⟩ := burstAt_cell HAT.out u hqn
        generalize hv : cl.getD u 0 = v at *
        have HV := Lib.hid hv
        clear hv
        go_wp2_with fail
        have e1 : IntKind.i64.wrap ((k : Int) + (i : Int)) = (k : Int) + (i : Int) := IntWalk.i64_in _ (by omega)
        have e2 : IntKind.i64.wrap (((k : Int) + (i : Int)).tdiv 8) = (u : Int) := by rw [Int.tdiv_eq_ediv_of_nonneg (by omega), hq]; exact IntWalk.i64_in _ (by omega)
        have e3 : ((k : Int) + (i : Int)).tmod 8 = (r : Int) := by rw [Int.tmod_eq_emod_of_nonneg (by omega), hr]
        clear hq hr
        go_still_tail 19, (by kernel_rfl)
        clear e1 e2 e3
        change wpList _ _ _ _ _ wr.drew
        go_wp2_with fail
        go_roundw
        case rel => exact ⟨i + 1, _, by omega, by go_num, by have R := burstAt_flip HAT.out HYY.out (by omega) u r HU.out HRR.out; rw [HV.out] at R; exact R⟩
        case measure => simp [intOf]; omega
    · obtain ⟨⟨hl1, hl2, hbits⟩, hcp, hcb, hbel⟩ := burstAt_end HAT.out (by omega)
      have hdb := DB.out cl hl1 hl2 hbits
      have H6 := Lib.hid (H5.out.next hbel)
      have R6 := Lib.hid (bytes_more (bytes_below R5.out hbel) hbel.size)
      have C6 := Lib.hid hcb
      have HDB := Lib.hid hdb
      clear hl1 hl2 hbits hcb hbel hdb HAT R5 H5
      obtain ⟨ya, yb, yc, yn, yq, ys, ye, hdec⟩ := decT_form cl
      have HYE := Lib.hid (show ye = decErr cl by
        unfold decT at hdec
        injection hdec with hh
        injection hh with hh
        injection hh with _ hh
        injection hh with hh
        injection hh with _ hh
        exact hh.symm)
      have HD := Lib.hid hdec
      clear hdec
      by_cases hlt : i < 32
      · have hc0 : (i : Int) < 32 := by omega
        have hc1 : decide (((k : Int) + (i : Int)) < 224) = false := by simp; omega
        go_wp2_with fail
        refine (dec_any _ 28 cap _ cl _ _ (On.start H6.out.tab) hcp C6.out (Nat.le_refl _)).mono ?_
        rw [HD.out]
        rintro e w7 ⟨rfl, hw7⟩
        have hbx := below_box w7 (.cells #[.int .i64 ya, .int .i64 yb, .int .i64 yc, .int .i64 yn, .int .u64 yq, .int .u32 ys] 27)
        have H7 := Lib.hid ((H6.out.next hw7.bel).next hbx)
        have R7 := Lib.hid (bytes_more (bytes_below (bytes_more (bytes_below R6.out hw7.bel) hw7.bel.size) hbx) hbx.size)
        have C7 := Lib.hid (bytes_more (bytes_below (bytes_more (bytes_below C6.out hw7.bel) hw7.bel.size) hbx) hbx.size)
        clear hw7 hbx H6 R6 C6
        go_wp2_with fail
        refine (same_any _ _ 28 _ _ _ L cl _ (by unfold maxLen; omega) R7.out C7.out (Nat.le_refl _)).mono ?_
        rintro e w8 ⟨rfl, hw8⟩
        have H8 := Lib.hid (H7.out.next hw8)
        have HF := Lib.hid (show ((ye == 0) == decide (L = cl)) = true by
          rw [HYE.out]
          by_cases h : L = cl
          · rw [decide_eq_true h, HDB.out.2 h]; rfl
          · have h2 : ¬ decErr cl = 0 := fun e => h (HDB.out.1 e)
            rw [beq_eq_false_iff_ne.2 h2, decide_eq_false h]; rfl)
        obtain ⟨t, ht⟩ : ∃ t, decide (L = cl) = t := ⟨_, rfl⟩
        rw [ht] at HF ⊢
        clear hw8 ht HDB HYE HD
        go_wp2_with fail
        go_ret
        exact ⟨ret_bool HF.out, H8.out.bel⟩
      · have hc0 : ¬ (i : Int) < 32 := by omega
        have hc1 : decide ((i : Int) < 32) = false := by simp; omega
        go_wp2_with fail
        refine (dec_any _ 28 cap _ cl _ _ (On.start H6.out.tab) hcp C6.out (Nat.le_refl _)).mono ?_
        rw [HD.out]
        rintro e w7 ⟨rfl, hw7⟩
        have hbx := below_box w7 (.cells #[.int .i64 ya, .int .i64 yb, .int .i64 yc, .int .i64 yn, .int .u64 yq, .int .u32 ys] 27)
        have H7 := Lib.hid ((H6.out.next hw7.bel).next hbx)
        have R7 := Lib.hid (bytes_more (bytes_below (bytes_more (bytes_below R6.out hw7.bel) hw7.bel.size) hbx) hbx.size)
        have C7 := Lib.hid (bytes_more (bytes_below (bytes_more (bytes_below C6.out hw7.bel) hw7.bel.size) hbx) hbx.size)
        clear hw7 hbx H6 R6 C6
        go_wp2_with fail
        refine (same_any _ _ 28 _ _ _ L cl _ (by unfold maxLen; omega) R7.out C7.out (Nat.le_refl _)).mono ?_
        rintro e w8 ⟨rfl, hw8⟩
        have H8 := Lib.hid (H7.out.next hw8)
        have HF := Lib.hid (show ((ye == 0) == decide (L = cl)) = true by
          rw [HYE.out]
          by_cases h : L = cl
          · rw [decide_eq_true h, HDB.out.2 h]; rfl
          · have h2 : ¬ decErr cl = 0 := fun e => h (HDB.out.1 e)
            rw [beq_eq_false_iff_ne.2 h2, decide_eq_false h]; rfl)
        obtain ⟨t, ht⟩ : ∃ t, decide (L = cl) = t := ⟨_, rfl⟩
        rw [ht] at HF ⊢
        clear hw8 ht HDB HYE HD
        go_wp2_with fail
        go_ret
        exact ⟨ret_bool HF.out, H8.out.bel⟩
end Go.Proofs.YtdafmjklkggbgaaDoor
