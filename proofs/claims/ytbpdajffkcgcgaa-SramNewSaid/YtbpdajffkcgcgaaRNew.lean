/-
  THE WALKS OF geo.Sram, THE DOCUMENT'S Sram, make([]byte, n), Fill, New, Copy; of keepsakelaw12.made.
-/
import Derived.Test.YtbpdajffkcgcgaaRGet
namespace Go.Proofs.Ytbpdajffkcgcgaa
open Go.RowKit
set_option maxRecDepth 20000

def sramOf (k : Int) : Int := if 0 ≤ k ∧ k ≤ 128 then 64 * k else 0
theorem mayBe_any (k top : Int) (r : Bool) (w : World) (hr : decide (0 ≤ k ∧ k ≤ top) = r) : Calls Try.prog 28 #[.int .i64 k, .int .i64 top] w fun e w' => e = .returned (.bool r) ∧ w = w' := by
  by_cases h0 : 0 ≤ k
  · by_cases h1 : k ≤ top
    · obtain rfl : r = true := hr.symm.trans (decide_eq_true ⟨h0, h1⟩)
      clear hr
      go_enter Try.func28, Try.ntmps28
      go_wp2_with fail
      go_ret
      exact ⟨rfl, rfl⟩
    · obtain rfl : r = false := hr.symm.trans (decide_eq_false fun e => h1 e.2)
      clear hr
      have h1' : decide (k ≤ top) = false := decide_eq_false h1
      go_enter Try.func28, Try.ntmps28
      go_wp2_with fail
      go_ret
      exact ⟨rfl, rfl⟩
  · obtain rfl : r = false := hr.symm.trans (decide_eq_false fun e => h0 e.1)
    clear hr
    have h0' : decide (0 ≤ k) = false := decide_eq_false h0
    go_enter Try.func28, Try.ntmps28
    go_wp2_with fail
    go_ret
    exact ⟨rfl, rfl⟩
theorem geoSram_any (k : Int) (w : World) : Calls Try.prog 26 #[.int .i64 k] w fun e w' => e = .returned (.int .i64 (sramOf k)) ∧ w = w' := by
  have key : Calls Try.prog 27 #[.int .i64 k, .int .i64 128, .int .i64 64] w fun e w' => e = .returned (.int .i64 (sramOf k)) ∧ w = w' := by
    by_cases h : 0 ≤ k ∧ k ≤ 128
    · have HR := Lib.hid (show sramOf k = k * 64 by unfold sramOf; rw [if_pos h]; omega)
      have HD := Lib.hid (show decide (0 ≤ k ∧ k ≤ 128) = true from decide_eq_true h)
      obtain ⟨h0, h1⟩ := h
      go_enter Try.func27, Try.ntmps27
      go_wp2_with fail
      refine (mayBe_any k 128 _ w HD.out).mono ?_
      rintro e w1 ⟨rfl, rfl⟩
      go_wp2_with fail
      go_ret
      rw [HR.out]
      exact ⟨rfl, rfl⟩
    · have HR := Lib.hid (show sramOf k = 0 from if_neg h)
      have HD := Lib.hid (show decide (0 ≤ k ∧ k ≤ 128) = false from decide_eq_false h)
      clear h
      go_enter Try.func27, Try.ntmps27
      go_wp2_with fail
      refine (mayBe_any k 128 _ w HD.out).mono ?_
      rintro e w1 ⟨rfl, rfl⟩
      go_wp2_with fail
      go_ret
      rw [HR.out]
      exact ⟨rfl, rfl⟩
  have HK := Lib.hid key
  clear key
  go_enter Try.func26, Try.ntmps26
  go_wp2_with fail
  refine HK.out.mono ?_
  rintro e w1 ⟨rfl, rfl⟩
  go_wp2_with fail
  go_ret
  exact ⟨rfl, rfl⟩
theorem refSram_any (k : Int) (w : World) : Calls Try.prog 21 #[.int .i64 k] w fun e w' => e = .returned (.int .i64 (sramOf k)) ∧ w = w' := by
  by_cases h0 : 0 ≤ k
  · by_cases h1 : k ≤ 128
    · have HR := Lib.hid (show sramOf k = 64 * k by unfold sramOf; rw [if_pos ⟨h0, h1⟩])
      go_enter Try.func21, Try.ntmps21
      go_wp2_with fail
      go_ret
      rw [HR.out]
      exact ⟨rfl, rfl⟩
    · have HR := Lib.hid (show sramOf k = 0 from if_neg fun e => h1 e.2)
      go_enter Try.func21, Try.ntmps21
      go_wp2_with fail
      go_ret
      rw [HR.out]
      exact ⟨rfl, rfl⟩
  · have HR := Lib.hid (show sramOf k = 0 from if_neg fun e => h0 e.1)
    go_enter Try.func21, Try.ntmps21
    go_wp2_with fail
    go_ret
    rw [HR.out]
    exact ⟨rfl, rfl⟩
theorem made_cells (n : Nat) : madeCells #[Value.int .u8 0] n = ((List.replicate n (0 : Int)).map (Value.int .u8)).toArray := by
  apply Array.ext'
  apply List.ext_getElem
  · simp [madeCells]
  · intro i h1 h2
    simp [madeCells, Nat.mod_one]
theorem make_bytes (n : Nat) (h : n ≤ 1000000) (w : World) : (Instr.makeSlice 22 (.int .i64 n) (.int .i64 n)).run Try.prog w = .ok (.slice (some ⟨w.heap.size, 0, none⟩) n n) (w.alloc (.cells (madeCells #[Value.int .u8 0] n) 5)) :=
  run_make_row' (P := Try.prog) 22 5 (.int .u8 0) 1 Try.underlying22 elemB.info rfl .i64 .i64 n (by omega) (by omega) w
theorem made_own (w : World) (n : Nat) (h : n ≤ 1000000) : OwnK .u8 5 w.heap.size (w.alloc (.cells (madeCells #[Value.int .u8 0] n) 5)) (.slice (some ⟨w.heap.size, 0, none⟩) n n) (List.replicate n 0) := by
  unfold OwnK
  refine ⟨by simp, .inr ⟨w.heap.size, n, _, by simp, Nat.le_refl _, heap_alloc_new w _, by simp, by unfold maxLen; omega, ?_, ?_⟩⟩
  · rw [made_cells]; simp
  · rw [made_cells]; simp

/-- so many bytes, of some again and again -/
def fillL (b : List Int) (m : Nat) : List Int := (List.range m).map fun i => b.getD (i % b.length) 0
theorem fillL_len (b : List Int) (m : Nat) : (fillL b m).length = m := by simp [fillL]
theorem fillL_get (b : List Int) (m i : Nat) (h : i < m) : (fillL b m).getD i 0 = b.getD (i % b.length) 0 := by simp [fillL, List.getD, h]
theorem fillL_in {b : List Int} (m : Nat) (h : ∀ v ∈ b, 0 ≤ v ∧ v ≤ 255) : ∀ v ∈ fillL b m, 0 ≤ v ∧ v ≤ 255 := by
  intro v hv
  obtain ⟨i, _, rfl⟩ := List.mem_map.1 hv
  exact Ram.getD_in h _
theorem fillL_nil (m : Nat) : fillL [] m = List.replicate m 0 := by
  refine ext_getD (by simp [fillL_len]) fun j hj => ?_
  rw [fillL_len] at hj
  rw [fillL_get _ _ _ hj]
  simp [List.getD, hj]
/-- as far as it has come -/
def fillAt (b : List Int) (m k : Nat) : List Int := (fillL b m).take k ++ List.replicate (m - k) 0
theorem fillAt_len (b : List Int) (m k : Nat) (h : k ≤ m) : (fillAt b m k).length = m := by simp [fillAt, fillL_len]; omega
theorem fillAt_start (b : List Int) (m : Nat) : fillAt b m 0 = List.replicate m 0 := by simp [fillAt]
theorem fillAt_end (b : List Int) (m : Nat) : fillAt b m m = fillL b m := by
  unfold fillAt
  rw [List.take_of_length_le (by rw [fillL_len]; exact Nat.le_refl _)]
  simp
theorem fillAt_get (b : List Int) (m k j : Nat) (hk : k ≤ m) (hj : j < m) : (fillAt b m k).getD j 0 = if j < k then b.getD (j % b.length) 0 else 0 := by
  unfold fillAt
  by_cases h : j < k
  · rw [if_pos h, ← fillL_get b m j hj]
    have : j < ((fillL b m).take k).length := by rw [List.length_take, fillL_len]; omega
    simp [List.getD, List.getElem?_append_left this, h]
  · rw [if_neg h]
    have : ((fillL b m).take k).length ≤ j := by rw [List.length_take, fillL_len]; omega
    rw [List.getD, List.getElem?_append_right this]
    simp [List.getElem?_replicate]
    split <;> rfl
theorem fillAt_step (b : List Int) (m k : Nat) (h : k < m) : (fillAt b m k).set k (b.getD (k % b.length) 0) = fillAt b m (k + 1) := by
  refine ext_getD (by rw [fillAt_len _ _ _ (by omega), List.length_set, fillAt_len _ _ _ (by omega)]) fun j hj => ?_
  rw [List.length_set, fillAt_len _ _ _ (by omega)] at hj
  rw [fillAt_get _ _ _ _ (by omega) hj]
  by_cases e : k = j
  · subst e
    rw [if_pos (by omega)]
    simp [List.getD, fillAt_len b m k (by omega), h]
  · rw [show ((fillAt b m k).set k (b.getD (k % b.length) 0)).getD j 0 = (fillAt b m k).getD j 0 by simp [List.getD, e], fillAt_get _ _ _ _ (by omega) hj]
    by_cases h1 : j < k
    · rw [if_pos h1, if_pos (by omega)]
    · rw [if_neg h1, if_neg (by omega)]

set_option maxRecDepth 100000 in
set_option maxHeartbeats 4000000 in
theorem fill_any (A : Option Addr) (n c B m : Nat) (b : List Int) (w : World) (hl : Nums .u8 w B A n b) (hB : B ≤ w.heap.size) (hm : m ≤ 100000) (hn : n ≤ 1000000) :
    Calls Try.prog 9 #[.slice A n c, .int .i64 m] w fun e w' => ∃ v, e = .returned v ∧ OwnK .u8 5 w.heap.size w' v (fillL b m) ∧ Below w.heap.size w w' := by
  have HL := Lib.hid hl
  have HO := Lib.hid (made_own w m (by omega))
  have HB := Lib.hid (below_box w (.cells (madeCells #[Value.int .u8 0] m) 5))
  have hmb := make_bytes m (by omega)
  have HLEN := Lib.hid hl.1
  clear hl
  go_enter Try.func9, Try.ntmps9
  go_wp2_with fail
  clear hmb
  go_loopw [6] (fun i wr => ∃ k : Nat, k ≤ m ∧ i = .int .i64 k ∧ OwnK .u8 5 w.heap.size wr (.slice (some ⟨w.heap.size, 0, none⟩) m m) (fillAt b m k) ∧ Below w.heap.size w wr ∧ (n = 0 → k = 0)) (fun i _ => m - (intOf i).toNat)
  case atStart => exact ⟨0, Nat.zero_le _, rfl, by rw [fillAt_start]; exact HO.out, HB.out, fun _ => rfl⟩
  case round =>
    obtain ⟨k, hk, rfl, ho, hb, hk0⟩ := hrel
    have HO1 := Lib.hid ho
    have HB1 := Lib.hid hb
    have HK0 := Lib.hid hk0
    clear ho hb hk0
    by_cases hlt : k < m
    · by_cases hn0 : 0 < n
      · have hk1 : (k : Int) < (m : Int) := by omega
        have hki : (0 : Int) ≤ (k : Int) := by omega
        have hn1 : (0 : Int) < (n : Int) := by omega
        have hkn : k % n < n := Nat.mod_lt _ hn0
        obtain ⟨bb, oo, rfl, cb⟩ := HL.out.cell (HB1.out.mono hB) (k % n) hkn
        have HS := Lib.hid (fillAt_step b m k hlt)
        have hbl : b.length = n := HLEN.out
        rw [hbl] at HS
        clear hbl
        generalize b.getD (k % n) 0 = y at *
        obtain ⟨A9, c9, e9, _, hmine⟩ := HO1.out.mine
        injection e9 with e1 e2 e3
        clear e3
        rw [fillAt_len _ _ _ (by omega)] at hmine
        clear e2
        obtain ⟨g, e4, _, _, hgc⟩ := (e1 ▸ hmine).2 (by omega)
        injection e4 with e4
        injection e4 with e4
        subst e4
        obtain ⟨c2, f2⟩ := hgc k hlt
        have HOW := Lib.hid (show OwnK .u8 5 w.heap.size (wr.setCell ⟨w.heap.size, k, none⟩ (.int .u8 y)) (.slice (some ⟨w.heap.size, 0, none⟩) m m) (fillAt b m (k + 1)) by rw [← HS.out]; exact HO1.out.put (by rw [fillAt_len _ _ _ (by omega)]) k y)
        have HBW := Lib.hid (HB1.out.setCell (p := ⟨w.heap.size, k, none⟩) (Nat.le_refl _) (.int .u8 y))
        clear hmine e1 hgc
        go_wp2_with fail
        go_roundw
        case rel => exact ⟨k + 1, by omega, by go_num, HOW.out, HBW.out, fun h => by omega⟩
        case measure => simp [intOf]; omega
      · obtain rfl : n = 0 := by omega
        obtain rfl : k = 0 := HK0.out rfl
        have hb0 : b = [] := List.eq_nil_of_length_eq_zero HLEN.out
        have HR := Lib.hid (show fillAt b m 0 = fillL b m by rw [fillAt_start, hb0, fillL_nil])
        clear hb0
        go_wp2_with fail
        go_ret
        rw [HR.out] at HO1
        exact ⟨_, rfl, HO1.out, HB1.out⟩
    · obtain rfl : k = m := by omega
      go_wp2_with fail
      go_ret
      rw [fillAt_end] at HO1
      exact ⟨_, rfl, HO1.out, HB1.out⟩
/-- a new chip: its blocks are new -/
def NewAt (w w' : World) (s : Ram) (v : Value) : Prop := ∃ p d cap, v = .pointer (some ⟨p, 0, none⟩) ∧ ChipAt w' p d cap s ∧ w.heap.size ≤ p ∧ w.heap.size ≤ d ∧ Below w.heap.size w w'
theorem OwnK.lower {k : IntKind} {t base low : Nat} {w : World} {v : Value} {l : List Int} (h : OwnK k t base w v l) (hl : low ≤ base) : OwnK k t low w v l := by
  refine ⟨h.1, ?_⟩
  rcases h.2 with h0 | ⟨g, cap, cur, h1, h2, r⟩
  · exact .inl h0
  · exact .inr ⟨g, cap, cur, h1, Nat.le_trans hl h2, r⟩
/-- a box about a row of the call's own -/
theorem chip_new {w w1 : World} {d cap : Nat} {s : Ram} (hv : OwnK .u8 5 w.heap.size w1 (.slice (some ⟨d, 0, none⟩) s.data.length cap) s.data) (hb : Below w.heap.size w w1) (h1 : 1 ≤ s.data.length) :
    NewAt w (w1.alloc (.cells (cellsOf d cap s) 32)) s (.pointer (some ⟨w1.heap.size, 0, none⟩)) := by
  have hs := hb.size
  have hd := (hv.lt (g := d) rfl).1
  have hb4 := below_box w1 (.cells (cellsOf d cap s) 32)
  exact ⟨_, d, cap, rfl, ⟨Blk.new w1 _ _, (hv.lower (Nat.zero_le _)).below hb4, h1⟩, hs, hd, hb.trans (hb4.mono hs)⟩
def fresh (bs : List Int) : Ram := ⟨false, bs⟩
set_option maxRecDepth 100000 in
set_option maxHeartbeats 4000000 in
theorem newChip_ok (k : Nat) (A : Option Addr) (n c B : Nat) (bs : List Int) (w : World) (hl : Nums .u8 w B A n bs) (hB : B ≤ w.heap.size) (hk : 1 ≤ k ∧ k ≤ 128) (hn : n = 64 * k) :
    Calls Try.prog 20 #[.int .i64 k, .slice A n c] w fun e w' => ∃ v, e = .returned (.tuple #[v, .int .i64 0]) ∧ NewAt w w' (fresh bs) v := by
  have HL := Lib.hid hl
  have HF := Lib.hid (show sramOf k = (n : Int) by unfold sramOf; rw [if_pos (by omega)]; omega)
  have h0 : ((n : Int) == 0) = false := by simp; omega
  have h1 : ((n : Int) != (n : Int)) = false := by simp
  have hn6 : n ≤ 1000000 := by omega
  have HQ := Lib.hid hn6
  have HN1 := Lib.hid (show 1 ≤ n by omega)
  clear hl hk hn
  go_enter Try.func20, Try.ntmps20
  go_wp2_with fail
  refine (geoSram_any k w).mono ?_
  rintro e w1 ⟨rfl, rfl⟩
  rw [HF.out]
  go_wp2_with fail
  refine (clone_any w A n c B bs HL.out hB HQ.out).mono ?_
  rintro e w2 ⟨v, rfl, hv, hb2⟩
  have hlen : bs.length = n := HL.out.1
  have HV := Lib.hid hv
  have HB2 := Lib.hid hb2
  obtain ⟨A2, c2, rfl, _, hm2⟩ := hv.mine
  obtain ⟨d, rfl, _⟩ := hm2.2 (by rw [hlen]; exact HN1.out)
  clear hv hb2 hm2 hlen
  go_wp2_with fail
  go_ret2
  exact ⟨_, rfl, chip_new (s := fresh bs) HV.out HB2.out (by show 1 ≤ bs.length; rw [HL.out.1]; exact HN1.out)⟩
set_option maxHeartbeats 4000000 in
theorem newChip_no (k : Int) (A : Option Addr) (n c : Nat) (w : World) (hn : sramOf k = 0 ∨ (n : Int) ≠ sramOf k) :
    Calls Try.prog 20 #[.int .i64 k, .slice A n c] w fun e w' => e = .returned (.tuple #[.pointer none, .int .i64 1]) ∧ w = w' := by
  obtain ⟨z, hz⟩ : ∃ z, sramOf k = z := ⟨_, rfl⟩
  have HZ := Lib.hid hz
  rw [hz] at hn
  by_cases h0 : z = 0
  · have h0' : (z == 0) = true := by simp [h0]
    clear hz hn h0
    go_enter Try.func20, Try.ntmps20
    go_wp2_with fail
    refine (geoSram_any k w).mono ?_
    rintro e w1 ⟨rfl, rfl⟩
    rw [HZ.out]
    go_wp2_with fail
    go_ret2
    exact ⟨rfl, rfl⟩
  · have h0' : (z == 0) = false := by simp [h0]
    have h1 : ((n : Int) != z) = true := by
      rcases hn with h | h
      · exact absurd h h0
      · simp [h]
    clear hz hn h0
    go_enter Try.func20, Try.ntmps20
    go_wp2_with fail
    refine (geoSram_any k w).mono ?_
    rintro e w1 ⟨rfl, rfl⟩
    rw [HZ.out]
    go_wp2_with fail
    go_ret2
    exact ⟨rfl, rfl⟩
set_option maxRecDepth 100000 in
set_option maxHeartbeats 4000000 in
theorem copy_any (w : World) (p d cap : Nat) (s : Ram) (h : ChipAt w p d cap s) (hok : s.Ok) :
    Calls Try.prog 23 #[.pointer (some ⟨p, 0, none⟩)] w fun e w' => ∃ v, e = .returned v ∧ NewAt w w' s v := by
  have HC := Lib.hid h
  have HO := Lib.hid hok
  have c0 := h.blk.cell 0
  simp only [cellsOf, List.getElem?_toArray, List.getElem?_cons_zero] at c0
  have hlt := h.blk.lt
  have HQ := Lib.hid (show ∀ w3, ChipAt w3 p d cap s → w3.cell? ⟨p, 0, none⟩ = some (.bool s.op) from fun w3 h3 => h3.blk.cell 0)
  clear h hok
  go_enter Try.func23, Try.ntmps23
  go_wp2_with fail
  go_region_with (go_at_call 18; refine (bytes_new _ p d cap s (HC.out.below (below_drew w)) HO.out).mono ?_; rintro e' w3 ⟨g, c2, rfl, hg1, hg2, hv, hb⟩; have c9 := HQ.out w3 ((HC.out.below (below_drew w)).below hb))
  all_goals
    have HE := Lib.hid (chip_new (w := w) (s := s) (show OwnK .u8 5 w.heap.size w3 (.slice (some ⟨g, 0, none⟩) s.data.length c2) s.data from hv) ((below_drew w).trans hb) HO.out.len.1)
    clear hv hb c9 hg1 hg2
    go_wp2_with fail
    go_ret
    exact ⟨_, rfl, HE.out⟩
def made (k : Nat) (b : List Int) : Ram := fresh (fillL b (64 * k))
theorem made_ok {k : Nat} {b : List Int} (hk : 1 ≤ k ∧ k ≤ 128) (hb : ∀ v ∈ b, 0 ≤ v ∧ v ≤ 255) : (made k b).Ok :=
  ⟨by show 1 ≤ (fillL b (64 * k)).length ∧ (fillL b (64 * k)).length ≤ 8192; rw [fillL_len]; omega, fillL_in _ hb⟩
set_option maxHeartbeats 4000000 in
theorem made_any (k : Nat) (A : Option Addr) (n c B : Nat) (b : List Int) (w : World) (hl : Nums .u8 w B A n b) (hB : B ≤ w.heap.size) (hn : n ≤ 1000000) (hk : 1 ≤ k ∧ k ≤ 128) :
    Calls Try.prog 10 #[.int .i64 k, .slice A n c] w fun e w' => ∃ v, e = .returned v ∧ NewAt w w' (made k b) v := by
  have HL := Lib.hid hl
  have HN := Lib.hid hn
  have HK := Lib.hid hk
  obtain ⟨hk0, hk1⟩ := hk
  have HM := Lib.hid (show (64 * (k : Int)) = ((64 * k : Nat) : Int) by omega)
  clear hl hn
  go_enter Try.func10, Try.ntmps10
  go_wp2_with fail
  rw [HM.out]
  refine (fill_any A n c B (64 * k) b w HL.out hB (by omega) HN.out).mono ?_
  rintro e w1 ⟨v, rfl, hv, hb1⟩
  obtain ⟨A2, c2, rfl, _, hm2⟩ := hv.mine
  rw [fillL_len] at hm2 ⊢
  have HV := Lib.hid (hm2.nums fun x hx => byte_wf (fillL_in (64 * k) HL.out.byte x hx))
  have HB1 := Lib.hid hb1
  clear hv hb1 hm2
  go_wp2_with fail
  refine (newChip_ok k A2 (64 * k) c2 w1.heap.size (fillL b (64 * k)) w1 HV.out (Nat.le_refl _) HK.out rfl).mono ?_
  rintro e w2 ⟨v, rfl, p, d, cap, rfl, hc, hp, hd, hb2⟩
  have HC := Lib.hid hc
  have HP := Lib.hid hp
  have HD := Lib.hid hd
  have HB2 := Lib.hid hb2
  clear hc hp hd hb2
  go_wp2_with fail
  go_ret
  have s1 := HB1.out.size
  have := HP.out
  have := HD.out
  exact ⟨.pointer (some ⟨p, 0, none⟩), rfl, p, d, cap, rfl, HC.out, by omega, by omega, HB1.out.trans (HB2.out.mono s1)⟩
end Go.Proofs.Ytbpdajffkcgcgaa
