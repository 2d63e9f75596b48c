/-
  make([]byte, n); THE WALK OF keepsakeref10.Fill.
-/
import Derived.Test.YtfcdlnpfneinlaaDoorEWrite
import Derived.Test.YtfcdlnpfneinlaaDoorBClone
namespace Go.Proofs.YtfcdlnpfneinlaaDoor
open Go.RowKit
set_option maxRecDepth 20000

theorem made_cells (n : Nat) : madeCells #[Value.int .u8 0] n = ((List.replicate n (0 : Int)).map (Value.int .u8)).toArray := by
  apply Array.ext'
  apply List.ext_getElem
  · simp [madeCells]
  · intro i h1 h2
    simp [madeCells, Nat.mod_one]
theorem make_bytes (n : Nat) (h : n ≤ 1000000) (w : World) : (Instr.makeSlice 22 (.int .i64 n) (.int .i64 n)).run Tryd.prog w = .ok (.slice (some ⟨w.heap.size, 0, none⟩) n n) (w.alloc (.cells (madeCells #[Value.int .u8 0] n) 5)) :=
  run_make_row' (P := Tryd.prog) 22 5 (.int .u8 0) 1 Tryd.underlying22 elemB.info rfl .i64 .i64 n (by omega) (by omega) w
theorem made_own (w : World) (n : Nat) (h : n ≤ 1000000) : OwnK .u8 5 w.heap.size (w.alloc (.cells (madeCells #[Value.int .u8 0] n) 5)) (.slice (some ⟨w.heap.size, 0, none⟩) n n) (List.replicate n 0) := by
  unfold OwnK
  refine ⟨by simp, .inr ⟨w.heap.size, n, _, by simp, Nat.le_refl _, heap_alloc_new w _, by simp, by unfold maxLen; omega, ?_, ?_⟩⟩
  · rw [made_cells]; simp
  · rw [made_cells]; simp

/-- so many bytes, of some again and again -/
def fillL (b : List Int) (m : Nat) : List Int := (List.range m).map fun i => b.getD (i % b.length) 0
theorem fillL_len (b : List Int) (m : Nat) : (fillL b m).length = m := by simp [fillL]
theorem fillL_get (b : List Int) (m i : Nat) (h : i < m) : (fillL b m).getD i 0 = b.getD (i % b.length) 0 := by simp [fillL, List.getD, h]
theorem fillL_in {b : List Int} (m : Nat) (h : ∀ v ∈ b, 0 ≤ v ∧ v ≤ 255) : ∀ v ∈ fillL b m, 0 ≤ v ∧ v ≤ 255 := by
  intro v hv
  obtain ⟨i, _, rfl⟩ := List.mem_map.1 hv
  exact Chip.getD_in h _
theorem fillL_nil (m : Nat) : fillL [] m = List.replicate m 0 := by
  refine ext_getD (by simp [fillL_len]) fun j hj => ?_
  rw [fillL_len] at hj
  rw [fillL_get _ _ _ hj]
  simp [List.getD, hj]
/-- as far as it has come -/
def fillAt (b : List Int) (m k : Nat) : List Int := (fillL b m).take k ++ List.replicate (m - k) 0
theorem fillAt_len (b : List Int) (m k : Nat) (h : k ≤ m) : (fillAt b m k).length = m := by simp [fillAt, fillL_len]; omega
theorem fillAt_start (b : List Int) (m : Nat) : fillAt b m 0 = List.replicate m 0 := by simp [fillAt]
theorem fillAt_end (b : List Int) (m : Nat) : fillAt b m m = fillL b m := by
  unfold fillAt
  rw [List.take_of_length_le (by rw [fillL_len]; exact Nat.le_refl _)]
  simp
theorem fillAt_get (b : List Int) (m k j : Nat) (hk : k ≤ m) (hj : j < m) : (fillAt b m k).getD j 0 = if j < k then b.getD (j % b.length) 0 else 0 := by
  unfold fillAt
  by_cases h : j < k
  · rw [if_pos h, ← fillL_get b m j hj]
    have : j < ((fillL b m).take k).length := by rw [List.length_take, fillL_len]; omega
    simp [List.getD, List.getElem?_append_left this, h]
  · rw [if_neg h]
    have : ((fillL b m).take k).length ≤ j := by rw [List.length_take, fillL_len]; omega
    rw [List.getD, List.getElem?_append_right this]
    simp [List.getElem?_replicate]
    split <;> rfl
theorem fillAt_step (b : List Int) (m k : Nat) (h : k < m) : (fillAt b m k).set k (b.getD (k % b.length) 0) = fillAt b m (k + 1) := by
  refine ext_getD (by rw [fillAt_len _ _ _ (by omega), List.length_set, fillAt_len _ _ _ (by omega)]) fun j hj => ?_
  rw [List.length_set, fillAt_len _ _ _ (by omega)] at hj
  rw [fillAt_get _ _ _ _ (by omega) hj]
  by_cases e : k = j
  · subst e
    rw [if_pos (by omega)]
    simp [List.getD, fillAt_len b m k (by omega), h]
  · rw [show ((fillAt b m k).set k (b.getD (k % b.length) 0)).getD j 0 = (fillAt b m k).getD j 0 by simp [List.getD, e], fillAt_get _ _ _ _ (by omega) hj]
    by_cases h1 : j < k
    · rw [if_pos h1, if_pos (by omega)]
    · rw [if_neg h1, if_neg (by omega)]

set_option maxRecDepth 100000 in
set_option maxHeartbeats 4000000 in
theorem fill_any (A : Option Addr) (n c B m : Nat) (b : List Int) (w : World) (hl : Nums .u8 w B A n b) (hB : B ≤ w.heap.size) (hm : m ≤ 100000) (hn : n ≤ 1000000) :
    Calls Tryd.prog 11 #[.slice A n c, .int .i64 m] w fun e w' => ∃ v, e = .returned v ∧ OwnK .u8 5 w.heap.size w' v (fillL b m) ∧ Below w.heap.size w w' := by
  have HL := Lib.hid hl
  have HO := Lib.hid (made_own w m (by omega))
  have HB := Lib.hid (below_box w (.cells (madeCells #[Value.int .u8 0] m) 5))
  have hmb := make_bytes m (by omega)
  have HLEN := Lib.hid hl.1
  clear hl
  go_enter Tryd.func11, Tryd.ntmps11
  go_wp2_with fail
  clear hmb
  go_loopw [6] (fun i wr => ∃ k : Nat, k ≤ m ∧ i = .int .i64 k ∧ OwnK .u8 5 w.heap.size wr (.slice (some ⟨w.heap.size, 0, none⟩) m m) (fillAt b m k) ∧ Below w.heap.size w wr ∧ (n = 0 → k = 0)) (fun i _ => m - (intOf i).toNat)
  case atStart => exact ⟨0, Nat.zero_le _, rfl, by rw [fillAt_start]; exact HO.out, HB.out, fun _ => rfl⟩
  case round =>
    obtain ⟨k, hk, rfl, ho, hb, hk0⟩ := hrel
    have HO1 := Lib.hid ho
    have HB1 := Lib.hid hb
    have HK0 := Lib.hid hk0
    clear ho hb hk0
    by_cases hlt : k < m
    · by_cases hn0 : 0 < n
      · have hk1 : (k : Int) < (m : Int) := by omega
        have hki : (0 : Int) ≤ (k : Int) := by omega
        have hn1 : (0 : Int) < (n : Int) := by omega
        have hkn : k % n < n := Nat.mod_lt _ hn0
        obtain ⟨bb, oo, rfl, cb⟩ := HL.out.cell (HB1.out.mono hB) (k % n) hkn
        have HS := Lib.hid (fillAt_step b m k hlt)
        have hbl : b.length = n := HLEN.out
        rw [hbl] at HS
        clear hbl
        generalize b.getD (k % n) 0 = y at *
        obtain ⟨A9, c9, e9, _, hmine⟩ := HO1.out.mine
        injection e9 with e1 e2 e3
        clear e3
        rw [fillAt_len _ _ _ (by omega)] at hmine
        clear e2
        obtain ⟨g, e4, _, _, hgc⟩ := (e1 ▸ hmine).2 (by omega)
        injection e4 with e4
        injection e4 with e4
        subst e4
        obtain ⟨c2, f2⟩ := hgc k hlt
        have HOW := Lib.hid (show OwnK .u8 5 w.heap.size (wr.setCell ⟨w.heap.size, k, none⟩ (.int .u8 y)) (.slice (some ⟨w.heap.size, 0, none⟩) m m) (fillAt b m (k + 1)) by rw [← HS.out]; exact HO1.out.put (by rw [fillAt_len _ _ _ (by omega)]) k y)
        have HBW := Lib.hid (HB1.out.setCell (p := ⟨w.heap.size, k, none⟩) (Nat.le_refl _) (.int .u8 y))
        clear hmine e1 hgc
        go_wp2_with fail
        go_roundw
        case rel => exact ⟨k + 1, by omega, by go_num, HOW.out, HBW.out, fun h => by omega⟩
        case measure => simp [intOf]; omega
      · obtain rfl : n = 0 := by omega
        obtain rfl : k = 0 := HK0.out rfl
        have hb0 : b = [] := List.eq_nil_of_length_eq_zero HLEN.out
        have HR := Lib.hid (show fillAt b m 0 = fillL b m by rw [fillAt_start, hb0, fillL_nil])
        clear hb0
        go_wp2_with fail
        go_ret
        rw [HR.out] at HO1
        exact ⟨_, rfl, HO1.out, HB1.out⟩
    · obtain rfl : k = m := by omega
      go_wp2_with fail
      go_ret
      rw [fillAt_end] at HO1
      exact ⟨_, rfl, HO1.out, HB1.out⟩
end Go.Proofs.YtfcdlnpfneinlaaDoor
