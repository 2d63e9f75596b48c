/-
  THE WALKS OF slices.Grow (onto nil), slices.Concat, bytes.Clone.
-/
import Derived.Test.YtcojpiepbdcohaaDoorGlue
import Derived.Lib.SliceRun
namespace Go.Proofs.YtcojpiepbdcohaaDoor
open Go.RowKit

set_option maxRecDepth 100000 in
set_option maxHeartbeats 1000000 in
theorem grow_nil (w : World) (n : Nat) (hn : n ≤ 100000000) : Calls Tryd.prog 42 #[.slice none 0 0, .int .i64 n] w fun e w' => ∃ v, e = .returned v ∧ Own w.heap.size w' v [] ∧ Below w.heap.size w w' := by
  obtain ⟨i0, hi, hz0, hz1, hz2⟩ := info_parts info5
  rcases Nat.eq_zero_or_pos n with rfl | h0
  · go_enter Tryd.func42, Tryd.ntmps42
    go_wp2_with fail
    go_ret
    exact ⟨_, rfl, World.ownsRow_nil _ _ _ _, Below.refl _ _⟩
  · have hr := Lib.run_append_nil_zeros (P := Tryd.prog) w 25 3 25 5 i0 _ .i64 .i64 Tryd.underlying25 Tryd.underlying3 hi hz0 n (by omega) (by omega) (by omega) (by rw [hz2]; omega)
    have hpos : 0 < (n : Int) := by omega
    have hge := grownCap_ge w n 0 5
    have hcm : grownCap w n 0 5 ≤ maxLen := grownCap_le_maxLen w n 0 5 (by unfold maxLen; omega)
    go_enter Tryd.func42, Tryd.ntmps42
    go_wp2_with (at_builtin; refine Lib.wpList_append_run _ rfl _ _ _ _ rfl _ _ rfl rfl _ _ hr ?_)
    go_ret
    refine ⟨_, rfl, ⟨rfl, .inr ⟨w.heap.size, grownCap w n 0 5, _, rfl, Nat.le_refl _, heap_alloc_new w _, Nat.zero_le _, hcm, ?_, rfl⟩⟩, ?_⟩
    · simp [Builtin.zeroCells]
      omega
    · have h1 : Below w.heap.size w w.drew := (Below.refl _ _).drew
      exact h1.alloc (by simp) _

/-- how many bytes the first k lists have -/
def upto (L : List (List Int)) (k : Nat) : Nat := (L.take k).flatten.length
theorem take_flat {L : List (List Int)} {k : Nat} (h : k < L.length) : (L.take (k + 1)).flatten = (L.take k).flatten ++ L.getD k [] := by
  rw [List.take_succ_eq_append_getElem h, List.flatten_append]
  simp [List.getD, h]
theorem upto_succ {L : List (List Int)} {k : Nat} (h : k < L.length) : upto L (k + 1) = upto L k + (L.getD k []).length := by unfold upto; rw [take_flat h, List.length_append]
theorem upto_le (L : List (List Int)) (k : Nat) : upto L k ≤ L.flatten.length := by
  unfold upto
  conv => rhs; rw [← List.take_append_drop k L]
  rw [List.flatten_append, List.length_append]
  omega

theorem concat_any (A : Option Addr) (n c B : Nat) (L : List (List Int)) (w : World) (hL : Lsts w B A n L) (hB : B ≤ w.heap.size) (hF : L.flatten.length ≤ 1000000) (hn : n ≤ 1000000) :
    Calls Tryd.prog 34 #[.slice A n c] w fun e w' => ∃ v, e = .returned v ∧ Own w.heap.size w' v L.flatten ∧ Below w.heap.size w w' := by
  have HL := Lib.hid hL
  have HB := Lib.hid hB
  have HF := Lib.hid (fun k => Nat.le_trans (upto_le L k) hF)
  clear hL hB hF
  go_enter Tryd.func34, Tryd.ntmps34
  go_wp2_with fail
  go_loop [3, 11] (fun z i => ∃ k : Nat, k ≤ n ∧ i = .int .i64 k ∧ z = .int .i64 (upto L k : Nat)) (fun _ i => n - (intOf i).toNat)
  case atStart => exact ⟨0, Nat.zero_le _, rfl, by simp [upto]⟩
  case round =>
    obtain ⟨k, hk, rfl, rfl⟩ := hrel
    have hb := HF.out k
    by_cases hlt : k < n
    · obtain ⟨b, o, rfl, hbB, hcs⟩ := HL.out.2 (by omega)
      obtain ⟨v, hcell, A2, c2, rfl, hc2, _, _⟩ := hcs k hlt
      have hb' := HF.out (k + 1)
      have HS := Lib.hid (upto_succ (L := L) (k := k) (by rw [HL.out.1]; exact hlt))
      rw [HS.out] at hb'
      obtain ⟨q, hq⟩ : ∃ q, (L.getD k []).length = q := ⟨_, rfl⟩
      obtain ⟨m, hm⟩ : ∃ m, upto L k = m := ⟨_, rfl⟩
      rw [hq] at hcell hb' HS
      rw [hm] at hb hb' HS ⊢
      have hk0 : (0 : Int) ≤ (k : Int) := by omega
      have hk1 : (k : Int) < (n : Int) := by omega
      have hneg : decide ((m : Int) + (q : Int) < 0) = false := by simp; omega
      clear hcs hq hm hc2
      go_wp2_with fail
      go_round
      case rel => exact ⟨k + 1, by omega, by go_num, by rw [HS.out]; go_num⟩
      case measure => simp [intOf]; omega
    · obtain rfl : k = n := by omega
      have HE := Lib.hid (show L.take k = L by rw [← HL.out.1, List.take_length])
      obtain ⟨m, hm⟩ : ∃ m, upto L k = m := ⟨_, rfl⟩
      rw [hm] at hb ⊢
      clear hm
      go_wp2_with fail
      refine (grow_nil w m (by omega)).mono ?_
      rintro e w2 ⟨v, rfl, hv, hk2⟩
      have HV := Lib.hid hv
      have HK2 := Lib.hid hk2
      clear hv hk2
      go_wp2_with fail
      go_loopw [6, 27] (fun z i wr => ∃ j : Nat, j ≤ k ∧ i = .int .i64 j ∧ Own w.heap.size wr z (L.take j).flatten ∧ Below w.heap.size w wr) (fun _ i _ => k - (intOf i).toNat)
      case atStart => exact ⟨0, Nat.zero_le _, rfl, by simpa using HV.out, HK2.out⟩
      case round =>
        obtain ⟨j, hj, rfl, hown, hbel⟩ := hrel
        by_cases hlt : j < k
        · obtain ⟨b, o, rfl, hbB, hcs⟩ := HL.out.2 (by omega)
          obtain ⟨v, hcell0, A2, c2, rfl, hc2, _, hy⟩ := hcs j hlt
          have hcell : wr.cell? ⟨b, o + j, none⟩ = some (.slice A2 (L.getD j []).length c2) := (hbel.cell (p := ⟨b, o + j, none⟩) (Nat.lt_of_lt_of_le hbB HB.out)).trans hcell0
          have hb' := HF.out (j + 1)
          have hjL : j < L.length := by rw [HL.out.1]; exact hlt
          rw [upto_succ hjL] at hb'
          obtain ⟨v', w', hr, h2, h3⟩ := append_own wr w.heap.size 25 _ _ hown A2 _ c2 B _ (bytes_below hy (hbel.mono HB.out)) (by unfold upto at hb'; omega) hbel.size
          rw [← take_flat hjL] at h2
          have R := Lib.hid (And.intro h2 (hbel.trans h3))
          have HR := Lib.hid hr
          obtain ⟨q, hq⟩ : ∃ q, (L.getD j []).length = q := ⟨_, rfl⟩
          rw [hq] at hcell HR
          have hk0 : (0 : Int) ≤ (j : Int) := by omega
          have hk1 : (j : Int) < (k : Int) := by omega
          clear hcs hcell0 hy hb' hr h2 h3 hown hbel hq hc2
          go_wp2_with (at_builtin; refine Lib.wpList_append_run _ rfl _ _ _ _ rfl _ _ rfl rfl _ _ HR.out ?_)
          go_roundw
          case rel => exact ⟨j + 1, by omega, by go_num, R.out.1, R.out.2⟩
          case measure => simp [intOf]; omega
        · obtain rfl : j = k := by omega
          rw [HE.out] at hown
          have R := Lib.hid (And.intro hown hbel)
          clear hown hbel
          go_wp2_with fail
          go_ret
          exact ⟨_, rfl, R.out.1, R.out.2⟩

/-- bytes.Clone: memory of its own -/
theorem clone_any (A : Option Addr) (n c B : Nat) (l : List Int) (w : World) (hl : Bytes w B A n l) (hB : B ≤ w.heap.size) (hn : n ≤ 100000) :
    Calls Tryd.prog 35 #[.slice A n c] w fun e w' => ∃ v, e = .returned v ∧ Own w.heap.size w' v l ∧ Below w.heap.size w w' := by
  have q25 : ∀ (w : World) (a : Option Addr) (n c n' c' : Nat), (binOp .eql 25 (.slice a n c) (.slice none n' c')).run Tryd.prog w = .ok (.bool a.isNone) w := fun w a n c n' c' => Lib.run_eql_slice_nil w _ _ a n c n' c' Tryd.underlying25
  cases A with
  | none =>
    have hn0 : n = 0 := by
      rcases Nat.eq_zero_or_pos n with h | h
      · exact h
      · obtain ⟨b, o, e, _⟩ := hl.2.2 h
        cases e
    have hl0 : l = [] := List.eq_nil_of_length_eq_zero (by rw [hl.1, hn0])
    subst hn0 hl0
    clear hl
    go_enter Tryd.func35, Tryd.ntmps35
    go_wp2_with fail
    go_ret
    exact ⟨_, rfl, World.ownsRow_nil _ _ _ _, Below.refl _ _⟩
  | some ad =>
    obtain ⟨v', w', hr, h2, h3⟩ := append_own (w.alloc (.cells #[] 5)) w.heap.size 25 _ [] (own_none w.heap.size w _ (Nat.le_refl _) rfl) (some ad) n c B l (bytes_below hl ((below_box w _).mono hB)) (by simp; omega) (by simp)
    rw [List.nil_append] at h2
    have HR := Lib.hid hr
    have R := Lib.hid (And.intro h2 ((below_box w (.cells #[] 5)).trans h3))
    clear hr h2 h3 hl
    go_enter Tryd.func35, Tryd.ntmps35
    go_wp2_with (at_builtin; refine Lib.wpList_append_run _ rfl _ _ _ _ rfl _ _ rfl rfl _ _ HR.out ?_)
    go_ret
    exact ⟨_, rfl, R.out.1, R.out.2⟩
end Go.Proofs.YtcojpiepbdcohaaDoor
