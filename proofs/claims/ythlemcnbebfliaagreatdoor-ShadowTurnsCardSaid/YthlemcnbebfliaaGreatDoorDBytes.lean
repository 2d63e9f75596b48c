/-
  THE WALKS OF slices.Grow (onto nil), slices.Concat, Bytes, Same, Ints.
-/
import Derived.Test.YthlemcnbebfliaaGreatDoorDCrash
import Derived.Lib.AppendZeros
namespace Go.Proofs.YthlemcnbebfliaaGreatDoor.Dsk
open Ks Go.RowKit
set_option maxRecDepth 20000

/-- a new row without an element -/
def NewRow (w : World) (e : Ending) (w' : World) : Prop := ∃ v, e = .returned v ∧ w'.ownsRow w.heap.size 5 1 v 0 [] ∧ Keeps No w w'

set_option maxRecDepth 100000 in
set_option maxHeartbeats 1000000 in
theorem grow_nil (w : World) (n : Nat) (hn : n ≤ 100000000) : Calls Tryz.prog 101 #[.slice none 0 0, .int .i64 n] w (NewRow w) := by
  obtain ⟨i0, hi, hz0, hz1, hz2⟩ := info_parts info5
  rcases Nat.eq_zero_or_pos n with rfl | h0
  · go_enter Tryz.func101, Tryz.ntmps101
    go_wp2_with fail
    go_ret
    exact ⟨_, rfl, World.ownsRow_nil _ _ _ _, Keeps.refl _ _⟩
  · have hr := Lib.run_append_nil_zeros (P := Tryz.prog) w 33 3 33 5 i0 _ .i64 .i64 Tryz.underlying33 Tryz.underlying3 hi hz0 n (by omega) (by omega) (by omega) (by rw [hz2]; omega)
    have hpos : 0 < (n : Int) := by omega
    have hge := grownCap_ge w n 0 5
    have hcm : grownCap w n 0 5 ≤ maxLen := grownCap_le_maxLen w n 0 5 (by unfold maxLen; omega)
    go_enter Tryz.func101, Tryz.ntmps101
    go_wp2_with (at_builtin; refine Lib.wpList_append_run _ rfl _ _ _ _ rfl _ _ rfl rfl _ _ hr ?_)
    go_ret
    refine ⟨_, rfl, ⟨rfl, .inr ⟨w.heap.size, grownCap w n 0 5, _, rfl, Nat.le_refl _, heap_alloc_new w _, Nat.zero_le _, hcm, ?_, rfl⟩⟩, ((Keeps.refl No w).alloc _).drew⟩
    simp [Builtin.zeroCells]
    omega

/-- where the second loop stands -/
def ConcatAt (w2 : World) (l : List (List Int)) (k : Nat) (v : Value) (wr : World) : Prop :=
  wr.ownsRow w2.heap.size 5 1 v (l.take k).flatten.length ((l.take k).flatten.map (Value.int .u8)) ∧ Keeps (From w2.heap.size) w2 wr

theorem take_flat {l : List (List Int)} {k : Nat} (h : k < l.length) : (l.take (k + 1)).flatten = (l.take k).flatten ++ l.getD k [] := by
  rw [List.take_succ_eq_append_getElem h, List.flatten_append]
  simp [List.getD, h]
theorem flat_le {l : List (List Int)} {n : Nat} (h : ∀ i, i < l.length → (l.getD i []).length = n) (k : Nat) (hk : k ≤ l.length) : (l.take k).flatten.length = k * n := by
  induction k with
  | zero => simp
  | succ k ih =>
    rw [take_flat (by omega), List.length_append, ih (by omega), h k (by omega), Nat.add_mul, Nat.one_mul]

set_option maxRecDepth 100000 in
set_option maxHeartbeats 1000000 in
theorem concat_any (w : World) (F : Nat → Prop) (lastV : Value) (lv : List Value) (l : List (List Int)) (n : Nat) (hrow : w.ownsRow 0 33 1 lastV l.length lv) (hl : ∀ i, i < l.length → Byt w F (lv.getD i undef) (l.getD i []))
    (hlen : ∀ i, i < l.length → (l.getD i []).length = n) (hn : n ≤ 4096) (hll : l.length ≤ 4096) : Calls Tryz.prog 73 #[lastV] w (NewBys w l.flatten) := by
  have HR := Lib.hid hrow
  have HL := Lib.hid hl
  have HN := Lib.hid hlen
  have hlv : lv.length = l.length := by have := hrow.1; simpa using this
  have HLV := Lib.hid hlv
  have hbl : ∀ k, k ≤ l.length → k * n ≤ 16777216 := fun k hk => Nat.le_trans (Nat.mul_le_mul hk hn) (by omega)
  have HBL := Lib.hid hbl
  obtain ⟨A, c, rfl⟩ := row_slice hrow
  have HC := Lib.hid (show ∀ k, k < l.length → ∃ g, A = some ⟨g, 0, none⟩ ∧ g < w.heap.size ∧ l.length ≤ c ∧ w.cell? ⟨g, k, none⟩ = some (lv.getD k undef) by
    intro k hk
    rcases hrow.2 with ⟨_, h0⟩ | ⟨g, cap, cur, e, hb, hg, h1, h2, h3, h4⟩
    · omega
    · simp only [Value.slice.injEq, true_and] at e
      obtain ⟨rfl, rfl⟩ := e
      have := hrow.cells (g := g) rfl k (lv.getD k undef) (by simp [List.getD, hlv, hk])
      rw [Go.WideShapes.add_plain] at this
      refine ⟨g, rfl, lt_of_heap hg, h1, by simpa using this⟩)
  clear hrow hl hlen hlv hbl
  go_enter Tryz.func73, Tryz.ntmps73
  go_wp2_with fail
  go_loop [3, 11] (fun z i => ∃ k : Nat, k ≤ l.length ∧ i = .int .i64 k ∧ z = .int .i64 (k * n : Nat)) (fun _ i => l.length - (intOf i).toNat)
  case atStart => exact ⟨0, Nat.zero_le _, rfl, by simp⟩
  case round =>
    obtain ⟨k, hk, rfl, rfl⟩ := hrel
    have hb := HBL.out k hk
    by_cases hlt : k < l.length
    · obtain ⟨g, rfl, hg, hcap, hcell⟩ := HC.out k hlt
      obtain ⟨A', c', hv, _, _⟩ := HL.out k hlt
      rw [hv] at hcell
      have hln := HN.out k hlt
      rw [hln] at hcell
      have hk0 : (0 : Int) ≤ (k : Int) := by omega
      have hk1 : (k : Int) < (l.length : Int) := by omega
      have hb' := HBL.out (k + 1) hlt
      have hsum : (k + 1) * n = k * n + n := by rw [Nat.add_mul, Nat.one_mul]
      have HS := Lib.hid hsum
      clear hv hln
      have hneg : decide (((k * n : Nat) : Int) + (n : Int) < 0) = false := by simp; omega
      obtain ⟨m, hm⟩ : ∃ m, k * n = m := ⟨_, rfl⟩
      rw [hm] at hb hsum hneg ⊢
      rw [hsum] at hb'
      have HM := Lib.hid hm
      clear hm hsum
      go_wp2_with fail
      go_round
      case rel => exact ⟨k + 1, by omega, by go_num, by rw [HS.out, HM.out]; go_num⟩
      case measure => simp [intOf]; omega
    · obtain rfl : k = l.length := by omega
      obtain ⟨m, hm⟩ : ∃ m, l.length * n = m := ⟨_, rfl⟩
      rw [hm] at hb ⊢
      clear hm
      go_wp2_with fail
      refine (grow_nil w m (by omega)).mono ?_
      rintro e w2 ⟨v, rfl, hv, hk2⟩
      have HV := Lib.hid hv
      have HK2 := Lib.hid hk2
      clear hv hk2
      go_wp2_with fail
      go_loopw [6, 27] (fun z i wr => ∃ k : Nat, k ≤ l.length ∧ i = .int .i64 k ∧ ConcatAt w l k z wr) (fun _ i _ => l.length - (intOf i).toNat)
      case atStart => exact ⟨0, Nat.zero_le _, rfl, by simpa using HV.out, HK2.out.no⟩
      case round =>
        obtain ⟨k, hk, rfl, hat⟩ := hrel
        by_cases hlt : k < l.length
        · obtain ⟨g, rfl, hg, hcap, hcell⟩ := HC.out k hlt
          have hby := (HL.out k hlt).keeps hat.2 (fun b hb h => by have := hb.lt; unfold From at h; omega)
          have hcell' : wr.cell? ⟨g, k, none⟩ = some (lv.getD k undef) := (hat.2.cell hg (by unfold From; omega)).trans hcell
          have hfl := flat_le HN.out k (by omega)
          have hb2 := HBL.out k (by omega)
          have hln := HN.out k hlt
          obtain ⟨v', w', hr, h2, h3, h4⟩ := append_bys wr w.heap.size 33 _ _ _ hat.1 _ _ _ hby.bys (by omega) hat.2.size
          have H2 := Lib.hid h2
          have H3 := Lib.hid h3
          have HAT := Lib.hid hat
          have HRN := Lib.hid hr
          have hk0 : (0 : Int) ≤ (k : Int) := by omega
          have hk1 : (k : Int) < (l.length : Int) := by omega
          obtain ⟨x, hx⟩ : ∃ x, lv.getD k undef = x := ⟨_, rfl⟩
          rw [hx] at hcell' HRN
          obtain ⟨Ax, cx, rfl⟩ : ∃ Ax cx, x = .slice Ax n cx := by
            obtain ⟨A', c', h, _, _⟩ := hby
            rw [hln] at h
            exact ⟨A', c', hx.symm.trans h⟩
          have R := Lib.hid (show ConcatAt w l (k + 1) v' w' from ⟨by rw [take_flat hlt, List.length_append]; exact H2.out, HAT.out.2.grown H3.out (fun b hb => .inl (by
            rcases HAT.out.1.2 with ⟨rfl, _⟩ | ⟨g', cap', cur, rfl, hg', _⟩
            · cases hb
            · simp only [Value.ownBlock, Option.some.injEq] at hb
              subst hb
              exact hg'))⟩)
          clear hcell hby hfl h2 h3 h4 hr hat hx hln H2 H3
          go_wp2_with (at_builtin; refine Lib.wpList_append_run _ rfl _ _ _ _ rfl _ _ rfl rfl _ _ HRN.out ?_)
          go_roundw
          case rel => exact ⟨k + 1, by omega, by go_num, R.out⟩
          case measure => simp [intOf]; omega
        · obtain rfl : k = l.length := by omega
          have R := Lib.hid (show Byt wr (From w.heap.size) u6 l.flatten by
            have := hat.1
            rw [List.take_length] at this
            exact (Byt.of_own this).mono fun b hb => hb.1)
          have HK := Lib.hid (show Keeps No w wr from ⟨hat.2.os, hat.2.tape, hat.2.output, hat.2.size, fun b hb _ => hat.2.block b hb (by unfold From; omega)⟩)
          clear hat
          go_wp2_with fail
          go_ret
          exact ⟨_, rfl, R.out, HK.out⟩

set_option maxRecDepth 100000 in
theorem bytes_any (w : World) (p : Nat) (F : Nat → Prop) (s : St) (h : DiskAt Tryz.prog w p F s) (hn : s.last.length ≤ 4096) (hs : s.size ≤ 4096) : Calls Tryz.prog 36 #[.pointer (some ⟨p, 0, none⟩)] w (NewBys w s.last.flatten) := by
  obtain ⟨lastV, lv, _, _, _, h⟩ := h
  have c1 := h.c1
  have H := Lib.hid (concat_any w F lastV lv s.last s.size h.row h.sect h.lens hs hn)
  clear h
  go_enter Tryz.func36, Tryz.ntmps36
  go_wp2_with fail
  refine H.out.mono ?_
  rintro e w1 ⟨v, rfl, hv, hk⟩
  have HV := Lib.hid hv
  have HK := Lib.hid hk
  clear hv hk
  go_wp2_with fail
  go_ret
  exact ⟨_, rfl, HV.out, HK.out⟩

theorem ext_getD {a b : List Int} (h : b.length = a.length) (he : ∀ j, j < a.length → a.getD j 0 = b.getD j 0) : a = b := by
  apply List.ext_getElem h.symm
  intro i h1 h2
  have := he i h1
  simpa [List.getD, h1, h2] using this
theorem ret_bool {a b : Bool} (h : a = b) : Ending.returned (.bool a) = .returned (.bool b) := by rw [h]

/-- a bool; nothing has changed -/
def Says (w : World) (b : Bool) (e : Ending) (w' : World) : Prop := e = .returned (.bool b) ∧ ∃ n, w' = w.drewN n

set_option maxRecDepth 100000 in
theorem same_any (w : World) (F G : Nat → Prop) (v1 v2 : Value) (a b : List Int) (ha : Bys w F v1 a) (hb : Bys w G v2 b) (_hl : a.length ≤ 100000000) (hl2 : b.length ≤ 100000000) :
    Calls Tryz.prog 20 #[v1, v2] w (Says w (decide (a = b))) := by
  have HA := Lib.hid ha
  have HB := Lib.hid hb
  obtain ⟨A1, c1, rfl, hc1, _⟩ := ha
  obtain ⟨A2, c2, rfl, hc2, _⟩ := hb
  by_cases hll : b.length = a.length
  · have HLL := Lib.hid hll
    have HB2 : Hid (Bys w G (.slice A2 a.length c2) b) := by rw [hll] at HB; exact HB
    rw [hll]
    rw [hll] at hl2 hc2
    clear HB hll
    have hne : ((a.length : Int) != (a.length : Int)) = false := by simp
    obtain ⟨n, hn⟩ : ∃ n, a.length = n := ⟨_, rfl⟩
    rw [hn] at _hl hl2 hc1 hc2 hne HA HB2 ⊢
    have HN := Lib.hid hn
    clear hn
    go_enter Tryz.func20, Tryz.ntmps20
    go_wp2_with fail
    go_loopw [5] (fun i wr => ∃ k : Nat, k ≤ n ∧ i = .int .i64 k ∧ (∀ j, j < k → a.getD j 0 = b.getD j 0) ∧ ∃ q, wr = w.drewN q) (fun i _ => n - (intOf i).toNat)
    case atStart => exact ⟨0, Nat.zero_le _, rfl, fun j hj => absurd hj (by omega), 0, rfl⟩
    case round =>
      obtain ⟨k, hk, rfl, heq, q, rfl⟩ := hrel
      have HE := Lib.hid heq
      clear heq
      by_cases hlt : k < n
      · have hx1 := HA.out
        have hx2 := HB2.out
        obtain ⟨A1', c1', e1, _, hx1⟩ := hx1
        obtain ⟨A2', c2', e2, _, hx2⟩ := hx2
        obtain ⟨b1, o1, rfl, _, hcs1⟩ := hx1 (by rw [HN.out]; omega)
        obtain ⟨b2, o2, rfl, _, hcs2⟩ := hx2 (by rw [HLL.out, HN.out]; omega)
        simp only [Value.slice.injEq] at e1 e2
        obtain ⟨rfl, _, rfl⟩ := e1
        obtain ⟨rfl, _, rfl⟩ := e2
        have hv1 : w.cell? ⟨b1, o1 + k, none⟩ = _ := hcs1 k (by rw [HN.out]; omega)
        have hv2 : w.cell? ⟨b2, o2 + k, none⟩ = _ := hcs2 k (by rw [HLL.out, HN.out]; omega)
        obtain ⟨x, hx⟩ : ∃ x, a.getD k 0 = x := ⟨_, rfl⟩
        obtain ⟨y, hy⟩ : ∃ y, b.getD k 0 = y := ⟨_, rfl⟩
        rw [hx] at hv1
        rw [hy] at hv2
        have HX := Lib.hid hx
        have HY := Lib.hid hy
        clear hx hy hcs1 hcs2 hx1 hx2
        have hk0 : (0 : Int) ≤ (k : Int) := by omega
        have hk1 : (k : Int) < (n : Int) := by omega
        cases hxy : (x != y)
        · go_wp2_with fail
          go_quiet (fail)
          go_wp2_with fail
          go_roundw
          case rel =>
            refine ⟨k + 1, by omega, by go_num, ?_, _, rfl⟩
            intro j hj
            by_cases h : j = k
            · subst h; rw [HX.out, HY.out]; simpa using hxy
            · exact HE.out j (by omega)
          case measure => simp [intOf]; omega
        · go_wp2_with fail
          go_quiet (fail)
          go_wp2_with fail
          go_ret
          have hab : a ≠ b := fun e => by
            have : x = y := by rw [← HX.out, ← HY.out, e]
            simp [this] at hxy
          exact ⟨ret_bool (by simp [hab]), _, World.drewN_drewN _ _ _⟩
      · have hab : a = b := ext_getD HLL.out (fun j hj => HE.out j (by have := HN.out; omega))
        have HAB := Lib.hid hab
        clear hab
        go_wp2_with fail
        go_ret
        exact ⟨ret_bool (by simp [HAB.out]), _, rfl⟩
  · have hab : a ≠ b := fun e => hll (by rw [e])
    have HAB := Lib.hid hab
    have hne : ((a.length : Int) != (b.length : Int)) = true := by rw [bne_iff_ne]; omega
    clear hab hll
    go_enter Tryz.func20, Tryz.ntmps20
    go_wp2_with fail
    go_ret
    exact ⟨ret_bool (by simp [HAB.out]), 0, rfl⟩

end Go.Proofs.YthlemcnbebfliaaGreatDoor.Dsk
