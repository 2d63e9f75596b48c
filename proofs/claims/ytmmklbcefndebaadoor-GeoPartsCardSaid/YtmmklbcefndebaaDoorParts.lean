/-
  THE WALK OF GeoParts.
-/
import Derived.Test.YtmmklbcefndebaaDoorWalks
import Derived.WalkLawsBesides
namespace Go.Proofs.YtmmklbcefndebaaDoor
open Go.RowKit

theorem total_alone (a b c : Int) (hr : right a b c = true) : total a b c = total a 0 0 + total 0 b 0 + total 0 0 c := by
  have h : (0 ≤ a ∧ a ≤ 10) ∧ (0 ≤ b ∧ b ≤ 64) ∧ (0 ≤ c ∧ c ≤ 128) := by simpa [right] using hr
  have e1 : right a 0 0 = true := by simp [right, h.1]
  have e2 : right 0 b 0 = true := by simp [right, h.2.1]
  have e3 : right 0 0 c = true := by simp [right, h.2.2]
  have c0 : col 0 0 = 0 := by decide
  simp only [total, hr, e1, e2, e3, if_true, c0]
  have z1 : bytesOf 0 64 256 = 0 := by decide
  have z2 : bytesOf 0 128 64 = 0 := by decide
  rw [z1, z2]; omega
theorem total_bounds (a b c : Int) : 0 ≤ total a b c ∧ total a b c ≤ 90112 := by
  unfold total
  split
  · have h1 := col0_bounds a
    have h2 : 0 ≤ bytesOf b 64 256 ∧ bytesOf b 64 256 ≤ 16384 := by unfold bytesOf; split <;> omega
    have h3 : 0 ≤ bytesOf c 128 64 ∧ bytesOf c 128 64 ≤ 8192 := by unfold bytesOf; split <;> omega
    omega
  · omega
theorem total_more (a b b' c : Int) (hr : right a b c = true) (hb : b ≤ b') (hb' : b' ≤ 64) : total a b c ≤ total a b' c := by
  have h : (0 ≤ a ∧ a ≤ 10) ∧ (0 ≤ b ∧ b ≤ 64) ∧ (0 ≤ c ∧ c ≤ 128) := by simpa [right] using hr
  have e1 : right a b' c = true := by simp [right, h.1, h.2.2, hb']; omega
  simp only [total, hr, e1, if_true]
  have : bytesOf b 64 256 ≤ bytesOf b' 64 256 := by
    unfold bytesOf; rw [if_pos h.2.1, if_pos (by omega)]; omega
  omega

theorem geoParts_walk (a : Int) (wa : (Lit.int .u8 a).wf = true) (b : Int) (wb : (Lit.int .u8 b).wf = true) (c : Int) (wc : (Lit.int .u8 c).wf = true) (w : World) (hT : Tab w) :
    Calls Tryd.prog 7 #[.int .u8 a, .int .u8 b, .int .u8 c] w fun e w' => e = .returned (.bool true) ∧ Below w.heap.size w w' := by
  have ha : 0 ≤ a ∧ a ≤ 255 := by simpa [Lit.wf, IntKind.min, IntKind.max, IntKind.signed, IntKind.bits] using wa
  have hb : 0 ≤ b ∧ b ≤ 255 := by simpa [Lit.wf, IntKind.min, IntKind.max, IntKind.signed, IntKind.bits] using wb
  have hc : 0 ≤ c ∧ c ≤ 255 := by simpa [Lit.wf, IntKind.min, IntKind.max, IntKind.signed, IntKind.bits] using wc
  obtain ⟨ha0, ha1⟩ := ha
  obtain ⟨hb0, hb1⟩ := hb
  obtain ⟨hc0, hc1⟩ := hc
  have H0 := Lib.hid (On.start hT)
  clear hT wa wb wc
  obtain ⟨x, hx, hx0, hx1⟩ : ∃ k, a % 11 = k ∧ 0 ≤ k ∧ k ≤ 10 := ⟨a % 11, by omega, by omega, by omega⟩
  obtain ⟨y, hy, hy0, hy1⟩ : ∃ k, b % 65 = k ∧ 0 ≤ k ∧ k ≤ 64 := ⟨b % 65, by omega, by omega, by omega⟩
  obtain ⟨z, hz, hz0, hz1⟩ : ∃ k, c % 129 = k ∧ 0 ≤ k ∧ k ≤ 128 := ⟨c % 129, by omega, by omega, by omega⟩
  have HX := Lib.hid hx
  have HY := Lib.hid hy
  have HZ := Lib.hid hz
  clear hx hy hz
  have hr : right x y z = true := by simp [right, *]
  obtain ⟨n, hn⟩ : ∃ v, total x y z = v := ⟨_, rfl⟩
  obtain ⟨n1, hn1⟩ : ∃ v, total x 0 0 = v := ⟨_, rfl⟩
  obtain ⟨n2, hn2⟩ : ∃ v, total 0 y 0 = v := ⟨_, rfl⟩
  obtain ⟨n3, hn3⟩ : ∃ v, total 0 0 z = v := ⟨_, rfl⟩
  obtain ⟨y', hy'⟩ : ∃ v, min 64 (y + 1) = v := ⟨_, rfl⟩
  obtain ⟨n', hn'⟩ : ∃ v, total x y' z = v := ⟨_, rfl⟩
  have hsum : n1 + n2 + n3 = n := by rw [← hn, ← hn1, ← hn2, ← hn3]; exact (total_alone x y z hr).symm
  have hmore : n ≤ n' := by rw [← hn, ← hn']; exact total_more x y y' z hr (by omega) (by omega)
  have b0 := hn ▸ total_bounds x y z
  have b1 := hn1 ▸ total_bounds x 0 0
  have b2 := hn2 ▸ total_bounds 0 y 0
  have b3 := hn3 ▸ total_bounds 0 0 z
  obtain ⟨b00, b01⟩ := b0
  obtain ⟨b10, b11⟩ := b1
  obtain ⟨b20, b21⟩ := b2
  obtain ⟨b30, b31⟩ := b3
  have HR := Lib.hid hr
  have N := Lib.hid hn
  have N1 := Lib.hid hn1
  have N2 := Lib.hid hn2
  have N3 := Lib.hid hn3
  have N' := Lib.hid hn'
  have HS := Lib.hid hsum
  have HY' := Lib.hid hy'
  clear hr hn hn1 hn2 hn3 hn' hsum hy'
  go_enter Tryd.func7, Tryd.ntmps7
  go_wp2_with fail
  refine (awake_any _ _ H0.out).mono ?_
  rintro e w1 ⟨rfl, hw⟩
  have H1 := Lib.hid hw
  clear hw
  go_wp2_with fail
  rw [HX.out, HY.out, HZ.out]
  refine (total_any x y z n _ _ (On.start (H1.out.next (below_box w1 _)).tab) N.out).mono ?_
  rintro e w2 ⟨rfl, hw⟩
  obtain ⟨g0, g1, g2⟩ := boxed w1 (.int .i64 x) (.int .i64 y) (.int .i64 z) 26
  have HB := Lib.hid (show w1.heap.size < w2.heap.size from Nat.lt_of_lt_of_le (by simp) hw.bel.size)
  have hc0 := (hw.bel.cell (p := ⟨w1.heap.size, 0, none⟩) (by simp)).trans g0
  have hc1 := (hw.bel.cell (p := ⟨w1.heap.size, 1, none⟩) (by simp)).trans g1
  have hc2 := (hw.bel.cell (p := ⟨w1.heap.size, 2, none⟩) (by simp)).trans g2
  have C0 := Lib.hid hc0
  have C1 := Lib.hid hc1
  have C2 := Lib.hid hc2
  have H2 := Lib.hid ((H1.out.next (below_box w1 _)).next hw.bel)
  clear hw g0 g1 g2 hc0 hc1 hc2
  generalize w1.heap.size = g at *
  go_wp2_with fail
  have hr0 := fun d os => cell_regrown C0.out d os
  have hr1 := fun d os => cell_regrown C1.out d os
  have hr2 := fun d os => cell_regrown C2.out d os
  refine wp_region_quiet_below (by kernel_rfl) (by kernel_rfl) ?_
  iterate 3 go_big_quiet_step (fail)
  go_big_quiet_step ((refine total_in w2 _ x 0 0 n1 H2.out.tab N1.out))
  iterate 3 go_big_quiet_step (fail)
  go_big_quiet_step ((refine total_in w2 _ 0 y 0 n2 H2.out.tab N2.out))
  iterate 4 go_big_quiet_step (fail)
  go_big_quiet_step ((refine total_in w2 _ 0 0 z n3 H2.out.tab N3.out))
  repeat (go_big_quiet_step (fail))
  refine wpQuiet_nil ?_
  rintro w' ⟨q, rfl⟩
  rw [HS.out]
  have H3 : Hid (On w (Go.Sort.grow (redrawn w2 q.d) q.os)) := Lib.hid (H2.out.next (in_below w2 q))
  have c0 := hr0 q.d q.os
  have c1 := hr1 q.d q.os
  have c2 := hr2 q.d q.os
  clear hr0 hr1 hr2
  generalize Go.Sort.grow (redrawn w2 q.d) q.os = w3 at *
  have hlt : g < w3.heap.size := block_lt_of_cell c0
  have hne : g ≠ w3.heap.size := by omega
  go_wp2_with fail
  rw [HY'.out]
  refine (right_any x y z true _ _ (On.start (H3.out.next (below_box w3 _)).tab) HR.out).mono ?_
  rintro e w4 ⟨rfl, hw⟩
  obtain ⟨g0, g1, g2⟩ := boxed w3 (.int .i64 x) (.int .i64 y') (.int .i64 z) 26
  have d0 := (hw.bel.cell (p := ⟨w3.heap.size, 0, none⟩) (by simp)).trans g0
  have d1 := (hw.bel.cell (p := ⟨w3.heap.size, 1, none⟩) (by simp)).trans g1
  have d2 := (hw.bel.cell (p := ⟨w3.heap.size, 2, none⟩) (by simp)).trans g2
  have H4 := Lib.hid ((H3.out.next (below_box w3 _)).next hw.bel)
  clear hw g0 g1 g2 c0 c1 c2 hne hlt
  generalize w3.heap.size = g' at *
  go_wp2_with fail
  refine (total_any x y' z n' _ _ H4.out N'.out).mono ?_
  rintro e w5 ⟨rfl, hw⟩
  have H5 := Lib.hid hw
  clear hw
  go_wp2_with fail
  go_ret
  exact ⟨rfl, H5.out.bel⟩
end Go.Proofs.YtmmklbcefndebaaDoor
