/-
  THE WALK OF image.Factory.
-/
import Derived.Test.YthlemcnbebfliaaGreatDoorIGlue
namespace Go.Proofs.YthlemcnbebfliaaGreatDoor
open Ks Go.RowKit
set_option maxRecDepth 20000

theorem on_only {w0 w w' : World} {g : Nat} (h : On w0 w) (hb : Only g w w') (h0 : w0.heap.size ≤ g) (h1 : 1 < g) : On w0 w' := ⟨tab_below h.tab (hb.below (Nat.le_refl g)) h1, h.bel.trans (hb.below h0)⟩
/-- a new cartridge's bytes: how many are ff, and all of them -/
def facN (a b : Int) : Nat := (col a 0 + bytesOf b 64 256).toNat
def facM (a b c : Int) : Nat := (total a b c).toNat
def facAt (m k : Nat) : List Int := List.replicate k 255 ++ List.replicate (m - k) 0
def fac (a b c : Int) : List Int := facAt (facM a b c) (facN a b)
theorem facAt_succ (m k : Nat) (h : k < m) : (facAt m k).set k 255 = facAt m (k + 1) := by
  unfold facAt
  rw [List.set_append_right _ _ (by simp), List.length_replicate, Nat.sub_self, show m - k = (m - (k + 1)) + 1 by omega, List.replicate_succ, List.set_cons_zero, List.replicate_succ', List.append_assoc]
  rfl
theorem facAt_len (m k : Nat) (h : k ≤ m) : (facAt m k).length = m := by simp [facAt]; omega
theorem facAt_in (m k : Nat) : ∀ v ∈ facAt m k, 0 ≤ v ∧ v ≤ 255 := by
  intro v hv
  rcases List.mem_append.1 hv with h | h
  · rw [List.eq_of_mem_replicate h]; omega
  · rw [List.eq_of_mem_replicate h]; omega
theorem fac_nums {a b c : Int} (h : right a b c = true) : (facN a b : Int) = col a 0 + bytesOf b 64 256 ∧ (facM a b c : Int) = total a b c ∧ facN a b ≤ facM a b c ∧ facM a b c ≤ 150000 ∧ total a b c = col a 0 + bytesOf b 64 256 + bytesOf c 128 64 := by
  have h1 := col0_bounds a
  have h2 := bytesOf_bounds b 64 256 (by omega) (by omega) (by omega)
  have h3 := bytesOf_bounds c 128 64 (by omega) (by omega) (by omega)
  have h4 : total a b c = col a 0 + bytesOf b 64 256 + bytesOf c 128 64 := by simp [total, h]
  unfold facN facM
  rw [h4]
  omega

/-- a geometry in its box -/
def Tri (w : World) (p : Nat) (a b c : Int) : Prop := w.cell? ⟨p, 0, none⟩ = some (.int .i64 a) ∧ w.cell? ⟨p, 1, none⟩ = some (.int .i64 b) ∧ w.cell? ⟨p, 2, none⟩ = some (.int .i64 c)
theorem Tri.new (w : World) (a b c : Int) (t : TypeId) : Tri (w.alloc (.cells #[.int .i64 a, .int .i64 b, .int .i64 c] t)) w.heap.size a b c := boxed w _ _ _ t
theorem Tri.below {w w' : World} {p B : Nat} {a b c : Int} (h : Tri w p a b c) (hb : Below B w w') (hp : p < B) : Tri w' p a b c :=
  ⟨(hb.cell (p := ⟨p, 0, none⟩) hp).trans h.1, (hb.cell (p := ⟨p, 1, none⟩) hp).trans h.2.1, (hb.cell (p := ⟨p, 2, none⟩) hp).trans h.2.2⟩
theorem Tri.lt {w : World} {p : Nat} {a b c : Int} (h : Tri w p a b c) : p < w.heap.size := block_lt_of_cell h.1
theorem Tri.next {w w' : World} {p : Nat} {a b c : Int} (h : Tri w p a b c) (hb : Below w.heap.size w w') : Tri w' p a b c := h.below hb h.lt
theorem total_at (a b c v : Int) (w : World) (H : Tab w) (hv : total a b c = v) : Calls Tryz.prog 58 #[geoV a b c] w fun e w' => e = .returned (.int .i64 v) ∧ On w w' := total_any a b c v w w (On.start H) hv
theorem right_at (a b c : Int) (r : Bool) (w : World) (H : Tab w) (hr : right a b c = r) : Calls Tryz.prog 81 #[geoV a b c] w fun e w' => e = .returned (.bool r) ∧ On w w' := right_any a b c r w w (On.start H) hr

theorem factory_bad (a b c : Int) (w0 w : World) (H : On w0 w) (hr : right a b c = false) : Calls Tryz.prog 53 #[geoV a b c] w fun e w' => e = .returned (.tuple #[.slice none 0 0, .int .i64 9]) ∧ On w0 w' := by
  have HT := Lib.hid (fun o => H.next (below_box w o))
  have HR := Lib.hid hr
  clear H hr
  go_enter Tryz.func53, Tryz.ntmps53
  go_wp2_with fail
  refine (right_any a b c false _ _ (HT.out _) HR.out).mono ?_
  rintro e w1 ⟨rfl, hw1⟩
  have HW1 := Lib.hid hw1
  clear hw1
  go_wp2_with fail
  go_returns
  exact ⟨rfl, HW1.out⟩

theorem factory_ok (a b c : Int) (w0 w : World) (H : On w0 w) (hr : right a b c = true) :
    Calls Tryz.prog 53 #[geoV a b c] w fun e w' => ∃ g, e = .returned (.tuple #[.slice (some ⟨g, 0, none⟩) (facM a b c) (facM a b c), .int .i64 0]) ∧ On w0 w' ∧ w.heap.size ≤ g ∧ Row w' g (fac a b c) := by
  obtain ⟨e1, e2, e3, e4, e5⟩ := fac_nums hr
  have HT := Lib.hid (fun o => H.next (below_box w o))
  have HR := Lib.hid hr
  have H0 := Lib.hid H
  unfold fac
  clear H hr
  obtain ⟨n, hn⟩ : ∃ n, facN a b = n := ⟨_, rfl⟩
  obtain ⟨m, hm⟩ : ∃ n, facM a b c = n := ⟨_, rfl⟩
  rw [hn, hm] at e3 ⊢
  rw [hm] at e2 e4
  rw [hn] at e1
  have HTot := Lib.hid e2.symm
  obtain ⟨x, hx⟩ : ∃ x, col a 0 = x := ⟨_, rfl⟩
  obtain ⟨y, hy⟩ : ∃ x, bytesOf b 64 256 = x := ⟨_, rfl⟩
  have hx0 := hx ▸ col0_bounds a
  have hy0 := hy ▸ bytesOf_bounds b 64 256 (by omega) (by omega) (by omega)
  have HX := Lib.hid hx
  have HY := Lib.hid hy
  rw [hx, hy] at e1
  have hxy : IntKind.i64.wrap (x + y) = (n : Nat) := by rw [IntKind.wrap_i64]; omega
  have hmb := make_bytes m (by omega)
  obtain ⟨hx0, hx1⟩ := hx0
  obtain ⟨hy0, hy1⟩ := hy0
  clear e2 e5 hx hy hn hm
  go_enter Tryz.func53, Tryz.ntmps53
  go_wp2_with fail
  refine (right_at a b c true _ (HT.out _).tab HR.out).mono ?_
  rintro e w1 ⟨rfl, hw1⟩
  have ht1 := (Tri.new w a b c 23).next hw1.bel
  have HW1 := Lib.hid (H0.out.next ((below_box w (.cells #[.int .i64 a, .int .i64 b, .int .i64 c] 23)).trans (hw1.bel.mono (by simp))))
  clear hw1
  have HT1 := Lib.hid ht1
  obtain ⟨hc0, hc1, hc2⟩ := ht1
  go_wp2_with fail
  refine (total_at a b c m _ HW1.out.tab HTot.out).mono ?_
  rintro e w2 ⟨rfl, hw2⟩
  have ht2 := (HT1.out.next hw2.bel).next (below_box w2 (.cells (madeCells #[Value.int .u8 0] m) 5))
  have HO2 := Lib.hid ((HW1.out.next hw2.bel).next (below_box w2 (.cells (madeCells #[Value.int .u8 0] m) 5)))
  have HR2 := Lib.hid (row_made w2 m)
  have HS2 := Lib.hid (show w.heap.size < w2.heap.size by have h1 := HT1.out.lt; have := hw2.bel.size; omega)
  clear hw2 hc0 hc1 hc2 HT1 HW1
  go_wp2_with fail
  obtain ⟨hc0, hc1, hc2⟩ := ht2
  obtain ⟨W, hW⟩ : ∃ W, W = w2.alloc (.cells (madeCells #[Value.int .u8 0] m) 5) := ⟨_, rfl⟩
  rw [← hW] at hc0 hc1 hc2 HO2 HR2 ⊢
  have HWS := Lib.hid (show W.heap.size = w2.heap.size + 1 by rw [hW]; simp)
  clear hW hmb
  have hr0 := fun d os => cell_regrown hc0 d os
  have hr1 := fun d os => cell_regrown hc1 d os
  clear hc0 hc1 hc2
  refine wp_region_quiet_below (by kernel_rfl) (by kernel_rfl) ?_
  iterate 2 go_big_quiet_step (fail)
  go_big_quiet_step ((refine eeprom_in W _ a x HO2.out.tab HX.out))
  iterate 2 go_big_quiet_step (fail)
  go_big_quiet_step ((refine flash_in W _ b y HY.out))
  repeat (go_big_quiet_step (fail))
  refine wpQuiet_nil ?_
  rintro w' ⟨q, rfl⟩
  obtain ⟨V, hV⟩ : ∃ V, V = Go.Sort.grow (redrawn W q.d) q.os := ⟨_, rfl⟩
  have HO3 := Lib.hid (show On w0 V by rw [hV]; exact HO2.out.next (in_below W q))
  have HR3 := Lib.hid (show Row V w2.heap.size (List.replicate m 0) by rw [hV]; exact HR2.out.below (in_below W q) (by have := HWS.out; omega))
  rw [← hV]
  rw [← e1]
  clear hV hr0 hr1 HO2 HR2 HWS hxy
  go_wp2_with fail
  go_loopw [19] (fun i wr => ∃ k : Nat, k ≤ n ∧ i = .int .i64 k ∧ Row wr w2.heap.size (facAt m k) ∧ Only w2.heap.size V wr) (fun i _ => n - (intOf i).toNat)
  case atStart => exact ⟨0, Nat.zero_le _, rfl, by simpa [facAt] using HR3.out, Only.refl _ _⟩
  case round =>
    obtain ⟨k, hk, rfl, hrow, honly⟩ := hrel
    by_cases hlt : k < n
    · obtain ⟨hc, hf⟩ := hrow.cell k (by rw [facAt_len _ _ (by omega)]; omega)
      have HN := Lib.hid (show Row (wr.setCell ⟨w2.heap.size, k, none⟩ (.int .u8 255)) w2.heap.size (facAt m (k + 1)) by rw [← facAt_succ m k (by omega)]; exact hrow.set_ k 255)
      have HON := Lib.hid (honly.set_ k (.int .u8 255))
      clear hrow honly
      go_wp2_with fail
      go_roundw
      case rel => exact ⟨k + 1, by omega, by go_num, HN.out, HON.out⟩
      case measure => simp [intOf]; omega
    · obtain rfl : k = n := by omega
      have HN := Lib.hid hrow
      have HON := Lib.hid honly
      clear hrow honly
      go_wp2_with fail
      go_returns
      exact ⟨_, rfl, on_only HO3.out HON.out (by have := HS2.out; have := H0.out.bel.size; omega) (by have := HS2.out; have := tab_pos H0.out.tab; omega), by have := HS2.out; omega, HN.out⟩
end Go.Proofs.YthlemcnbebfliaaGreatDoor
