/-
  THE WALK OF slot.find.
-/
import Derived.Test.YthlemcnbebfliaaGreatDoorSLoad
import Derived.Test.YthlemcnbebfliaaGreatDoorDSmall
import Derived.Deep.RegionHeld3
import Derived.Deep.DeepCutAuto
namespace Go.Proofs.YthlemcnbebfliaaGreatDoor
open Ks Go.RowKit
set_option maxRecDepth 20000

theorem size_in (W : World) (q : Regrown) (p : Nat) (F : Nat → Prop) (s : St) (z : Int) (h : DiskAt Tryz.prog W p F s) (hz : (s.size : Int) = z) : Calls Tryz.prog 82 #[.pointer (some ⟨p, 0, none⟩)] (In W q) fun e w'' => e = .returned (.int .i64 z) ∧ ∃ q : Regrown, w'' = In W q := by
  subst hz
  apply Calls.regrown_of
  exact (Dsk.size_any _ p F s (h.keeps (Keeps.of_below (in_below W q)) (fun _ _ h => h))).mono fun _ _ h => ⟨h.1, h.2 ▸ Below.refl _ _⟩
theorem sectors_in (W : World) (q : Regrown) (p : Nat) (F : Nat → Prop) (s : St) (z : Int) (h : DiskAt Tryz.prog W p F s) (hz : (s.last.length : Int) = z) : Calls Tryz.prog 83 #[.pointer (some ⟨p, 0, none⟩)] (In W q) fun e w'' => e = .returned (.int .i64 z) ∧ ∃ q : Regrown, w'' = In W q := by
  subst hz
  apply Calls.regrown_of
  exact (Dsk.sectors_any _ p F s (h.keeps (Keeps.of_below (in_below W q)) (fun _ _ h => h))).mono fun _ _ h => ⟨h.1, h.2 ▸ Below.refl _ _⟩
theorem room_in (W : World) (q : Regrown) (size a b c v : Int) (hT : Tab W) (hv : 2 * spanOf size a b c = v) : Calls Tryz.prog 84 #[.int .i64 size, geoV a b c] (In W q) fun e w'' => e = .returned (.int .i64 v) ∧ ∃ q : Regrown, w'' = In W q := by
  apply Calls.regrown_of
  exact (room_any size a b c v _ _ (on_in hT q) hv).mono fun _ _ h => ⟨h.1, h.2.bel⟩
theorem _root_.Ks.DiskAt.below_ {w w' : World} {p : Nat} {F : Nat → Prop} {s : St} (h : DiskAt Tryz.prog w p F s) (hb : Below w.heap.size w w') : DiskAt Tryz.prog w' p F s := h.keeps (Keeps.of_below hb) (fun _ _ h => h)
theorem box_one (w : World) (a : Value) (t : TypeId) : (w.alloc (.cells #[a] t)).cell? ⟨w.heap.size, 0, none⟩ = some a := by simp [go_sem]

/-- which error find tells -/
def findErr (s : St) (which a b c : Int) : Int :=
  if right a b c = false then 9 else if which < 0 ∨ 1 < which ∨ s.size < 32 then 1 else if (s.last.length : Int) < 2 * spanOf s.size a b c then 4 else 0
abbrev noPlace : Value := .agg #[.int .i64 0, .nilFunc, .nilFunc]
/-- find's memory -/
structure FindAt (w : World) (p : Nat) (F : Nat → Prop) (s : St) (a b c : Int) (W : World) : Prop where
  bel : Below w.heap.size w W
  tab : Tab W
  disk : DiskAt Tryz.prog W p F s
  d0 : W.cell? ⟨w.heap.size, 0, none⟩ = some (.pointer (some ⟨p, 0, none⟩))
  g0 : W.cell? ⟨w.heap.size + 1, 0, none⟩ = some (.int .i64 a)
  g1 : W.cell? ⟨w.heap.size + 1, 1, none⟩ = some (.int .i64 b)
  g2 : W.cell? ⟨w.heap.size + 1, 2, none⟩ = some (.int .i64 c)
  res : Blk W (w.heap.size + 1 + 1) 130 #[.int .i64 0, .nilFunc, .nilFunc]
abbrev findW (w : World) (p : Nat) (a b c : Int) : World := ((w.alloc (.cells #[.pointer (some ⟨p, 0, none⟩)] 29)).alloc (.cells #[.int .i64 a, .int .i64 b, .int .i64 c] 23)).alloc (.cells #[.int .i64 0, .nilFunc, .nilFunc] 130)
theorem size_alloc (w : World) (o : Obj) : (w.alloc o).heap.size = w.heap.size + 1 := by simp
theorem FindAt.start {w : World} {p : Nat} {F : Nat → Prop} {s : St} (a b c : Int) (hT : Tab w) (h : DiskAt Tryz.prog w p F s) : FindAt w p F s a b c (findW w p a b c) := by
  have b1 := below_box w (.cells #[.pointer (some ⟨p, 0, none⟩)] 29)
  have b2 := below_box (w.alloc (.cells #[.pointer (some ⟨p, 0, none⟩)] 29)) (.cells #[.int .i64 a, .int .i64 b, .int .i64 c] 23)
  have b3 := below_box ((w.alloc (.cells #[.pointer (some ⟨p, 0, none⟩)] 29)).alloc (.cells #[.int .i64 a, .int .i64 b, .int .i64 c] 23)) (.cells #[.int .i64 0, .nilFunc, .nilFunc] 130)
  have hb := (b1.trans (b2.mono b1.size)).trans (b3.mono (Nat.le_trans b1.size b2.size))
  obtain ⟨k0, k1, k2⟩ := boxed (w.alloc (.cells #[.pointer (some ⟨p, 0, none⟩)] 29)) (.int .i64 a) (.int .i64 b) (.int .i64 c) 23
  have hn := Blk.new ((w.alloc (.cells #[.pointer (some ⟨p, 0, none⟩)] 29)).alloc (.cells #[.int .i64 a, .int .i64 b, .int .i64 c] 23)) 130 #[.int .i64 0, .nilFunc, .nilFunc]
  rw [size_alloc, size_alloc] at hn
  rw [size_alloc] at k0 k1 k2
  have hd : ((w.alloc (.cells #[.pointer (some ⟨p, 0, none⟩)] 29)).cell? ⟨w.heap.size, 0, none⟩) = some (.pointer (some ⟨p, 0, none⟩)) := box_one w _ 29
  refine ⟨hb, tab_below hT hb (tab_pos hT), h.below_ hb, ?_, ?_, ?_, ?_, hn⟩
  · exact ((b2.trans (b3.mono b2.size)).cell (p := ⟨w.heap.size, 0, none⟩) (by simp)).trans hd
  · exact (b3.cell (p := ⟨w.heap.size + 1, 0, none⟩) (by simp)).trans k0
  · exact (b3.cell (p := ⟨w.heap.size + 1, 1, none⟩) (by simp)).trans k1
  · exact (b3.cell (p := ⟨w.heap.size + 1, 2, none⟩) (by simp)).trans k2
theorem FindAt.next {w W W' : World} {p : Nat} {F : Nat → Prop} {s : St} {a b c : Int} (H : FindAt w p F s a b c W) (hb : Below W.heap.size W W') : FindAt w p F s a b c W' := by
  have l := H.res.lt
  exact ⟨H.bel.trans (hb.mono H.bel.size), tab_below H.tab hb (tab_pos H.tab), H.disk.below_ hb, (hb.cell (p := ⟨w.heap.size, 0, none⟩) (block_lt_of_cell H.d0)).trans H.d0, (hb.cell (p := ⟨w.heap.size + 1, 0, none⟩) (block_lt_of_cell H.g0)).trans H.g0,
    (hb.cell (p := ⟨w.heap.size + 1, 1, none⟩) (block_lt_of_cell H.g1)).trans H.g1, (hb.cell (p := ⟨w.heap.size + 1, 2, none⟩) (block_lt_of_cell H.g2)).trans H.g2, H.res.of_eq (hb.block _ l)⟩
/-- the result's block is stored -/
theorem FindAt.end_ {w W : World} {p : Nat} {F : Nat → Prop} {s : St} {a b c : Int} (H : FindAt w p F s a b c W) (x y z : Value) : Below w.heap.size w (((W.setCell ⟨w.heap.size + 1 + 1, 0, none⟩ x).setCell ⟨w.heap.size + 1 + 1, 1, none⟩ y).setCell ⟨w.heap.size + 1 + 1, 2, none⟩ z) :=
  ((H.bel.setCell (p := ⟨w.heap.size + 1 + 1, 0, none⟩) (by show w.heap.size ≤ w.heap.size + 1 + 1; omega) x).setCell (p := ⟨w.heap.size + 1 + 1, 1, none⟩) (by show w.heap.size ≤ w.heap.size + 1 + 1; omega) y).setCell (p := ⟨w.heap.size + 1 + 1, 2, none⟩) (by show w.heap.size ≤ w.heap.size + 1 + 1; omega) z
/-- three cells of a block that is known whole, as they are stored anew -/
theorem _root_.Ks.Blk.three {w : World} {g : Nat} {t : TypeId} {x y z : Value} (h : Blk w g t #[x, y, z]) (x' y' : Value) : w.cell? ⟨g, 0, none⟩ = some x ∧ (w.setCell ⟨g, 0, none⟩ x').cell? ⟨g, 1, none⟩ = some y ∧ ((w.setCell ⟨g, 0, none⟩ x').setCell ⟨g, 1, none⟩ y').cell? ⟨g, 2, none⟩ = some z :=
  ⟨h.cell 0, (h.set_ 0 x').cell 1, ((h.set_ 0 x').set_ 1 y').cell 2⟩
theorem _root_.Ks.Blk.c3 {w : World} {g : Nat} {t : TypeId} {x y z : Value} (h : Blk w g t #[x, y, z]) : w.cell? ⟨g, 0, none⟩ = some x ∧ w.cell? ⟨g, 1, none⟩ = some y ∧ w.cell? ⟨g, 2, none⟩ = some z := ⟨h.cell 0, h.cell 1, h.cell 2⟩
theorem _root_.Ks.Blk.sets3 {w : World} {g : Nat} {t : TypeId} {x y z : Value} (h : Blk w g t #[x, y, z]) (x' y' z' : Value) : Blk (((w.setCell ⟨g, 0, none⟩ x').setCell ⟨g, 1, none⟩ y').setCell ⟨g, 2, none⟩ z') g t #[x', y', z'] := ((h.set_ 0 x').set_ 1 y').set_ 2 z'
theorem store_nil (a : Addr) (w : World) : (store a .nilFunc).run Tryz.prog w = stored Tryz.prog w a .nilFunc .plain := run_store _ _ _ _ _ rfl
theorem find_geo (w : World) (p : Nat) (F : Nat → Prop) (s : St) (which a b c : Int) (hT : Tab w) (h : DiskAt Tryz.prog w p F s) (hr : right a b c = false) :
    Calls Tryz.prog 85 #[.pointer (some ⟨p, 0, none⟩), .int .i64 which, geoV a b c] w fun e w' => Below w.heap.size w w' ∧ e = .returned (.tuple #[noPlace, .int .i64 9]) := by
  have hst0 := store_nil
  have HS := Lib.hid (FindAt.start a b c hT h)
  have HR := Lib.hid hr
  clear hT hr h
  go_enter Tryz.func85, Tryz.ntmps85
  go_wp2_with fail
  refine (right_any a b c false _ _ (On.start HS.out.tab) HR.out).mono ?_
  rintro e w1 ⟨rfl, hw1⟩
  have H1 := Lib.hid (HS.out.next hw1.bel)
  obtain ⟨c0, c1, c2⟩ := H1.out.res.three (.int .i64 0) .nilFunc
  have fr := H1.out.res.frozen
  clear hw1
  go_wp2_with fail
  have HE := Lib.hid (H1.out.end_ (.int .i64 0) .nilFunc .nilFunc)
  have HB := Lib.hid (H1.out.res.sets3 (.int .i64 0) .nilFunc .nilFunc)
  generalize ((w1.setCell ⟨w.heap.size + 1 + 1, 0, none⟩ (.int .i64 0)).setCell ⟨w.heap.size + 1 + 1, 1, none⟩ .nilFunc).setCell ⟨w.heap.size + 1 + 1, 2, none⟩ .nilFunc = W3 at *
  obtain ⟨e0, e1, e2⟩ := HB.out.c3
  (try simp only [Exit.inBlock, Exit.then])
  refine bodyPost_ret (by simp [results, Tryz.results85, go_sem, e0, e1, e2]; try rfl) rfl ?_
  exact ⟨HE.out, rfl⟩
theorem find_arg (w : World) (p : Nat) (F : Nat → Prop) (s : St) (which a b c : Int) (hT : Tab w) (h : DiskAt Tryz.prog w p F s) (hr : right a b c = true) (hw : which < 0 ∨ 1 < which ∨ s.size < 32) :
    Calls Tryz.prog 85 #[.pointer (some ⟨p, 0, none⟩), .int .i64 which, geoV a b c] w fun e w' => Below w.heap.size w w' ∧ e = .returned (.tuple #[noPlace, .int .i64 1]) := by
  have hst0 := store_nil
  have HS := Lib.hid (FindAt.start a b c hT h)
  have HR := Lib.hid hr
  clear hT hr h
  by_cases h0 : which < 0
  · clear hw
    go_enter Tryz.func85, Tryz.ntmps85
    go_wp2_with fail
    refine (right_any a b c true _ _ (On.start HS.out.tab) HR.out).mono ?_
    rintro e w1 ⟨rfl, hw1⟩
    have H1 := Lib.hid (HS.out.next hw1.bel)
    obtain ⟨c0, c1, c2⟩ := H1.out.res.three (.int .i64 0) .nilFunc
    have fr := H1.out.res.frozen
    clear hw1
    go_wp2_with fail
    have HE := Lib.hid (H1.out.end_ (.int .i64 0) .nilFunc .nilFunc)
    have HB := Lib.hid (H1.out.res.sets3 (.int .i64 0) .nilFunc .nilFunc)
    generalize ((w1.setCell ⟨w.heap.size + 1 + 1, 0, none⟩ (.int .i64 0)).setCell ⟨w.heap.size + 1 + 1, 1, none⟩ .nilFunc).setCell ⟨w.heap.size + 1 + 1, 2, none⟩ .nilFunc = W3 at *
    obtain ⟨e0, e1, e2⟩ := HB.out.c3
    (try simp only [Exit.inBlock, Exit.then])
    refine bodyPost_ret (by simp [results, Tryz.results85, go_sem, e0, e1, e2]; try rfl) rfl ?_
    exact ⟨HE.out, rfl⟩
  by_cases h1 : 1 < which
  · clear hw
    go_enter Tryz.func85, Tryz.ntmps85
    go_wp2_with fail
    refine (right_any a b c true _ _ (On.start HS.out.tab) HR.out).mono ?_
    rintro e w1 ⟨rfl, hw1⟩
    have H1 := Lib.hid (HS.out.next hw1.bel)
    obtain ⟨c0, c1, c2⟩ := H1.out.res.three (.int .i64 0) .nilFunc
    have fr := H1.out.res.frozen
    clear hw1
    go_wp2_with fail
    have HE := Lib.hid (H1.out.end_ (.int .i64 0) .nilFunc .nilFunc)
    have HB := Lib.hid (H1.out.res.sets3 (.int .i64 0) .nilFunc .nilFunc)
    generalize ((w1.setCell ⟨w.heap.size + 1 + 1, 0, none⟩ (.int .i64 0)).setCell ⟨w.heap.size + 1 + 1, 1, none⟩ .nilFunc).setCell ⟨w.heap.size + 1 + 1, 2, none⟩ .nilFunc = W3 at *
    obtain ⟨e0, e1, e2⟩ := HB.out.c3
    (try simp only [Exit.inBlock, Exit.then])
    refine bodyPost_ret (by simp [results, Tryz.results85, go_sem, e0, e1, e2]; try rfl) rfl ?_
    exact ⟨HE.out, rfl⟩
  have h2 : (s.size : Int) < 32 := by omega
  clear hw
  go_enter Tryz.func85, Tryz.ntmps85
  go_wp2_with fail
  refine (right_any a b c true _ _ (On.start HS.out.tab) HR.out).mono ?_
  rintro e w1 ⟨rfl, hw1⟩
  have H1 := Lib.hid (HS.out.next hw1.bel)
  obtain ⟨c0, c1, c2⟩ := H1.out.res.three (.int .i64 0) .nilFunc
  have fr := H1.out.res.frozen
  have d0 := H1.out.d0
  clear hw1
  go_wp2_with fail
  refine (Dsk.size_any _ p F s H1.out.disk).mono ?_
  rintro e w2 ⟨rfl, rfl⟩
  go_wp2_with fail
  have HE := Lib.hid (H1.out.end_ (.int .i64 0) .nilFunc .nilFunc)
  have HB := Lib.hid (H1.out.res.sets3 (.int .i64 0) .nilFunc .nilFunc)
  generalize ((w1.setCell ⟨w.heap.size + 1 + 1, 0, none⟩ (.int .i64 0)).setCell ⟨w.heap.size + 1 + 1, 1, none⟩ .nilFunc).setCell ⟨w.heap.size + 1 + 1, 2, none⟩ .nilFunc = W3 at *
  obtain ⟨e0, e1, e2⟩ := HB.out.c3
  (try simp only [Exit.inBlock, Exit.then])
  refine bodyPost_ret (by simp [results, Tryz.results85, go_sem, e0, e1, e2]; try rfl) rfl ?_
  exact ⟨HE.out, rfl⟩
/-- what find answers of a call that may be made but for the room -/
def FindMore (w : World) (p : Nat) (which z len sp : Int) (e : Ending) (w' : World) : Prop :=
  Below w.heap.size w w' ∧ ((len < 2 * sp ∧ e = .returned (.tuple #[noPlace, .int .i64 4])) ∨
      (¬ len < 2 * sp ∧ ∃ x y, w.heap.size ≤ x ∧ w.heap.size ≤ y ∧ Hand w' x y p (which * sp) ∧ e = .returned (.tuple #[placeV z x y, .int .i64 0])))
theorem find_more (w : World) (p : Nat) (F : Nat → Prop) (s : St) (which a b c z len sp : Int) (hT : Tab w) (h : DiskAt Tryz.prog w p F s) (hz : (s.size : Int) = z) (hlen : (s.last.length : Int) = len) (hsp : spanOf z a b c = sp) (hO1 : z ≤ 4096) (_hO2 : len ≤ 4096) (hr : right a b c = true) (h0 : ¬ which < 0) (h1 : ¬ 1 < which) (h2 : ¬ z < 32) :
    Calls Tryz.prog 85 #[.pointer (some ⟨p, 0, none⟩), .int .i64 which, geoV a b c] w (FindMore w p which z len sp) := by
  have hst0 := store_nil
  have HS := Lib.hid (FindAt.start a b c hT h)
  have HR := Lib.hid hr
  clear hT hr h
  have hb := spanOf_bounds z a b c
  rw [hsp] at hb
  obtain ⟨hb0, hb1⟩ := hb
  obtain ⟨rm, hrm⟩ : ∃ rm, 2 * sp = rm := ⟨_, rfl⟩
  have HRO := Lib.hid (show 2 * spanOf z a b c = rm by rw [hsp]; exact hrm)
  have HSP := Lib.hid hsp
  have HZ := Lib.hid (And.intro hz hlen)
  have HRM := Lib.hid hrm
  have hrm0 : 0 ≤ rm := by omega
  have hrm1 : rm ≤ 262146 := by omega
  clear hsp hz hlen hrm
  go_enter Tryz.func85, Tryz.ntmps85
  go_wp2_with fail
  refine (right_any a b c true _ _ (On.start HS.out.tab) HR.out).mono ?_
  rintro e w1 ⟨rfl, hw1⟩
  have H1 := Lib.hid (HS.out.next hw1.bel)
  have d0 := H1.out.d0
  clear hw1
  go_wp2_with fail
  refine (Dsk.size_any _ p F s H1.out.disk).mono ?_
  rintro e w2 ⟨rfl, rfl⟩
  rw [HZ.out.1]
  have r0 := fun d os => cell_regrown H1.out.d0 d os
  have r1 := fun d os => cell_regrown H1.out.g0 d os
  have r2 := fun d os => cell_regrown H1.out.g1 d os
  have r3 := fun d os => cell_regrown H1.out.g2 d os
  go_wp2_with fail
  refine wp_region_quiet_below (by kernel_rfl) (by kernel_rfl) ?_
  go_big_quiet_step (fail)
  go_big_quiet_step ((refine sectors_in w1 _ p F s len H1.out.disk HZ.out.2))
  go_big_quiet_step (fail)
  go_big_quiet_step ((refine size_in w1 _ p F s z H1.out.disk HZ.out.1))
  go_big_quiet_step (fail)
  go_big_quiet_step ((refine room_in w1 _ z a b c rm H1.out.tab HRO.out))
  repeat (go_big_quiet_step (fail))
  refine wpQuiet_nil ?_
  rintro w' ⟨q, rfl⟩
  have H2 := Lib.hid (H1.out.next (in_below w1 q))
  clear r0 r1 r2 r3 d0
  change Exit.then _ _ _ _ (In w1 q)
  generalize In w1 q = W at *
  by_cases hfull : len < rm
  · obtain ⟨c0, c1, c2⟩ := H2.out.res.three (.int .i64 0) .nilFunc
    have fr := H2.out.res.frozen
    go_wp2_with fail
    have HE := Lib.hid (H2.out.end_ (.int .i64 0) .nilFunc .nilFunc)
    have HB := Lib.hid (H2.out.res.sets3 (.int .i64 0) .nilFunc .nilFunc)
    generalize ((W.setCell ⟨w.heap.size + 1 + 1, 0, none⟩ (.int .i64 0)).setCell ⟨w.heap.size + 1 + 1, 1, none⟩ .nilFunc).setCell ⟨w.heap.size + 1 + 1, 2, none⟩ .nilFunc = W3 at *
    obtain ⟨e0, e1, e2⟩ := HB.out.c3
    (try simp only [Exit.inBlock, Exit.then])
    refine bodyPost_ret (by simp [results, Tryz.results85, go_sem, e0, e1, e2]; try rfl) rfl ?_
    exact ⟨HE.out, .inl ⟨by rw [HRM.out]; exact hfull, rfl⟩⟩
  obtain ⟨first, hfirst⟩ : ∃ f, which * sp = f := ⟨_, rfl⟩
  have hfb : 0 ≤ first ∧ first ≤ 131073 := by
    have : which = 0 ∨ which = 1 := by omega
    rcases this with rfl | rfl <;> omega
  obtain ⟨hf0, hf1⟩ := hfb
  have d0 := H2.out.d0
  have g0 := H2.out.g0
  have g1 := H2.out.g1
  have g2 := H2.out.g2
  have HFI := Lib.hid hfirst
  have hwr : IntKind.i64.wrap first = first := by rw [IntKind.wrap_i64]; omega
  clear HRO HS H1
  rw [decide_eq_false hfull, decide_eq_false (show ¬ which < 0 by omega), decide_eq_false (show ¬ 1 < which by omega), decide_eq_false (show ¬ z < 32 by omega)]
  go_upto_region 7 with fail
  go_cut [8] (fun s8 wx => ∃ y, s8 = .pointer (some ⟨y, 0, none⟩) ∧ FindAt w p F s a b c wx ∧ W.heap.size ≤ y ∧ wx.cell? ⟨y, 0, none⟩ = some (.int .i64 first))
  case first =>
    clear hst0
    have KW := Lib.hid (H2.out.disk.keeps (Keeps.refl No W).drew (fun _ _ h => h))
    have KA := Lib.hid (H2.out.disk.keeps ((Keeps.refl No W).alloc (.cells #[.int .i64 0] 3)).drew (fun _ _ h => h))
    have G2 := Lib.hid (H2.out.next (below_box W (.cells #[.int .i64 0] 3)))
    go_region_held3 (fun w' => w'.cell? ⟨w.heap.size, 0, none⟩ = some (.pointer (some ⟨p, 0, none⟩)) ∧ w'.cell? ⟨w.heap.size + 1, 0, none⟩ = some (.int .i64 a) ∧ w'.cell? ⟨w.heap.size + 1, 1, none⟩ = some (.int .i64 b) ∧ w'.cell? ⟨w.heap.size + 1, 2, none⟩ = some (.int .i64 c)) (first | (with_reducible exact Z4.out) | (with_reducible exact (Z44.out _)) | (with_reducible exact Z5.out) | (with_reducible exact (Z6.out _)) | go_keep) (first
      | (go_at_call 82; refine (Dsk.size_any W.drew p F s KW.out).mono ?_; rintro e w3 ⟨rfl, rfl⟩; rw [HZ.out.1])
      | (go_at_call 82; refine (Dsk.size_any (W.alloc (.cells #[.int .i64 0] 3)).drew p F s KA.out).mono ?_; rintro e w3 ⟨rfl, rfl⟩; rw [HZ.out.1])
      | (go_at_call 109; refine (span_any z a b c sp W W.drew (On.start H2.out.tab).drew HSP.out).mono ?_; rintro e w4 ⟨rfl, hw4⟩
         have z4 := H2.out.next hw4.bel
         have Z4 := Lib.hid (And.intro z4.d0 (And.intro z4.g0 (And.intro z4.g1 z4.g2)))
         have z44 := fun v => z4.next (below_box w4 (.cells #[v] 3))
         have Z44 := Lib.hid (fun v => And.intro (z44 v).d0 (And.intro (z44 v).g0 (And.intro (z44 v).g1 (z44 v).g2)))
         have HF := Lib.hid (And.intro (z44 (.int .i64 first)) (And.intro hw4.bel.size (box_one w4 (.int .i64 first) 3)))
         clear hw4 z4 z44)
      | (go_at_call 109; refine (span_any z a b c sp (W.alloc (.cells #[.int .i64 0] 3)) (W.alloc (.cells #[.int .i64 0] 3)).drew (On.start G2.out.tab).drew HSP.out).mono ?_; rintro e w5 ⟨rfl, hw5⟩
         have z5 := G2.out.next hw5.bel
         have Z5 := Lib.hid (And.intro z5.d0 (And.intro z5.g0 (And.intro z5.g1 z5.g2)))
         have bb := (Blk.new W 3 #[.int .i64 0]).of_eq (w' := w5) (hw5.bel.block _ (by simp))
         have y0 := bb.cell 0
         have yf := bb.frozen
         simp only [List.getElem?_toArray, List.getElem?_cons_zero] at y0
         have z6 := fun v => H2.out.next (((below_box W (.cells #[.int .i64 0] 3)).trans (hw5.bel.mono (below_box W (.cells #[.int .i64 0] 3)).size)).setCell (p := ⟨W.heap.size, 0, none⟩) (Nat.le_refl _) v)
         have Z6 := Lib.hid (fun v => And.intro (z6 v).d0 (And.intro (z6 v).g0 (And.intro (z6 v).g1 (z6 v).g2)))
         have HF := Lib.hid (And.intro (z6 (.int .i64 first)) (And.intro (Nat.le_refl W.heap.size) ((bb.set_ 0 (.int .i64 first)).cell 0)))
         clear hw5 z5 z6 bb))
    all_goals
      go_wp2_with fail
      go_meet
      case rel => exact ⟨_, rfl, HF.out.1, HF.out.2.1, HF.out.2.2⟩
  case rest =>
    obtain ⟨y, rfl, H3, hy, hcy⟩ := hcut
    have hmf : ∀ (fn : Fn) (first cap : Array Value) (w : World), (Instr.makeFunc fn first cap).run Tryz.prog w = .ok (.func fn first cap) w := fun _ _ _ _ => rfl
    have hst : ∀ (fn : Fn) (first cap : Array Value) (a : Addr) (w : World), (store a (.func fn first cap)).run Tryz.prog w = stored Tryz.prog w a (.func fn first cap) .plain := fun _ _ _ _ _ => run_store _ _ _ _ _ rfl
    have HY := Lib.hid (And.intro hy hcy)
    have H4 := Lib.hid H3
    have k0 := H3.d0
    obtain ⟨c0, c1, c2⟩ := H3.res.three (.int .i64 z) (fnV 110 w.heap.size y)
    have fr := H3.res.frozen
    clear hy hcy H3 d0 g0 g1 g2
    go_wp2_with fail
    refine (Dsk.size_any _ p F s H4.out.disk).mono ?_
    rintro e w3 ⟨rfl, rfl⟩
    rw [HZ.out.1]
    go_wp2_with fail
    have HE := Lib.hid (H4.out.end_ (.int .i64 z) (fnV 110 w.heap.size y) (fnV 112 w.heap.size y))
    have HB := Lib.hid (H4.out.res.sets3 (.int .i64 z) (fnV 110 w.heap.size y) (fnV 112 w.heap.size y))
    have HHH := Lib.hid (show Hand (((wc.setCell ⟨w.heap.size + 1 + 1, 0, none⟩ (.int .i64 z)).setCell ⟨w.heap.size + 1 + 1, 1, none⟩ (fnV 110 w.heap.size y)).setCell ⟨w.heap.size + 1 + 1, 2, none⟩ (fnV 112 w.heap.size y)) w.heap.size y p first from
      have hne : y ≠ w.heap.size + 1 + 1 := by
        have h1 := HY.out.1
        have h2 := H2.out.res.lt
        omega
      have oth : ∀ (b : Nat), b ≠ w.heap.size + 1 + 1 → (((wc.setCell ⟨w.heap.size + 1 + 1, 0, none⟩ (.int .i64 z)).setCell ⟨w.heap.size + 1 + 1, 1, none⟩ (fnV 110 w.heap.size y)).setCell ⟨w.heap.size + 1 + 1, 2, none⟩ (fnV 112 w.heap.size y)).cell? ⟨b, 0, none⟩ = wc.cell? ⟨b, 0, none⟩ := fun b hb => by
        rw [World.cell?_setCell_other _ _ _ _ (fun e => hb (congrArg Addr.block e).symm), World.cell?_setCell_other _ _ _ _ (fun e => hb (congrArg Addr.block e).symm), World.cell?_setCell_other _ _ _ _ (fun e => hb (congrArg Addr.block e).symm)]
      ⟨(oth _ (by omega)).trans H4.out.d0, (oth y hne).trans HY.out.2⟩)
    have HYB := Lib.hid (show w.heap.size ≤ y from Nat.le_trans H2.out.bel.size HY.out.1)
    generalize ((wc.setCell ⟨w.heap.size + 1 + 1, 0, none⟩ (.int .i64 z)).setCell ⟨w.heap.size + 1 + 1, 1, none⟩ (fnV 110 w.heap.size y)).setCell ⟨w.heap.size + 1 + 1, 2, none⟩ (fnV 112 w.heap.size y) = W3 at *
    obtain ⟨e0, e1, e2⟩ := HB.out.c3
    (try simp only [Exit.inBlock, Exit.then])
    refine bodyPost_ret (by simp [results, Tryz.results85, go_sem, e0, e1, e2]; try rfl) rfl ?_
    exact ⟨HE.out, .inr ⟨by rw [HRM.out]; omega, w.heap.size, y, Nat.le_refl _, HYB.out, by rw [HFI.out]; exact HHH.out, rfl⟩⟩
end Go.Proofs.YthlemcnbebfliaaGreatDoor
