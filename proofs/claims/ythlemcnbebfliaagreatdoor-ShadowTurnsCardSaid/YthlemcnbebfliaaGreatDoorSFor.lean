/-
  THE WALK OF slot.findFor.
-/
import Derived.Test.YthlemcnbebfliaaGreatDoorSFind
namespace Go.Proofs.YthlemcnbebfliaaGreatDoor
open Ks Go.RowKit
set_option maxRecDepth 20000

/-- what find answers: error er, or a place that begins at sector 'first' -/
def FindPost (w : World) (p : Nat) (z er first : Int) (e : Ending) (w' : World) : Prop :=
  Below w.heap.size w w' ∧ ((er ≠ 0 ∧ e = .returned (.tuple #[noPlace, .int .i64 er])) ∨
    (er = 0 ∧ ∃ x y, w.heap.size ≤ x ∧ w.heap.size ≤ y ∧ Hand w' x y p first ∧ e = .returned (.tuple #[placeV z x y, .int .i64 0])))
theorem find_any (w : World) (p m : Nat) (F : Nat → Prop) (s : St) (which a b c z er first : Int) (hT : Tab w) (h : DiskAt Tryz.prog w p F s) (hO : Ok m s) (hz : (s.size : Int) = z) (her : findErr s which a b c = er) (hf : which * spanOf z a b c = first) :
    Calls Tryz.prog 85 #[.pointer (some ⟨p, 0, none⟩), .int .i64 which, geoV a b c] w (FindPost w p z er first) := by
  subst her hf
  unfold findErr
  by_cases h1 : right a b c = false
  · rw [if_pos h1]
    exact (find_geo w p F s which a b c hT h h1).mono fun e w' hh => ⟨hh.1, .inl ⟨by decide, hh.2⟩⟩
  rw [if_neg h1]
  have h1' : right a b c = true := by simpa using h1
  by_cases h2 : which < 0 ∨ 1 < which ∨ s.size < 32
  · rw [if_pos h2]
    exact (find_arg w p F s which a b c hT h h1' h2).mono fun e w' hh => ⟨hh.1, .inl ⟨by decide, hh.2⟩⟩
  rw [if_neg h2]
  subst hz
  refine (find_more w p F s which a b c _ _ _ hT h rfl rfl rfl (by have := hO.size; omega) (by have := hO.len; omega) h1' (by omega) (by omega) (by omega)).mono ?_
  rintro e w' ⟨hb, h⟩
  refine ⟨hb, ?_⟩
  rcases h with ⟨h3, rfl⟩ | ⟨h3, x, y, hx, hy, hH, rfl⟩
  · rw [if_pos h3]
    exact .inl ⟨by decide, rfl⟩
  · rw [if_neg h3]
    exact .inr ⟨rfl, x, y, hx, hy, hH, rfl⟩
/-- the error that findFor tells -/
def forErr (s : St) (which a b c : Int) (n : Nat) : Int := if findErr s which a b c ≠ 0 then findErr s which a b c else if (n : Int) ≠ total a b c then 1 else 0
/-- a geometry's box, then a result's -/
structure BoxAt (w : World) (a b c : Int) (t : TypeId) (cs : Array Value) (W : World) : Prop where
  bel : Below w.heap.size w W
  tab : Tab W
  g0 : W.cell? ⟨w.heap.size, 0, none⟩ = some (.int .i64 a)
  g1 : W.cell? ⟨w.heap.size, 1, none⟩ = some (.int .i64 b)
  g2 : W.cell? ⟨w.heap.size, 2, none⟩ = some (.int .i64 c)
  res : Blk W (w.heap.size + 1) t cs
theorem BoxAt.start {w : World} (a b c : Int) (t : TypeId) (cs : Array Value) (hT : Tab w) : BoxAt w a b c t cs ((w.alloc (.cells #[.int .i64 a, .int .i64 b, .int .i64 c] 23)).alloc (.cells cs t)) := by
  have b1 := below_box w (.cells #[.int .i64 a, .int .i64 b, .int .i64 c] 23)
  have b2 := below_box (w.alloc (.cells #[.int .i64 a, .int .i64 b, .int .i64 c] 23)) (.cells cs t)
  have hb := b1.trans (b2.mono b1.size)
  obtain ⟨k0, k1, k2⟩ := boxed w (.int .i64 a) (.int .i64 b) (.int .i64 c) 23
  have hn := Blk.new (w.alloc (.cells #[.int .i64 a, .int .i64 b, .int .i64 c] 23)) t cs
  rw [size_alloc] at hn
  exact ⟨hb, tab_below hT hb (tab_pos hT), (b2.cell (p := ⟨w.heap.size, 0, none⟩) (by simp)).trans k0, (b2.cell (p := ⟨w.heap.size, 1, none⟩) (by simp)).trans k1, (b2.cell (p := ⟨w.heap.size, 2, none⟩) (by simp)).trans k2, hn⟩
theorem BoxAt.next {w W W' : World} {a b c : Int} {t : TypeId} {cs : Array Value} (H : BoxAt w a b c t cs W) (hb : Below W.heap.size W W') : BoxAt w a b c t cs W' :=
  ⟨H.bel.trans (hb.mono H.bel.size), tab_below H.tab hb (tab_pos H.tab), (hb.cell (p := ⟨w.heap.size, 0, none⟩) (block_lt_of_cell H.g0)).trans H.g0,
    (hb.cell (p := ⟨w.heap.size, 1, none⟩) (block_lt_of_cell H.g1)).trans H.g1, (hb.cell (p := ⟨w.heap.size, 2, none⟩) (block_lt_of_cell H.g2)).trans H.g2, H.res.of_eq (hb.block _ H.res.lt)⟩
theorem BoxAt.end_ {w W : World} {a b c : Int} {t : TypeId} {cs : Array Value} (H : BoxAt w a b c t cs W) (x y z : Value) : Below w.heap.size w (((W.setCell ⟨w.heap.size + 1, 0, none⟩ x).setCell ⟨w.heap.size + 1, 1, none⟩ y).setCell ⟨w.heap.size + 1, 2, none⟩ z) :=
  ((H.bel.setCell (p := ⟨w.heap.size + 1, 0, none⟩) (by show w.heap.size ≤ w.heap.size + 1; omega) x).setCell (p := ⟨w.heap.size + 1, 1, none⟩) (by show w.heap.size ≤ w.heap.size + 1; omega) y).setCell (p := ⟨w.heap.size + 1, 2, none⟩) (by show w.heap.size ≤ w.heap.size + 1; omega) z
theorem store_fn (fn : Fn) (fs cap : Array Value) (a : Addr) (w : World) : (store a (.func fn fs cap)).run Tryz.prog w = stored Tryz.prog w a (.func fn fs cap) .plain := run_store _ _ _ _ _ rfl

theorem findFor_any (w : World) (p m : Nat) (F : Nat → Prop) (s : St) (which a b c z er first : Int) (A : Option Addr) (n cap : Nat) (hT : Tab w) (h : DiskAt Tryz.prog w p F s) (hO : Ok m s) (hz : (s.size : Int) = z) (her : forErr s which a b c n = er) (hf : which * spanOf z a b c = first) :
    Calls Tryz.prog 116 #[.pointer (some ⟨p, 0, none⟩), .int .i64 which, geoV a b c, .slice A n cap] w (FindPost w p z er first) := by
  have hst0 := store_nil
  have hst := store_fn
  have HS := Lib.hid (BoxAt.start a b c 130 #[.int .i64 0, .nilFunc, .nilFunc] hT)
  have HD := Lib.hid h
  have HO := Lib.hid hO
  have HF := Lib.hid (And.intro hz hf)
  have HER := Lib.hid her
  clear hT h hO hz hf her
  go_enter Tryz.func116, Tryz.ntmps116
  go_wp2_with fail
  obtain ⟨fe, hfe⟩ : ∃ fe, findErr s which a b c = fe := ⟨_, rfl⟩
  have HFE := Lib.hid hfe
  clear hfe
  refine (find_any _ p m F s which a b c z fe first HS.out.tab (HD.out.below_ HS.out.bel) HO.out HF.out.1 HFE.out HF.out.2).mono ?_
  rintro e w1 ⟨hb, hh⟩
  have H1 := Lib.hid (HS.out.next hb)
  clear hb HS
  rcases hh with ⟨h0, rfl⟩ | ⟨rfl, x, y, hx, hy, hH, rfl⟩
  · have H2 := Lib.hid (H1.out.next (below_box w1 (.cells #[.int .i64 0, .nilFunc, .nilFunc] 130)))
    have hd0 : (fe != 0) = true := by simpa using h0
    obtain ⟨c0, c1, c2⟩ := H2.out.res.three (.int .i64 0) .nilFunc
    have fr := H2.out.res.frozen
    go_wp2_with fail
    have HE := Lib.hid (H2.out.end_ (.int .i64 0) (.nilFunc) (.nilFunc))
    have HB := Lib.hid (H2.out.res.sets3 (.int .i64 0) (.nilFunc) (.nilFunc))
    have HQ := Lib.hid (show er = fe by rw [← HER.out]; unfold forErr; rw [HFE.out, if_pos h0])
    generalize (((w1.alloc (.cells #[.int .i64 0, .nilFunc, .nilFunc] 130)).setCell ⟨w.heap.size + 1, 0, none⟩ (.int .i64 0)).setCell ⟨w.heap.size + 1, 1, none⟩ (.nilFunc)).setCell ⟨w.heap.size + 1, 2, none⟩ (.nilFunc) = W3 at *
    obtain ⟨e0, e1, e2⟩ := HB.out.c3
    (try simp only [Exit.inBlock, Exit.then])
    refine bodyPost_ret (by simp [results, Tryz.results116, go_sem, e0, e1, e2]; try rfl) rfl ?_
    exact ⟨HE.out, .inl ⟨by rw [HQ.out]; exact h0, by rw [HQ.out]⟩⟩
  have HXY := Lib.hid (show w.heap.size ≤ x ∧ w.heap.size ≤ y ∧ x ≠ w.heap.size + 1 ∧ y ≠ w.heap.size + 1 by simp at hx hy; omega)
  have HHH1 := Lib.hid hH
  clear hx hy hH
  have b2 := below_box w1 (.cells #[.int .i64 z, fnV 110 x y, fnV 112 x y] 130)
  have H2 := Lib.hid (H1.out.next b2)
  have HH2 := Lib.hid (HHH1.out.keep (S := No) (Keeps.of_below b2) (fun h => h) (fun h => h))
  have N2 := Lib.hid (Blk.new w1 130 #[.int .i64 z, fnV 110 x y, fnV 112 x y])
  clear b2
  have g0 := H2.out.g0
  have g1 := H2.out.g1
  have g2 := H2.out.g2
  obtain ⟨tt, htt⟩ : ∃ tt, total a b c = tt := ⟨_, rfl⟩
  have HTT := Lib.hid htt
  clear htt
  go_wp2_with fail
  clear g0 g1 g2
  refine (total_any a b c tt _ _ (On.start H2.out.tab) HTT.out).mono ?_
  rintro e w3 ⟨rfl, hw3⟩
  have H3 := Lib.hid (H2.out.next hw3.bel)
  have HH3 := Lib.hid (HH2.out.keep (S := No) (Keeps.of_below hw3.bel) (fun h => h) (fun h => h))
  have N3 := Lib.hid (N2.out.of_eq (hw3.bel.block _ N2.out.lt))
  clear hw3 H2 HH2 N2
  have fr := H3.out.res.frozen
  by_cases hn : (n : Int) ≠ tt
  · have hnb : ((n : Int) != tt) = true := by simpa using hn
    obtain ⟨c0, c1, c2⟩ := H3.out.res.three (.int .i64 0) .nilFunc
    go_wp2_with fail
    have HE := Lib.hid (H3.out.end_ (.int .i64 0) (.nilFunc) (.nilFunc))
    have HB := Lib.hid (H3.out.res.sets3 (.int .i64 0) (.nilFunc) (.nilFunc))
    have HQ := Lib.hid (show er = 1 by rw [← HER.out]; unfold forErr; rw [HFE.out, HTT.out, if_neg (by decide), if_pos hn])
    generalize (((w3).setCell ⟨w.heap.size + 1, 0, none⟩ (.int .i64 0)).setCell ⟨w.heap.size + 1, 1, none⟩ (.nilFunc)).setCell ⟨w.heap.size + 1, 2, none⟩ (.nilFunc) = W3 at *
    obtain ⟨e0, e1, e2⟩ := HB.out.c3
    (try simp only [Exit.inBlock, Exit.then])
    refine bodyPost_ret (by simp [results, Tryz.results116, go_sem, e0, e1, e2]; try rfl) rfl ?_
    exact ⟨HE.out, .inl ⟨by rw [HQ.out]; decide, by rw [HQ.out]⟩⟩
  have hn : (n : Int) = tt := by omega
  have hnb : ((n : Int) != tt) = false := by simpa using hn
  obtain ⟨c0, c1, c2⟩ := H3.out.res.three (.int .i64 z) (fnV 110 x y)
  obtain ⟨k0, k1, k2⟩ := N3.out.c3
  go_wp2_with fail
  have HE := Lib.hid (H3.out.end_ (.int .i64 z) (fnV 110 x y) (fnV 112 x y))
  have HB := Lib.hid (H3.out.res.sets3 (.int .i64 z) (fnV 110 x y) (fnV 112 x y))
  have HQ := Lib.hid (show er = 0 by rw [← HER.out]; unfold forErr; rw [HFE.out, HTT.out, if_neg (by decide), if_neg (fun h => h hn)])
  have HHH := Lib.hid (show Hand (((w3.setCell ⟨w.heap.size + 1, 0, none⟩ (.int .i64 z)).setCell ⟨w.heap.size + 1, 1, none⟩ (fnV 110 x y)).setCell ⟨w.heap.size + 1, 2, none⟩ (fnV 112 x y)) x y p first from
    have oth : ∀ (b : Nat), b ≠ w.heap.size + 1 → (((w3.setCell ⟨w.heap.size + 1, 0, none⟩ (.int .i64 z)).setCell ⟨w.heap.size + 1, 1, none⟩ (fnV 110 x y)).setCell ⟨w.heap.size + 1, 2, none⟩ (fnV 112 x y)).cell? ⟨b, 0, none⟩ = w3.cell? ⟨b, 0, none⟩ := fun b hb => by
      rw [World.cell?_setCell_other _ _ _ _ (fun e => hb (congrArg Addr.block e).symm), World.cell?_setCell_other _ _ _ _ (fun e => hb (congrArg Addr.block e).symm), World.cell?_setCell_other _ _ _ _ (fun e => hb (congrArg Addr.block e).symm)]
    ⟨(oth x HXY.out.2.2.1).trans HH3.out.disk, (oth y HXY.out.2.2.2).trans HH3.out.first⟩)
  generalize (((w3).setCell ⟨w.heap.size + 1, 0, none⟩ (.int .i64 z)).setCell ⟨w.heap.size + 1, 1, none⟩ (fnV 110 x y)).setCell ⟨w.heap.size + 1, 2, none⟩ (fnV 112 x y) = W3 at *
  obtain ⟨e0, e1, e2⟩ := HB.out.c3
  (try simp only [Exit.inBlock, Exit.then])
  refine bodyPost_ret (by simp [results, Tryz.results116, go_sem, e0, e1, e2]; try rfl) rfl ?_
  exact ⟨HE.out, .inr ⟨HQ.out, x, y, HXY.out.1, HXY.out.2.1, HHH.out, rfl⟩⟩
end Go.Proofs.YthlemcnbebfliaaGreatDoor
