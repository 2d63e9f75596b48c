/-
  THE WALKS OF keepsakelaw09.awake, AND OF THE DOCUMENT's Begin, Clock, End.
-/
import Derived.Test.YtilaldojbgbegaaWSame
import Derived.Test.YtilaldojbgbegaaBSame
namespace Go.Proofs.Ytilaldojbgbegaa
open Go.RowKit
set_option maxRecDepth 20000

theorem Tells.nums {w w' : World} {l : List Int} {e : Ending} (h : Tells w l e w') (hv : ∀ v ∈ l, 0 ≤ v ∧ v ≤ 4) : ∃ A c, e = .returned (.slice A l.length c) ∧ Nums .i64 w' w'.heap.size A l.length l ∧ Below w.heap.size w w' := by
  obtain ⟨v, rfl, ho, hb⟩ := h
  obtain ⟨A, c, rfl, _, hm⟩ := ho.ints.nums fun v hx => int_wf.2 (by have := hv v hx; omega)
  exact ⟨A, c, rfl, hm, hb⟩
theorem evs_in (l : List Lev) : ∀ v ∈ evs l, 0 ≤ v ∧ v ≤ 4 := evTo_in l _
theorem evs_len (l : List Lev) : (evs l).length = l.length := evTo_len l _
theorem Makes.reads {w w' : World} {rs : List RunD} {e : Ending} (h : Makes w rs e w') : ∃ A c, e = .returned (.slice A rs.length c) ∧ RunsM w' w'.heap.size A rs.length rs ∧ Below w.heap.size w w' := by
  obtain ⟨v, rfl, ho, hb⟩ := h
  obtain ⟨A, c, rfl, hm⟩ := ho.reads
  exact ⟨A, c, rfl, hm, hb⟩
/-- a slice of numbers that is written out -/
theorem nums_new (k : IntKind) (w : World) (t : TypeId) (l : List Int) (h : ∀ v ∈ l, (Lit.int k v).wf = true) : Nums k (w.alloc (.cells (l.map (Value.int k)).toArray t)) (w.heap.size + 1) (some ⟨w.heap.size, 0, none⟩) l.length l := by
  refine ⟨rfl, h, fun _ => ⟨_, 0, rfl, by omega, fun i hi => ?_⟩⟩
  rw [cell_of_row _ _ _ _ t (0, 0) (heap_alloc_new w _)]
  simp [hi, List.getD]

set_option maxRecDepth 100000 in
set_option maxHeartbeats 4000000 in
theorem awake_any (w : World) : Calls Try.prog 8 #[] w fun e w' => e = .returned (.bool true) ∧ Below w.heap.size w w' := by
  have hm := many_new levE w 30 [(true, false), (false, false), (false, true), (true, true), (true, true)] #[.bool true, .bool false, .bool false, .bool false, .bool false, .bool true, .bool true, .bool true, .bool true, .bool true] rfl
  have H := Lib.hid (show Many levE (w.alloc (.cells #[.bool true, .bool false, .bool false, .bool false, .bool false, .bool true, .bool true, .bool true, .bool true, .bool true] 30)) (w.heap.size + 1) (some ⟨w.heap.size, 0, none⟩) 5 [(true, false), (false, false), (false, true), (true, true), (true, true)] from hm)
  have HB := Lib.hid (below_box w (.cells #[.bool true, .bool false, .bool false, .bool false, .bool false, .bool true, .bool true, .bool true, .bool true, .bool true] 30))
  have HS := Lib.hid (show (w.alloc (.cells #[.bool true, .bool false, .bool false, .bool false, .bool false, .bool true, .bool true, .bool true, .bool true, .bool true] 30)).heap.size = w.heap.size + 1 by simp)
  clear hm
  go_enter Try.func8, Try.ntmps8
  go_wp2_with fail
  generalize w.alloc (.cells #[.bool true, .bool false, .bool false, .bool false, .bool false, .bool true, .bool true, .bool true, .bool true, .bool true] 30) = W at *
  refine (events_any W _ 5 5 (w.heap.size + 1) _ H.out (by have := HS.out; omega) (by decide)).mono ?_
  intro e w1 ht
  obtain ⟨A1, d1, rfl, hm, hb⟩ := ht.nums (evs_in _)
  rw [show evs [(true, false), (false, false), (false, true), (true, true), (true, true)] = [1, 4, 0, 3, 0] from by decide] at hm ⊢
  have HM := Lib.hid (show Nums .i64 w1 w1.heap.size A1 5 [1, 4, 0, 3, 0] from hm)
  have H1 := Lib.hid ((H.out.mono (show w.heap.size + 1 ≤ W.heap.size by have := HS.out; omega)).below hb)
  have HB1 := Lib.hid (HB.out.trans (hb.mono HB.out.size))
  have HS1 := Lib.hid hb.size
  clear ht hm hb
  go_wp2_with fail
  have n2 := nums_new .i64 w1 3 [1, 4, 0, 3, 0] (by decide)
  have HN2 := Lib.hid (show Nums .i64 (w1.alloc (.cells #[.int .i64 1, .int .i64 4, .int .i64 0, .int .i64 3, .int .i64 0] 3)) (w1.heap.size + 1) (some ⟨w1.heap.size, 0, none⟩) 5 [1, 4, 0, 3, 0] from n2)
  have hb2 := below_box w1 (.cells #[.int .i64 1, .int .i64 4, .int .i64 0, .int .i64 3, .int .i64 0] 3)
  have HM2 := Lib.hid (HM.out.below hb2)
  have HL2 := Lib.hid ((H1.out.mono HS1.out).below hb2)
  have HB2 := Lib.hid (HB1.out.trans (hb2.mono HB1.out.size))
  have HS2 := Lib.hid (show (w1.alloc (.cells #[.int .i64 1, .int .i64 4, .int .i64 0, .int .i64 3, .int .i64 0] 3)).heap.size = w1.heap.size + 1 by simp)
  clear n2 hb2
  generalize w1.alloc (.cells #[.int .i64 1, .int .i64 4, .int .i64 0, .int .i64 3, .int .i64 0] 3) = W2 at *
  refine (ints_refl A1 (some ⟨w1.heap.size, 0, none⟩) 5 d1 5 (w1.heap.size + 1) [1, 4, 0, 3, 0] W2 (by decide) (HM2.out.mono (Nat.le_succ _)) HN2.out (by have := HS2.out; omega)).mono ?_
  rintro e w3 ⟨rfl, hb⟩
  have HL3 := Lib.hid (HL2.out.below (hb.mono (by have := HS2.out; omega)))
  have HB3 := Lib.hid (HB2.out.trans (hb.mono HB2.out.size))
  have HS3 := Lib.hid (show w1.heap.size ≤ w3.heap.size from by have := hb.size; have := HS2.out; omega)
  clear hb
  go_wp2_with fail
  refine (runs_any w3 _ 5 5 w1.heap.size _ HL3.out HS3.out (by decide)).mono ?_
  intro e w4 ht
  obtain ⟨A4, d4, rfl, hm, hb⟩ := ht.reads
  rw [show (runs [(true, false), (false, false), (false, true), (true, true), (true, true)]).length = 1 from by decide]
  have HB4 := Lib.hid (HB3.out.trans (hb.mono HB3.out.size))
  clear ht hm hb
  go_wp2_with fail
  go_ret
  exact ⟨rfl, HB4.out⟩

def beginL : List Lev := [(false, true), (true, true), (true, false), (false, false)]
def clockL (b : Bool) : List Lev := [(false, b), (true, b), (false, b)]
def endL : List Lev := [(false, false), (true, false), (true, true)]
/-- a row of levels of the call's own -/
def Gives (w : World) (l : List Lev) (e : Ending) (w' : World) : Prop := ∃ v, e = .returned v ∧ OwnM levE 30 w.heap.size w' v l ∧ Below w.heap.size w w'
theorem own_new {α : Type} (E : Enc α) (w : World) (t : TypeId) (l : List α) (cs : Array Value) (h : cs.toList = l.flatMap E.cells) (hn : l.length ≤ maxLen) : OwnM E t w.heap.size (w.alloc (.cells cs t)) (.slice (some ⟨w.heap.size, 0, none⟩) l.length l.length) l := by
  refine ⟨E.flat_len l, .inr ⟨w.heap.size, l.length, cs, rfl, Nat.le_refl _, heap_alloc_new w _, Nat.le_refl _, hn, ?_, ?_⟩⟩
  · rw [← E.flat_len, ← h]; simp
  · rw [h, ← E.flat_len]
    exact List.take_of_length_le (Nat.le_refl _)
theorem begin_any (w : World) : Calls Try.prog 17 #[] w (Gives w beginL) := by
  go_enter Try.func17, Try.ntmps17
  go_wp2_with fail
  go_ret
  exact ⟨_, rfl, own_new levE w _ beginL _ rfl (by decide), below_box w _⟩
theorem clock_any (w : World) (b : Bool) : Calls Try.prog 18 #[.bool b] w (Gives w (clockL b)) := by
  go_enter Try.func18, Try.ntmps18
  go_wp2_with fail
  go_ret
  exact ⟨_, rfl, own_new levE w _ (clockL b) _ rfl (by simp [clockL, maxLen]), below_box w _⟩
theorem end_any (w : World) : Calls Try.prog 19 #[] w (Gives w endL) := by
  go_enter Try.func19, Try.ntmps19
  go_wp2_with fail
  go_ret
  exact ⟨_, rfl, own_new levE w _ endL _ rfl (by decide), below_box w _⟩
end Go.Proofs.Ytilaldojbgbegaa
