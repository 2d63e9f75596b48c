/-
  THE WALKS OF wire.New, (*Wire).Step.
-/
import Derived.Test.YtfcdlnpfneinlaaDoorWEvent
namespace Go.Proofs.YtfcdlnpfneinlaaDoor
open Go.RowKit
set_option maxRecDepth 20000

/-- a wire in memory, and its last level -/
def WireAt (w : World) (p : Nat) (a : Lev) : Prop := Blk w p 84 #[.bool a.1, .bool a.2]
theorem WireAt.keeps {w w' : World} {p : Nat} {a : Lev} {S : Nat → Prop} (h : WireAt w p a) (hk : Keeps S w w') (hS : ¬ S p) : WireAt w' p a := Blk.of_eq h (hk.block p (Blk.lt h) hS)
theorem WireAt.below {w w' : World} {p : Nat} {a : Lev} (h : WireAt w p a) (hk : Below w.heap.size w w') : WireAt w' p a := Blk.of_eq h (hk.block p (Blk.lt h))
theorem WireAt.cells {w : World} {p : Nat} {a : Lev} (h : WireAt w p a) : w.cell? ⟨p, 0, none⟩ = some (.bool a.1) ∧ w.cell? ⟨p, 1, none⟩ = some (.bool a.2) ∧ w.frozen? ⟨p, 0, none⟩ = false ∧ w.frozen? ⟨p, 1, none⟩ = false :=
  ⟨(Blk.cell h 0).trans rfl, (Blk.cell h 1).trans rfl, Blk.frozen h 0, Blk.frozen h 1⟩

set_option maxRecDepth 100000 in
set_option maxHeartbeats 4000000 in
theorem new_any (w : World) : Calls Tryd.prog 34 #[] w fun e w' => ∃ p, e = .returned (.pointer (some ⟨p, 0, none⟩)) ∧ w.heap.size ≤ p ∧ WireAt w' p up ∧ Below w.heap.size w w' := by
  go_enter Tryd.func34, Tryd.ntmps34
  go_wp2_with fail
  refine (high_any _).mono ?_
  rintro e w1 ⟨rfl, hb⟩
  have HB := Lib.hid hb
  clear hb
  go_wp2_with fail
  go_ret
  exact ⟨_, rfl, HB.out.size, Blk.new w1 _ _, HB.out.alloc HB.out.size _⟩

set_option maxRecDepth 100000 in
set_option maxHeartbeats 4000000 in
theorem step_any (w : World) (p : Nat) (a x : Lev) (h : WireAt w p a) : Calls Tryd.prog 35 #[.pointer (some ⟨p, 0, none⟩), levV x] w fun e w' => e = .returned (.int .i64 (tell a x)) ∧ WireAt w' p x ∧ Keeps (fun b => b = p) w w' := by
  have H := Lib.hid h
  obtain ⟨a1, a2⟩ := a
  obtain ⟨x1, x2⟩ := x
  have hlt := Blk.lt h
  have hne : w.heap.size ≠ p := by omega
  have h1 : WireAt (w.alloc (.cells #[.bool x1, .bool x2] 41)) p (a1, a2) := h.below (below_box w _)
  have hb : Blk (w.alloc (.cells #[.bool x1, .bool x2] 41)) w.heap.size 41 #[.bool x1, .bool x2] := Blk.new w _ _
  have HK := Lib.hid ((Keeps.refl (fun b => b = p) w).alloc (.cells #[.bool x1, .bool x2] 41))
  obtain ⟨c0, c1, f0, f1⟩ := h1.cells
  have b0 := hb.cell 0
  have b1 := hb.cell 1
  simp only [List.getElem?_toArray, List.getElem?_cons_zero, List.getElem?_cons_succ] at b0 b1
  have H1 := Lib.hid h1
  have HB := Lib.hid hb
  unfold levV
  clear h h1 hb
  go_enter Tryd.func35, Tryd.ntmps35
  go_upto_region 1 with fail
  generalize w.alloc (.cells #[.bool x1, .bool x2] 41) = W at *
  go_region_held3 (fun w' => w'.cell? ⟨p, 0, none⟩ = some (.bool a1) ∧ w'.cell? ⟨p, 1, none⟩ = some (.bool a2) ∧ w'.cell? ⟨w.heap.size, 0, none⟩ = some (.bool x1) ∧ w'.cell? ⟨w.heap.size, 1, none⟩ = some (.bool x2)) (first | (with_reducible exact Z2.out) | go_keep) (first
    | (go_at_call 54; refine (event_any _ (a1, a2) (x1, x2)).mono ?_; rintro e w2 ⟨rfl, hb⟩
       have H2 := Lib.hid (H1.out.below (undrew hb))
       have B2 := Lib.hid (HB.out.of_eq ((undrew hb).block _ HB.out.lt))
       have K2 := Lib.hid (HK.out.trans (Keeps.of_below (undrew hb)).no)
       have Z2 := Lib.hid (show w2.cell? ⟨p, 0, none⟩ = some (.bool a1) ∧ w2.cell? ⟨p, 1, none⟩ = some (.bool a2) ∧ w2.cell? ⟨w.heap.size, 0, none⟩ = some (.bool x1) ∧ w2.cell? ⟨w.heap.size, 1, none⟩ = some (.bool x2) from ⟨H2.out.cells.1, H2.out.cells.2.1, (B2.out.cell 0).trans rfl, (B2.out.cell 1).trans rfl⟩)
       clear hb))
  clear c0 c1 f0 f1 b0 b1
  obtain ⟨c0, c1, f0, f1⟩ := H2.out.cells
  have b0 := B2.out.cell 0
  have b1 := B2.out.cell 1
  simp only [List.getElem?_toArray, List.getElem?_cons_zero, List.getElem?_cons_succ] at b0 b1
  go_wp2_with fail
  go_ret
  refine ⟨rfl, ?_, ?_⟩
  · exact (Blk.set_ (Blk.set_ H2.out 0 (.bool x1)) 1 (.bool x2))
  · exact (K2.out.set_ (p := ⟨p, 0, none⟩) (.inl rfl) _).set_ (p := ⟨p, 1, none⟩) (.inl rfl) _
end Go.Proofs.YtfcdlnpfneinlaaDoor
