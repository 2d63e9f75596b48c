/-
  A HEAD IN A BOX THAT IS WRITTEN ANEW.
-/
import Derived.Test.YtdafmjklkggbgaaDoorNumbers
namespace Go.Proofs.YtdafmjklkggbgaaDoor
open Ks Go.RowKit

/-- a head's box that may be written -/
structure Box (W : World) (p : Nat) (a b c n q s : Int) : Prop where
  six : Six W p a b c n q s
  fr : ∀ i, W.frozen? ⟨p, i, none⟩ = false
theorem Box.below {W W' : World} {p B : Nat} {a b c n q s : Int} (h : Box W p a b c n q s) (hb : Below B W W') (hp : p < B) : Box W' p a b c n q s := by
  have hc : ∀ i, W'.cell? ⟨p, i, none⟩ = W.cell? ⟨p, i, none⟩ := fun i => hb.cell (p := ⟨p, i, none⟩) hp
  obtain ⟨⟨h0, h1, h2, h3, h4, h5⟩, hf⟩ := h
  exact ⟨⟨(hc 0).trans h0, (hc 1).trans h1, (hc 2).trans h2, (hc 3).trans h3, (hc 4).trans h4, (hc 5).trans h5⟩, fun i => (hb.frozen (p := ⟨p, i, none⟩) hp).trans (hf i)⟩
theorem Box.new (w : World) (a b c n q s : Int) : Box (w.alloc (.cells #[.int .i64 a, .int .i64 b, .int .i64 c, .int .i64 n, .int .u64 q, .int .u32 s] 27)) w.heap.size a b c n q s := ⟨boxed6 w _ _ _ _ _ _ 27, frozen6 w _ _ _ _ _ _ 27⟩
theorem Box.lt {W : World} {p : Nat} {a b c n q s : Int} (h : Box W p a b c n q s) : p < W.heap.size := block_lt_of_cell h.six.1
/-- a head laid into a box -/
def sets (w : World) (p : Nat) (a b c n q s : Int) : World := (((((w.setCell ⟨p, 0, none⟩ (.int .i64 a)).setCell ⟨p, 1, none⟩ (.int .i64 b)).setCell ⟨p, 2, none⟩ (.int .i64 c)).setCell ⟨p, 3, none⟩ (.int .i64 n)).setCell ⟨p, 4, none⟩ (.int .u64 q)).setCell ⟨p, 5, none⟩ (.int .u32 s)
theorem sets_only (w : World) (p : Nat) (a b c n q s : Int) : Only p w (sets w p a b c n q s) := ((((((Only.refl p w).set_ _ _).set_ _ _).set_ _ _).set_ _ _).set_ _ _).set_ _ _
theorem sets_box {w : World} {p : Nat} {a b c n q s : Int} (h : Box w p a b c n q s) (a' b' c' n' q' s' : Int) : Box (sets w p a' b' c' n' q' s') p a' b' c' n' q' s' := by
  obtain ⟨⟨h0, h1, h2, h3, h4, h5⟩, hf⟩ := h
  obtain ⟨e0, e1, e2, e3, e4, e5⟩ := sets6 w p h0 h1 h2 h3 h4 h5 (.int .i64 a') (.int .i64 b') (.int .i64 c') (.int .i64 n') (.int .u64 q') (.int .u32 s')
  unfold sets
  refine ⟨⟨?_, ?_, ?_, ?_, ?_, e5⟩, fun i => by simpa using hf i⟩
  · rw [set_oth _ _ _ _ _ (by decide), set_oth _ _ _ _ _ (by decide), set_oth _ _ _ _ _ (by decide), set_oth _ _ _ _ _ (by decide), set_oth _ _ _ _ _ (by decide)]; exact e0
  · rw [set_oth _ _ _ _ _ (by decide), set_oth _ _ _ _ _ (by decide), set_oth _ _ _ _ _ (by decide), set_oth _ _ _ _ _ (by decide)]; exact e1
  · rw [set_oth _ _ _ _ _ (by decide), set_oth _ _ _ _ _ (by decide), set_oth _ _ _ _ _ (by decide)]; exact e2
  · rw [set_oth _ _ _ _ _ (by decide), set_oth _ _ _ _ _ (by decide)]; exact e3
  · rw [set_oth _ _ _ _ _ (by decide)]; exact e4
theorem Only.frozen {g : Nat} {w w' : World} (h : Only g w w') {b o : Nat} (hb : b ≠ g) : w'.frozen? ⟨b, o, none⟩ = w.frozen? ⟨b, o, none⟩ := World.frozen?_of_block (w := w) (h.block b hb)
theorem Box.only {W W' : World} {p g : Nat} {a b c n q s : Int} (h : Box W p a b c n q s) (hb : Only g W W') (hp : p ≠ g) : Box W' p a b c n q s := by
  obtain ⟨⟨h0, h1, h2, h3, h4, h5⟩, hf⟩ := h
  exact ⟨⟨(hb.cell hp).trans h0, (hb.cell hp).trans h1, (hb.cell hp).trans h2, (hb.cell hp).trans h3, (hb.cell hp).trans h4, (hb.cell hp).trans h5⟩, fun i => (hb.frozen hp).trans (hf i)⟩
theorem On.only {w0 w w' : World} {g : Nat} (h : On w0 w) (hb : Only g w w') (h0 : w0.heap.size ≤ g) (h1 : 1 < g) : On w0 w' := ⟨tab_below h.tab (hb.below (Nat.le_refl g)) h1, h.bel.trans (hb.below h0)⟩
theorem bytes_only {w w' : World} {B n g b o : Nat} {l : List Int} (h : Bytes w B (some ⟨b, o, none⟩) n l) (hb : Only g w w') (hg : b ≠ g) : Bytes w' B (some ⟨b, o, none⟩) n l := by
  obtain ⟨h1, h2, h3⟩ := h
  refine ⟨h1, h2, fun hn => ?_⟩
  obtain ⟨b', o', e, hB, hc⟩ := h3 hn
  cases e
  exact ⟨b, o, rfl, hB, fun k hk => (hb.cell hg).trans (hc k hk)⟩
/-- what is decoded, written out -/
theorem decT_form (l : List Int) : ∃ a b c n q s e : Int, decT l = .tuple #[headV a b c n q s, .int .i64 e] := by
  by_cases h : decErr l = 0
  · exact ⟨_, _, _, _, _, _, 0, decT_ok h⟩
  · exact ⟨0, 0, 0, 0, 0, 0, decErr l, decT_of rfl h⟩
end Go.Proofs.YtdafmjklkggbgaaDoor
