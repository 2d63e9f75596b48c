/-
  WHAT WAS WRITTEN, AS VALUES: several data bytes within a page; the chip and a row of the law's own, side by side.
-/
import Derived.Test.YtfcdlnpfneinlaaDoorEAims
namespace Go.Proofs.YtfcdlnpfneinlaaDoor
open Go.RowKit
set_option maxRecDepth 20000

theorem putsL_ok {s : Chip} {n : Int} (l : List Int) (h : s.Ok n) (hn : 0 ≤ n) : (putsL s l).Ok (n + 27 * l.length) := by
  induction l using snoc_rec with
  | h0 => simpa [putsL] using h
  | h1 l x ih =>
    rw [putsL_snoc]
    have := put_ok x ih (by omega)
    rw [List.length_append, List.length_singleton]
    rw [show n + 27 * ((l.length + 1 : Nat) : Int) = n + 27 * l.length + 27 by omega]
    exact this
theorem putsL_join {s : Chip} (l : List Int) (h : s.join = false) : (putsL s l).join = false := by
  induction l using snoc_rec with
  | h0 => simpa [putsL] using h
  | h1 l x ih =>
    rw [putsL_snoc]
    exact put_join x ih
theorem take_next (l : List Int) (t : Nat) (h : t < l.length) : l.take (t + 1) = l.take t ++ [l.getD t 0] := by
  rw [List.take_add_one]
  simp [List.getD, h]
theorem places_len (k z : Int) (l : List Int) : (places k z l).length = l.length := by simp [places]
/-- a place in the page of another -/
theorem kind_spot {k z i : Int} (h : 1 ≤ k ∧ k ≤ 10) (h0 : 0 ≤ z) (h1 : z < gcol k 0) (_ : 0 ≤ i) :
    0 ≤ z % gcol k 1 ∧ z % gcol k 1 < gcol k 1 ∧ 0 ≤ (z % gcol k 1 + i) % gcol k 1 ∧ (z % gcol k 1 + i) % gcol k 1 < gcol k 1 ∧ 0 ≤ z - z % gcol k 1 ∧ z - z % gcol k 1 + (z % gcol k 1 + i) % gcol k 1 < gcol k 0 := by
  have h := kinds h
  simp only [List.mem_cons, Prod.mk.injEq, List.not_mem_nil, or_false] at h
  rcases h with ⟨e0, e1, _, _⟩ | ⟨e0, e1, _, _⟩ | ⟨e0, e1, _, _⟩ | ⟨e0, e1, _, _⟩ | ⟨e0, e1, _, _⟩ | ⟨e0, e1, _, _⟩ | ⟨e0, e1, _, _⟩ | ⟨e0, e1, _, _⟩ | ⟨e0, e1, _, _⟩ | ⟨e0, e1, _, _⟩ <;> rw [e1] <;> rw [e0] at h1 ⊢ <;> omega
/-- one byte more -/
theorem want_next {k z : Int} {D l : List Int} {t j : Nat} (ht : t < l.length) (hj : z - z % gcol k 1 + (z % gcol k 1 + (t : Int)) % gcol k 1 = j) (hd : j < D.length) :
    (pairsL D (places k z (l.take t))).set j (l.getD t 0) = pairsL D (places k z (l.take (t + 1))) := by
  rw [take_next l t ht, places_snoc, pairsL_snoc, show ((l.take t).length : Int) = t by rw [List.length_take]; omega, hj]
  unfold putL
  rw [if_pos ⟨by omega, by rw [pairsL_len]; omega⟩]
  rfl
/-- the chip has taken so many bytes -/
theorem puts_next (s : Chip) {l : List Int} {t : Nat} (ht : t < l.length) : putsL s (l.take (t + 1)) = (putsL s (l.take t)).put (l.getD t 0) := by
  rw [take_next l t ht, putsL_snoc]

/-- the chip stands there; what was there before some world is as it was -/
def Stay (p : Nat) (F : Nat → Prop) (s : Chip) (w3 w0 wr : World) : Prop := ChipAt wr p (Grow F w0 wr) s ∧ Below w3.heap.size w3 wr ∧ w0.heap.size ≤ wr.heap.size
theorem Stay.next {p : Nat} {F : Nat → Prop} {s s' : Chip} {w3 w0 wr w8 : World} (h : Stay p F s w3 w0 wr) (hz : Went p (Grow F w0 wr) s' wr w8) (hF : ∀ b, F b → w3.heap.size ≤ b) (h30 : w3.heap.size ≤ w0.heap.size) :
    Stay p F s' w3 w0 w8 ∧ ∀ b, ¬ F b → b < w0.heap.size → w8.heap[b]? = wr.heap[b]? := by
  obtain ⟨h1, h2, h3⟩ := h
  obtain ⟨z1, z2⟩ := hz
  have hs := z2.size
  refine ⟨⟨z1.mono (fun b hb => ?_) (fun b hb => ?_) ?_, h2.trans (z2.below (fun b hb => ?_) h2.size), by omega⟩, fun b hb hlt => z2.block b (by omega) ?_⟩
  · rcases hb with (hb | hb) | hb
    · exact .inl hb
    · exact .inr ⟨hb.1, by omega⟩
    · exact .inr ⟨by have := hb.1; omega, hb.2⟩
  · rcases hb with hb | hb
    · exact z1.there b (.inl (.inl hb))
    · exact hb.2
  · rintro (hb | hb)
    · exact z1.ft (.inl (.inl hb))
    · exact h1.ft (.inr ⟨hb.1, by have := tab_pos h1.tab; omega⟩)
  · rcases hb with hb | hb
    · exact hF b hb
    · have := hb.1; omega
  · rintro (h | h)
    · exact hb h
    · have := h.1; omega
/-- a cell of the law's own was written -/
theorem Stay.set_ {p g j : Nat} {F : Nat → Prop} {s : Chip} {w3 w0 wr : World} (h : Stay p F s w3 w0 wr) (hg : ¬ F g) (hg0 : g < w0.heap.size) (hg3 : w3.heap.size ≤ g) (hgt : g ≠ 0) (v : Value) : Stay p F s w3 w0 (wr.setCell ⟨g, j, none⟩ v) := by
  obtain ⟨h1, h2, h3⟩ := h
  have hk : Keeps (fun b => b = g) wr (wr.setCell ⟨g, j, none⟩ v) := Keeps.set_ (S := fun b => b = g) (Keeps.refl _ wr) (p := ⟨g, j, none⟩) (.inl rfl) v
  have hs : (wr.setCell ⟨g, j, none⟩ v).heap.size = wr.heap.size := by simp [World.setCell]
  refine ⟨?_, h2.setCell (p := ⟨g, j, none⟩) hg3 v, by rw [hs]; exact h3⟩
  have := h1.keeps hk (fun b hb e => by subst e; rcases hb with hb | hb; exact hg hb; have := hb.1; omega) (fun e => hgt e.symm)
  refine this.mono (fun b hb => ?_) (fun b hb => ?_) (fun hb => ?_)
  · rcases hb with hb | hb
    · exact .inl hb
    · exact .inr ⟨hb.1, by rw [hs]; exact hb.2⟩
  · rcases hb with hb | hb
    · exact this.there b (.inl hb)
    · exact hb.2
  · rcases hb with hb | hb
    · exact h1.ft (.inl hb)
    · exact h1.ft (.inr ⟨hb.1, by rw [hs] at hb; exact hb.2⟩)
theorem Stay.start {p : Nat} {F : Nat → Prop} {s : Chip} {w3 w0 : World} (h : ChipAt w0 p F s) (hb : Below w3.heap.size w3 w0) : Stay p F s w3 w0 w0 := ⟨h.went.1, hb, Nat.le_refl _⟩
theorem Stay.calm {p : Nat} {F : Nat → Prop} {s : Chip} {w3 w0 wr w8 : World} (h : Stay p F s w3 w0 wr) (hb : Below wr.heap.size wr w8) (hF : ∀ b, F b → w3.heap.size ≤ b) (h30 : w3.heap.size ≤ w0.heap.size) : Stay p F s w3 w0 w8 :=
  (h.next (((h.1.below hb).went).after hb h.1.tab) hF h30).1
end Go.Proofs.YtfcdlnpfneinlaaDoor
