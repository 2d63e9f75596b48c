/-
  append OF BYTES ONTO WHAT THE CALL OWNS.
-/
import Derived.Test.YtpbhkkcboppdmaaDoorHDec
import Derived.Maps.AppendAt
namespace Go.Proofs.YtpbhkkcboppdmaaDoor
open Ks Go.RowKit
set_option maxRecDepth 20000

/-- bytes in a row of the call's own -/
def Own (base : Nat) (w : World) (v : Value) (l : List Int) : Prop := w.ownsRow base 5 1 v l.length (l.map (Value.int .u8))
section
variable {base : Nat} {w w' : World} {v : Value} {l : List Int}
theorem Own.lt (h : Own base w v l) {g : Nat} (hg : v.ownBlock = some g) : base ≤ g ∧ g < w.heap.size := by
  rcases h.2 with ⟨rfl, _⟩ | ⟨g', cap, cur, rfl, hb, hh, _⟩
  · cases hg
  · simp [Value.ownBlock] at hg
    subst hg
    exact ⟨hb, (Array.getElem?_eq_some_iff.1 hh).1⟩
theorem Own.below (h : Own base w v l) (hb : Below w.heap.size w w') : Own base w' v l := by
  refine ⟨h.1, ?_⟩
  rcases h.2 with ⟨rfl, h0⟩ | ⟨g, cap, cur, rfl, hg, hh, r⟩
  · exact .inl ⟨rfl, h0⟩
  · exact .inr ⟨g, cap, cur, rfl, hg, (hb.block g (Array.getElem?_eq_some_iff.1 hh).1).trans hh, r⟩
theorem Own.bytes (h : Own base w v l) (hv : ∀ v ∈ l, 0 ≤ v ∧ v ≤ 255) : ∃ A c, v = .slice A l.length c ∧ l.length ≤ c ∧ Bytes w w.heap.size A l.length l := by
  rcases h.2 with ⟨rfl, h0⟩ | ⟨g, cap, cur, rfl, hg, hh, hn, _⟩
  · exact ⟨none, 0, by rw [h0], by omega, rfl, hv, fun h => absurd h (by omega)⟩
  · refine ⟨_, _, rfl, hn, rfl, hv, fun _ => ⟨g, 0, rfl, (Array.getElem?_eq_some_iff.1 hh).1, fun k hk => ?_⟩⟩
    have := h.cells (g := g) rfl k (.int .u8 (l.getD k 0)) (by simp [List.getD, hk])
    rw [Go.WideShapes.add_plain] at this
    exact this
end
theorem ints_one (bs : List Int) : ∀ u ∈ bs.map (Value.int .u8), u.oneCell' = true := by
  intro u hu
  obtain ⟨x, _, rfl⟩ := List.mem_map.1 hu
  rfl
theorem bys_news {w : World} {b o : Nat} {bs : List Int} (hc : ∀ k, k < bs.length → w.cell? ⟨b, o + k, none⟩ = some (.int .u8 (bs.getD k 0))) :
    ∀ j u, (bs.map (Value.int .u8))[j]? = some u → w.cell? ((⟨b, o, none⟩ : Addr).add j) = some u := by
  intro j u hu
  rw [Go.WideShapes.add_plain]
  have hj : j < bs.length := by
    have := (List.getElem?_eq_some_iff.1 hu).1
    simpa using this
  rw [hc j hj]
  simp [hj] at hu
  simp [List.getD, hj, hu]
theorem own_none (base : Nat) (w : World) (o : Obj) (hb : base ≤ w.heap.size) (ho : o = Obj.cells #[] 5) : Own base (w.alloc o) (.slice (some ⟨w.heap.size, 0, none⟩) 0 0) [] := by
  subst ho
  exact ⟨rfl, .inr ⟨w.heap.size, 0, #[], rfl, hb, heap_alloc_new w _, Nat.le_refl _, Nat.zero_le _, rfl, rfl⟩⟩

/-- append onto what the call owns, of bytes wherever they are -/
theorem append_own (w : World) (base ty : Nat) (v : Value) (xs : List Int) (hown : Own base w v xs) (A : Option Addr) (m c B : Nat) (l : List Int) (hl : Bytes w B A m l) (hlen : xs.length + m ≤ 1000000) (hbase : base ≤ w.heap.size) :
    ∃ v' w', (Builtin.append_ #[27, 27] ty #[v, .slice A m c]).run Tryd.prog w = .ok v' w' ∧ Own base w' v' (xs ++ l) ∧ Below base w w' := by
  obtain ⟨i0, hi, hz0, hz1, hz2⟩ := info_parts info5
  have fin : ∀ v' w', w'.ownsRow base 5 1 v' (xs.length + m) ((xs ++ l).map (Value.int .u8)) → w.grownBy w' v.ownBlock → Own base w' v' (xs ++ l) ∧ Below base w w' := by
    intro v' w' h1 h2
    refine ⟨?_, (Below.refl base w).grown h2 hbase (fun k hk => (hown.lt hk).1)⟩
    unfold Own
    rw [List.length_append, hl.1]
    exact h1
  rcases Nat.eq_zero_or_pos m with h0 | h0
  · subst h0
    have hb : l = [] := List.eq_nil_of_length_eq_zero hl.1
    subst hb
    cases A with
    | none =>
      refine ⟨v, w, ?_, fin _ _ (by simpa [Own] using hown) (World.grownBy.refl w _)⟩
      rcases hown.2 with ⟨rfl, h9⟩ | ⟨g, cap, cur, rfl, _, _, hnc, _⟩
      · simp [Builtin.append_, run_underlying Tryd.underlying27, sizeOf, typeInfo, hi, Builtin.lenOf, Builtin.firstCells]
      · simp [Builtin.append_, run_underlying Tryd.underlying27, sizeOf, typeInfo, hi, Builtin.lenOf, Builtin.firstCells, hnc, storeCells]
    | some ad =>
      obtain ⟨v', w', hr, h2, h3, _, h5⟩ := run_append_own_at (P := Tryd.prog) w base 27 ty 5 i0 _ 1 1 Tryd.underlying27 hi hz0 hz1 hz2 rfl (by omega) v xs.length _ hown ad 0 c [] rfl (by simp) (by simp) (by unfold maxLen; omega) (by omega) hbase
      exact ⟨v', w', hr, fin _ _ (by simpa using h2) h3⟩
  · obtain ⟨b, o, rfl, _, hcs⟩ := hl.2.2 h0
    have hll := hl.1
    obtain ⟨v', w', hr, h2, h3, _, h5⟩ := run_append_own_at (P := Tryd.prog) w base 27 ty 5 i0 _ 1 1 Tryd.underlying27 hi hz0 hz1 hz2 rfl (by omega) v xs.length _ hown ⟨b, o, none⟩ m c (l.map (Value.int .u8)) (by simp [hll]) (bys_news (by rw [hll]; exact hcs)) (ints_one l) (by unfold maxLen; omega) (by omega) hbase
    exact ⟨v', w', hr, fin _ _ (by simpa using h2) h3⟩
end Go.Proofs.YtpbhkkcboppdmaaDoor
