/-
  A SLICE OF SLICES OF BYTES THAT CAME IN.
-/
import Derived.Test.YthlemcnbebfliaaGreatDoorILists
import Derived.Test.YthlemcnbebfliaaGreatDoorShape
import Derived.ChangeSlices
import Derived.Deep.DeepHandedRow
namespace Go.Proofs.YthlemcnbebfliaaGreatDoor
open Ks Go.ChangeShapes Go.WideShapes Go.RowKit

theorem IsRow.byv {w : World} {a : Option Addr} {len cap : Nat} {zs : List Int} (h : IsRow .u8 w a len cap zs) : Byv w w.heap.size (.slice a len cap) (zs.take len) := by
  have hb := h.bytes
  have hl := hb.1
  refine ⟨a, cap, by rw [hl], by rw [hl]; exact h.len_le.1, fun e => ?_, by rw [hl]; exact hb⟩
  rcases h with ⟨_, _, h3, _⟩ | ⟨x, h1, _⟩
  · exact h3
  · rw [e] at h1; cases h1
theorem cellsLL : Tryz.prog.cellsOf 33 = 1 := by kernel_rfl
theorem cellsLB : Tryz.prog.cellsOf 5 = 1 := by kernel_rfl
section
variable {H : Type} {enc : TypeId × Value → H} {w : World} {base : Nat} {held : Bool}
theorem open_bytesL {fuel : Nat} {cs : List Value} {x : DataW H × List MemPlace} (h : DataW.trod enc Tryz.prog w base (fun _ => true) held fuel 33 cs = some x) : ∃ A n c zs, cs = [.slice A n c] ∧ IsRow .u8 w A n c zs := by
  rcases open_ints Tryz.underlying33 Tryz.underlying5 cellsLB h with ⟨hcs, _⟩ | ⟨x, l, c, zs, hcs, _, hl, hm, hz, _, hcell, hwz⟩
  · exact ⟨none, 0, 0, [], hcs, .inl ⟨rfl, rfl, rfl, rfl⟩⟩
  · exact ⟨some x, l, c, zs, hcs, .inr ⟨_, rfl, hl, hm, by simpa using hz, hcell, hwz⟩⟩
theorem open_lists {fuel : Nat} {cs : List Value} {x : DataW H × List MemPlace} (h : DataW.trod enc Tryz.prog w base (fun _ => true) held fuel 63 cs = some x) :
    ∃ A n c L, cs = [.slice A n c] ∧ Lsts w w.heap.size A n L ∧ n ≤ maxLen ∧ ∀ k, k < L.length → (L.getD k []).length ≤ maxLen := by
  rcases DataW.trod_slice Tryz.underlying63 h with ⟨hcs, _⟩ | ⟨a, len, cap, elems, rest, n, _, rfl, _, hb, hl, hm, hlen, hel, _, _⟩
  · exact ⟨none, 0, 0, [], hcs, ⟨rfl, fun h => absurd h (by omega)⟩, by unfold maxLen; omega, fun k hk => absurd hk (by simp)⟩
  · have each : ∀ i, i < len → ∃ l : List Int, ∃ v, w.cell? (a.add i) = some v ∧ Byv w w.heap.size v l ∧ l.length ≤ maxLen := by
      intro i hi
      have h1 := hel i hi
      rw [cellsLL, Nat.mul_one, List.getElem?_eq_getElem (by omega), Option.bind_eq_some_iff] at h1
      obtain ⟨cs', hcs', ht⟩ := h1
      obtain ⟨A', n', c', zs, rfl, hr⟩ := open_bytesL ht
      refine ⟨zs.take n', .slice A' n' c', cell_of_cells?_one hcs', hr.byv, ?_⟩
      have := hr.len_le.2
      rw [List.length_take]
      omega
    have hf : ∃ f : Nat → List Int, ∀ i, i < len → ∃ v, w.cell? (a.add i) = some v ∧ Byv w w.heap.size v (f i) ∧ (f i).length ≤ maxLen :=
      ⟨fun i => if h : i < len then Classical.choose (each i h) else [], fun i hi => by simpa only [dif_pos hi] using Classical.choose_spec (each i hi)⟩
    obtain ⟨f, hf⟩ := hf
    have hg : ∀ k, k < len → ((List.range len).map f).getD k [] = f k := fun k hk => by simp [List.getD, hk]
    refine ⟨some a, len, cap, (List.range len).map f, rfl, ⟨by simp, fun h0 => ?_⟩, by omega, fun k hk => ?_⟩
    · obtain ⟨b, off, spot⟩ := a
      obtain ⟨v0, hv0, _⟩ := hf 0 h0
      have hspot : spot = none := by simpa [Addr.add] using World.cell?_spot hv0
      subst hspot
      rw [Go.WideShapes.add_plain] at hv0
      refine ⟨b, off, rfl, block_lt_of_cell hv0, fun k hk => ?_⟩
      obtain ⟨v, hv, hy, _⟩ := hf k hk
      rw [Go.WideShapes.add_plain] at hv
      rw [hg k hk]
      exact ⟨v, hv, hy⟩
    · have hk' : k < len := by simpa using hk
      obtain ⟨v, _, _, h3⟩ := hf k hk'
      rw [hg k hk']
      exact h3
end
end Go.Proofs.YthlemcnbebfliaaGreatDoor
