/-
  MEMORY: a block of bytes known whole, bytes in a row of the call's own, make, copy, append, parts.
-/
import Derived.Test.YthlemcnbebfliaaGreatDoorISmall
import Derived.Test.YthlemcnbebfliaaGreatDoorHRest
import Derived.Maps.AppendAt
import Derived.Laws.CopyOwn
import Derived.Deep.OwnRows
import Derived.Deep.RegionLaw
import Derived.Lib.AppendZeros
import Derived.Deep.AppendLies
import Derived.Lib.MinMax
namespace Go.Proofs.YthlemcnbebfliaaGreatDoor
open Ks Go.RowKit
set_option maxRecDepth 20000
section
variable {base : Nat} {w w' : World} {v : Value} {l : List Int}
end
theorem bytes_piece {w : World} {B b o n : Nat} {l : List Int} (h : Bytes w B (some ⟨b, o, none⟩) n l) (i k : Nat) (hik : i + k ≤ n) : Bytes w B (some ⟨b, pieceAt o i k, none⟩) k ((l.drop i).take k) := by
  have := bytes_part h i k hik
  unfold pieceAt
  split
  · rename_i h0
    subst h0
    exact ⟨this.1, this.2.1, fun h => absurd h (by omega)⟩
  · exact this
theorem bytes_nil (w : World) (B : Nat) : Bytes w B none 0 [] := ⟨rfl, by simp, fun h => absurd h (by omega)⟩
theorem bytes_mono {w : World} {B C n : Nat} {A : Option Addr} {l : List Int} (h : Bytes w B A n l) (hBC : B ≤ C) : Bytes w C A n l := by
  obtain ⟨h1, h2, h3⟩ := h
  refine ⟨h1, h2, fun hn => ?_⟩
  obtain ⟨b, o, e, hB, hc⟩ := h3 hn
  exact ⟨b, o, e, Nat.lt_of_lt_of_le hB hBC, hc⟩
theorem bytes_only {w w' : World} {B n g : Nat} {A : Option Addr} {l : List Int} (h : Bytes w B A n l) (hb : Only g w w') (hg : B ≤ g) : Bytes w' B A n l := bytes_below h (hb.below hg)
theorem same_refl (A1 A2 : Option Addr) (n c1 c2 B : Nat) (l : List Int) (w : World) (hn : n ≤ maxLen) (ha : Bytes w B A1 n l) (hb : Bytes w B A2 n l) (hB : B ≤ w.heap.size) :
    Calls Tryz.prog 20 #[.slice A1 n c1, .slice A2 n c2] w fun e w' => e = .returned (.bool true) ∧ Below w.heap.size w w' := by
  have := same_any A1 A2 n c1 c2 B l l w hn ha hb hB
  rwa [decide_eq_true rfl] at this

theorem made_cells (n : Nat) : madeCells #[Value.int .u8 0] n = ((List.replicate n (0 : Int)).map (Value.int .u8)).toArray := by
  apply Array.ext'
  apply List.ext_getElem
  · simp [madeCells]
  · intro i h1 h2
    simp [madeCells, Nat.mod_one]
theorem row_made (w : World) (n : Nat) : Row (w.alloc (.cells (madeCells #[Value.int .u8 0] n) 5)) w.heap.size (List.replicate n 0) := by
  unfold Row
  rw [heap_alloc_new, made_cells]
theorem make_bytes (n : Nat) (h : n ≤ 1000000) (w : World) : (Instr.makeSlice 33 (.int .i64 n) (.int .i64 n)).run Tryz.prog w = .ok (.slice (some ⟨w.heap.size, 0, none⟩) n n) (w.alloc (.cells (madeCells #[Value.int .u8 0] n) 5)) :=
  run_make_row' (P := Tryz.prog) 33 5 (.int .u8 0) 1 Tryz.underlying33 info5 rfl .i64 .i64 n (by omega) (by omega) w

/-- copy of bytes onto a block that has room for them -/
theorem copy_row (w : World) (g m c ty B n : Nat) (zs : List Int) (hR : Row w g zs) (hm : zs.length = m) (A : Option Addr) (c' : Nat) (l : List Int) (hl : Bytes w B A n l) (hn : n ≤ m) :
    ∃ w' x, (Builtin.copy_ #[33, 33] ty #[.slice (some ⟨g, 0, none⟩) m c, .slice A n c']).run Tryz.prog w = .ok (.int .i64 x) w' ∧ Only g w w' ∧ Row w' g (l ++ zs.drop n) := by
  by_cases h0 : n = 0
  · subst h0
    obtain rfl : l = [] := List.eq_nil_of_length_eq_zero hl.1
    exact ⟨_, 0, run_copy_none _ 33 33 ty 5 _ _ m c 0 c' Tryz.underlying33 size5 (Nat.zero_min _), Only.refl _ _, by simpa using hR⟩
  · obtain ⟨b, o, rfl, hb, hcs⟩ := hl.2.2 (by omega)
    have hll := hl.1
    have hr := run_copy_row (P := Tryz.prog) w 33 33 ty 5 g 0 m c ⟨b, o, none⟩ n c' _ 5 (l.map (Value.int .u8)) Tryz.underlying33 size5 hR (by rw [List.length_map, hll]; exact (Nat.min_eq_left hn).symm) (bys_news (by rw [hll]; exact hcs)) (by simp; omega) (ints_one _)
    refine ⟨_, _, hr, ⟨rfl, rfl, rfl, by simp [World.setRow], fun k hk => setRow_other _ _ _ _ hk⟩, ?_⟩
    unfold Row
    rw [setRow_heap _ _ _ _ _ _ hR]
    simp [hll, List.map_drop]
/-- a block known whole -/
def Vals (w : World) (g : Nat) (t : TypeId) (cs : List Value) : Prop := w.heap[g]? = some (.cells cs.toArray t (0, 0))
theorem Vals.lt {w : World} {g : Nat} {t : TypeId} {cs : List Value} (h : Vals w g t cs) : g < w.heap.size := (Array.getElem?_eq_some_iff.1 h).1
theorem Vals.cell {w : World} {g : Nat} {t : TypeId} {cs : List Value} (h : Vals w g t cs) (i : Nat) : w.cell? ⟨g, i, none⟩ = cs[i]? := by rw [cell_of_row w g i _ t (0, 0) h]; simp
theorem Vals.frozen {w : World} {g : Nat} {t : TypeId} {cs : List Value} (h : Vals w g t cs) (i : Nat) : w.frozen? ⟨g, i, none⟩ = false := by
  unfold Vals at h
  simp [World.frozen?, h]
theorem Vals.set_ {w : World} {g : Nat} {t : TypeId} {cs : List Value} (h : Vals w g t cs) (i : Nat) (u : Value) : Vals (w.setCell ⟨g, i, none⟩ u) g t (cs.set i u) := by
  unfold Vals at h ⊢
  simp [World.setCell, Array.getElem?_modify, h]
theorem Vals.only {w w' : World} {g k : Nat} {t : TypeId} {cs : List Value} (h : Vals w g t cs) (ho : Only k w w') (hk : g ≠ k) : Vals w' g t cs := (ho.block g hk).trans h
theorem Vals.below {w w' : World} {g B : Nat} {t : TypeId} {cs : List Value} (h : Vals w g t cs) (ho : Below B w w') (hk : g < B) : Vals w' g t cs := (ho.block g hk).trans h
theorem Row.only {w w' : World} {g k : Nat} {l : List Int} (h : Row w g l) (ho : Only k w w') (hk : g ≠ k) : Row w' g l := (ho.block g hk).trans h
theorem Row.below {w w' : World} {g B : Nat} {l : List Int} (h : Row w g l) (ho : Below B w w') (hk : g < B) : Row w' g l := (ho.block g hk).trans h
theorem Row.part {w : World} {g : Nat} {l : List Int} (h : Row w g l) (hv : ∀ v ∈ l, 0 ≤ v ∧ v ≤ 255) (i k : Nat) (hik : i + k ≤ l.length) : Bytes w w.heap.size (some ⟨g, i, none⟩) k ((l.drop i).take k) := by
  have := bytes_part (h.bytes hv rfl) i k hik
  rwa [Nat.zero_add] at this
end Go.Proofs.YthlemcnbebfliaaGreatDoor
