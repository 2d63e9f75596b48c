/-
  MEMORY: a block of bytes known whole, bytes in a row of the call's own, make, copy, append, parts.
-/
import Derived.Test.YtcojpiepbdcohaaDoorSmall
import Derived.Maps.AppendAt
import Derived.Laws.CopyOwn
import Derived.Deep.OwnRows
import Derived.Deep.RegionLaw
import Derived.Lib.AppendZeros
import Derived.Deep.AppendLies
import Derived.Lib.MinMax
namespace Go.Proofs.YtcojpiepbdcohaaDoor
open Go.RowKit
theorem info5 : (Tryd.prog.info? 5).map (fun i => (i.zero, i.size, i.bytes)) = some (some (.int .u8 0), 1, 1) := by kernel_rfl
theorem size5 : (Tryd.prog.info? 5).map (·.size) = some 1 := by kernel_rfl
/-- a block of bytes, known whole -/
def Row (w : World) (g : Nat) (l : List Int) : Prop := w.heap[g]? = some (.cells (l.map (Value.int .u8)).toArray 5 (0, 0))
/-- block g alone may be another one -/
structure Only (g : Nat) (w w' : World) : Prop where
  os : w'.os = w.os
  tape : w'.tape = w.tape
  output : w'.output = w.output
  size : w'.heap.size = w.heap.size
  block : ∀ k, k ≠ g → w'.heap[k]? = w.heap[k]?
theorem Only.refl (g : Nat) (w : World) : Only g w w := ⟨rfl, rfl, rfl, rfl, fun _ _ => rfl⟩
theorem Only.trans {g : Nat} {a b c : World} (h : Only g a b) (k : Only g b c) : Only g a c := ⟨k.os.trans h.os, k.tape.trans h.tape, k.output.trans h.output, k.size.trans h.size, fun i hi => (k.block i hi).trans (h.block i hi)⟩
theorem Only.below {g B : Nat} {w w' : World} (h : Only g w w') (hB : B ≤ g) : Below B w w' := ⟨h.os, h.tape, h.output, by rw [h.size]; exact Nat.le_refl _, fun k hk => h.block k (by omega)⟩
theorem Only.set_ {g : Nat} {w w' : World} (h : Only g w w') (o : Nat) (u : Value) : Only g w (w'.setCell ⟨g, o, none⟩ u) :=
  ⟨h.os, h.tape, h.output, by simpa using h.size, fun k hk => (Below.heap_setCell w' ⟨g, o, none⟩ u k hk).trans (h.block k hk)⟩
theorem Only.drew {g : Nat} {w w' : World} (h : Only g w w') : Only g w w'.drew := ⟨h.os, h.tape, h.output, h.size, h.block⟩
theorem Only.of_drew {g : Nat} {w w' : World} (h : Only g w.drew w') : Only g w w' := ⟨h.os, h.tape, h.output, h.size, h.block⟩
theorem Only.cell {g : Nat} {w w' : World} (h : Only g w w') {b o : Nat} (hb : b ≠ g) : w'.cell? ⟨b, o, none⟩ = w.cell? ⟨b, o, none⟩ := World.cell?_of_block (w := w) (h.block b hb)
theorem Row.lt {w : World} {g : Nat} {l : List Int} (h : Row w g l) : g < w.heap.size := (Array.getElem?_eq_some_iff.1 h).1
theorem Row.cell {w : World} {g : Nat} {l : List Int} (h : Row w g l) (i : Nat) (hi : i < l.length) : w.cell? ⟨g, i, none⟩ = some (.int .u8 (l.getD i 0)) ∧ w.frozen? ⟨g, i, none⟩ = false := by
  constructor
  · rw [cell_of_row w g i _ 5 (0, 0) h]
    simp [List.getD, hi]
  · unfold Row at h
    simp [World.frozen?, h]
theorem Row.set_ {w : World} {g : Nat} {l : List Int} (h : Row w g l) (i : Nat) (x : Int) : Row (w.setCell ⟨g, i, none⟩ (.int .u8 x)) g (l.set i x) := by
  unfold Row at h ⊢
  simp [World.setCell, Array.getElem?_modify, h, List.map_set]
theorem Row.bytes {w : World} {g : Nat} {l : List Int} (h : Row w g l) (hv : ∀ v ∈ l, 0 ≤ v ∧ v ≤ 255) {n : Nat} (hn : l.length = n) : Bytes w w.heap.size (some ⟨g, 0, none⟩) n l :=
  ⟨hn, hv, fun _ => ⟨g, 0, rfl, h.lt, fun k hk => by rw [Nat.zero_add]; exact (h.cell k (by omega)).1⟩⟩
/-- bytes in a row of the call's own -/
def Own (base : Nat) (w : World) (v : Value) (l : List Int) : Prop := w.ownsRow base 5 1 v l.length (l.map (Value.int .u8))
section
variable {base : Nat} {w w' : World} {v : Value} {l : List Int}
theorem Own.lt (h : Own base w v l) {g : Nat} (hg : v.ownBlock = some g) : base ≤ g ∧ g < w.heap.size := by
  rcases h.2 with ⟨rfl, _⟩ | ⟨g', cap, cur, rfl, hb, hh, _⟩
  · cases hg
  · simp [Value.ownBlock] at hg
    subst hg
    exact ⟨hb, (Array.getElem?_eq_some_iff.1 hh).1⟩
theorem Own.below (h : Own base w v l) (hb : Below w.heap.size w w') : Own base w' v l := by
  refine ⟨h.1, ?_⟩
  rcases h.2 with ⟨rfl, h0⟩ | ⟨g, cap, cur, rfl, hg, hh, r⟩
  · exact .inl ⟨rfl, h0⟩
  · exact .inr ⟨g, cap, cur, rfl, hg, (hb.block g (Array.getElem?_eq_some_iff.1 hh).1).trans hh, r⟩
theorem Own.bytes (h : Own base w v l) (hv : ∀ v ∈ l, 0 ≤ v ∧ v ≤ 255) : ∃ A c, v = .slice A l.length c ∧ l.length ≤ c ∧ Bytes w w.heap.size A l.length l := by
  rcases h.2 with ⟨rfl, h0⟩ | ⟨g, cap, cur, rfl, hg, hh, hn, _⟩
  · exact ⟨none, 0, by rw [h0], by omega, rfl, hv, fun h => absurd h (by omega)⟩
  · refine ⟨_, _, rfl, hn, rfl, hv, fun _ => ⟨g, 0, rfl, (Array.getElem?_eq_some_iff.1 hh).1, fun k hk => ?_⟩⟩
    have := h.cells (g := g) rfl k (.int .u8 (l.getD k 0)) (by simp [List.getD, hk])
    rw [Go.WideShapes.add_plain] at this
    exact this
end
theorem ints_one (bs : List Int) : ∀ u ∈ bs.map (Value.int .u8), u.oneCell' = true := by
  intro u hu
  obtain ⟨x, _, rfl⟩ := List.mem_map.1 hu
  rfl
theorem bys_news {w : World} {b o : Nat} {bs : List Int} (hc : ∀ k, k < bs.length → w.cell? ⟨b, o + k, none⟩ = some (.int .u8 (bs.getD k 0))) :
    ∀ j u, (bs.map (Value.int .u8))[j]? = some u → w.cell? ((⟨b, o, none⟩ : Addr).add j) = some u := by
  intro j u hu
  rw [Go.WideShapes.add_plain]
  have hj : j < bs.length := by
    have := (List.getElem?_eq_some_iff.1 hu).1
    simpa using this
  rw [hc j hj]
  simp [hj] at hu
  simp [List.getD, hj, hu]
theorem own_none (base : Nat) (w : World) (o : Obj) (hb : base ≤ w.heap.size) (ho : o = Obj.cells #[] 5) : Own base (w.alloc o) (.slice (some ⟨w.heap.size, 0, none⟩) 0 0) [] := by
  subst ho
  exact ⟨rfl, .inr ⟨w.heap.size, 0, #[], rfl, hb, heap_alloc_new w _, Nat.le_refl _, Nat.zero_le _, rfl, rfl⟩⟩

/-- append onto what the call owns, of bytes wherever they are -/
theorem append_own (w : World) (base ty : Nat) (v : Value) (xs : List Int) (hown : Own base w v xs) (A : Option Addr) (m c B : Nat) (l : List Int) (hl : Bytes w B A m l) (hlen : xs.length + m ≤ 1000000) (hbase : base ≤ w.heap.size) :
    ∃ v' w', (Builtin.append_ #[25, 25] ty #[v, .slice A m c]).run Tryd.prog w = .ok v' w' ∧ Own base w' v' (xs ++ l) ∧ Below base w w' := by
  obtain ⟨i0, hi, hz0, hz1, hz2⟩ := info_parts info5
  have fin : ∀ v' w', w'.ownsRow base 5 1 v' (xs.length + m) ((xs ++ l).map (Value.int .u8)) → w.grownBy w' v.ownBlock → Own base w' v' (xs ++ l) ∧ Below base w w' := by
    intro v' w' h1 h2
    refine ⟨?_, (Below.refl base w).grown h2 hbase (fun k hk => (hown.lt hk).1)⟩
    unfold Own
    rw [List.length_append, hl.1]
    exact h1
  rcases Nat.eq_zero_or_pos m with h0 | h0
  · subst h0
    have hb : l = [] := List.eq_nil_of_length_eq_zero hl.1
    subst hb
    cases A with
    | none =>
      refine ⟨v, w, ?_, fin _ _ (by simpa [Own] using hown) (World.grownBy.refl w _)⟩
      rcases hown.2 with ⟨rfl, h9⟩ | ⟨g, cap, cur, rfl, _, _, hnc, _⟩
      · simp [Builtin.append_, run_underlying Tryd.underlying25, sizeOf, typeInfo, hi, Builtin.lenOf, Builtin.firstCells]
      · simp [Builtin.append_, run_underlying Tryd.underlying25, sizeOf, typeInfo, hi, Builtin.lenOf, Builtin.firstCells, hnc, storeCells]
    | some ad =>
      obtain ⟨v', w', hr, h2, h3, _, h5⟩ := run_append_own_at (P := Tryd.prog) w base 25 ty 5 i0 _ 1 1 Tryd.underlying25 hi hz0 hz1 hz2 rfl (by omega) v xs.length _ hown ad 0 c [] rfl (by simp) (by simp) (by unfold maxLen; omega) (by omega) hbase
      exact ⟨v', w', hr, fin _ _ (by simpa using h2) h3⟩
  · obtain ⟨b, o, rfl, _, hcs⟩ := hl.2.2 h0
    have hll := hl.1
    obtain ⟨v', w', hr, h2, h3, _, h5⟩ := run_append_own_at (P := Tryd.prog) w base 25 ty 5 i0 _ 1 1 Tryd.underlying25 hi hz0 hz1 hz2 rfl (by omega) v xs.length _ hown ⟨b, o, none⟩ m c (l.map (Value.int .u8)) (by simp [hll]) (bys_news (by rw [hll]; exact hcs)) (ints_one l) (by unfold maxLen; omega) (by omega) hbase
    exact ⟨v', w', hr, fin _ _ (by simpa using h2) h3⟩

theorem bytes_part {w : World} {B b o n : Nat} {l : List Int} (h : Bytes w B (some ⟨b, o, none⟩) n l) (i k : Nat) (hik : i + k ≤ n) : Bytes w B (some ⟨b, o + i, none⟩) k ((l.drop i).take k) := by
  obtain ⟨h1, h2, h3⟩ := h
  refine ⟨by simp; omega, fun v hv => h2 v (List.mem_of_mem_drop (List.mem_of_mem_take hv)), fun hk => ?_⟩
  obtain ⟨b', o', e, hb, hc⟩ := h3 (by omega)
  cases e
  exact ⟨b, o + i, rfl, hb, fun j hj => by rw [Nat.add_assoc, hc (i + j) (by omega)]; simp [List.getD, List.getElem?_drop, hj]⟩
theorem bytes_piece {w : World} {B b o n : Nat} {l : List Int} (h : Bytes w B (some ⟨b, o, none⟩) n l) (i k : Nat) (hik : i + k ≤ n) : Bytes w B (some ⟨b, pieceAt o i k, none⟩) k ((l.drop i).take k) := by
  have := bytes_part h i k hik
  unfold pieceAt
  split
  · rename_i h0
    subst h0
    exact ⟨this.1, this.2.1, fun h => absurd h (by omega)⟩
  · exact this
theorem bytes_nil (w : World) (B : Nat) : Bytes w B none 0 [] := ⟨rfl, by simp, fun h => absurd h (by omega)⟩
theorem bytes_mono {w : World} {B C n : Nat} {A : Option Addr} {l : List Int} (h : Bytes w B A n l) (hBC : B ≤ C) : Bytes w C A n l := by
  obtain ⟨h1, h2, h3⟩ := h
  refine ⟨h1, h2, fun hn => ?_⟩
  obtain ⟨b, o, e, hB, hc⟩ := h3 hn
  exact ⟨b, o, e, Nat.lt_of_lt_of_le hB hBC, hc⟩
theorem bytes_only {w w' : World} {B n g : Nat} {A : Option Addr} {l : List Int} (h : Bytes w B A n l) (hb : Only g w w') (hg : B ≤ g) : Bytes w' B A n l := bytes_below h (hb.below hg)
theorem same_refl (A1 A2 : Option Addr) (n c1 c2 B : Nat) (l : List Int) (w : World) (hn : n ≤ maxLen) (ha : Bytes w B A1 n l) (hb : Bytes w B A2 n l) (hB : B ≤ w.heap.size) :
    Calls Tryd.prog 13 #[.slice A1 n c1, .slice A2 n c2] w fun e w' => e = .returned (.bool true) ∧ Below w.heap.size w w' := by
  have := same_any A1 A2 n c1 c2 B l l w hn ha hb hB
  rwa [decide_eq_true rfl] at this

theorem made_cells (n : Nat) : madeCells #[Value.int .u8 0] n = ((List.replicate n (0 : Int)).map (Value.int .u8)).toArray := by
  apply Array.ext'
  apply List.ext_getElem
  · simp [madeCells]
  · intro i h1 h2
    simp [madeCells, Nat.mod_one]
theorem row_made (w : World) (n : Nat) : Row (w.alloc (.cells (madeCells #[Value.int .u8 0] n) 5)) w.heap.size (List.replicate n 0) := by
  unfold Row
  rw [heap_alloc_new, made_cells]
theorem make_bytes (n : Nat) (h : n ≤ 1000000) (w : World) : (Instr.makeSlice 25 (.int .i64 n) (.int .i64 n)).run Tryd.prog w = .ok (.slice (some ⟨w.heap.size, 0, none⟩) n n) (w.alloc (.cells (madeCells #[Value.int .u8 0] n) 5)) :=
  run_make_row' (P := Tryd.prog) 25 5 (.int .u8 0) 1 Tryd.underlying25 info5 rfl .i64 .i64 n (by omega) (by omega) w

/-- copy of bytes onto a block that has room for them -/
theorem copy_row (w : World) (g m c ty B n : Nat) (zs : List Int) (hR : Row w g zs) (hm : zs.length = m) (A : Option Addr) (c' : Nat) (l : List Int) (hl : Bytes w B A n l) (hn : n ≤ m) :
    ∃ w' x, (Builtin.copy_ #[25, 25] ty #[.slice (some ⟨g, 0, none⟩) m c, .slice A n c']).run Tryd.prog w = .ok (.int .i64 x) w' ∧ Only g w w' ∧ Row w' g (l ++ zs.drop n) := by
  by_cases h0 : n = 0
  · subst h0
    obtain rfl : l = [] := List.eq_nil_of_length_eq_zero hl.1
    exact ⟨_, 0, run_copy_none _ 25 25 ty 5 _ _ m c 0 c' Tryd.underlying25 size5 (Nat.zero_min _), Only.refl _ _, by simpa using hR⟩
  · obtain ⟨b, o, rfl, hb, hcs⟩ := hl.2.2 (by omega)
    have hll := hl.1
    have hr := run_copy_row (P := Tryd.prog) w 25 25 ty 5 g 0 m c ⟨b, o, none⟩ n c' _ 5 (l.map (Value.int .u8)) Tryd.underlying25 size5 hR (by rw [List.length_map, hll]; exact (Nat.min_eq_left hn).symm) (bys_news (by rw [hll]; exact hcs)) (by simp; omega) (ints_one _)
    refine ⟨_, _, hr, ⟨rfl, rfl, rfl, by simp [World.setRow], fun k hk => setRow_other _ _ _ _ hk⟩, ?_⟩
    unfold Row
    rw [setRow_heap _ _ _ _ _ _ hR]
    simp [hll, List.map_drop]
/-- a block known whole -/
def Vals (w : World) (g : Nat) (t : TypeId) (cs : List Value) : Prop := w.heap[g]? = some (.cells cs.toArray t (0, 0))
theorem Vals.lt {w : World} {g : Nat} {t : TypeId} {cs : List Value} (h : Vals w g t cs) : g < w.heap.size := (Array.getElem?_eq_some_iff.1 h).1
theorem Vals.cell {w : World} {g : Nat} {t : TypeId} {cs : List Value} (h : Vals w g t cs) (i : Nat) : w.cell? ⟨g, i, none⟩ = cs[i]? := by rw [cell_of_row w g i _ t (0, 0) h]; simp
theorem Vals.frozen {w : World} {g : Nat} {t : TypeId} {cs : List Value} (h : Vals w g t cs) (i : Nat) : w.frozen? ⟨g, i, none⟩ = false := by
  unfold Vals at h
  simp [World.frozen?, h]
theorem Vals.set_ {w : World} {g : Nat} {t : TypeId} {cs : List Value} (h : Vals w g t cs) (i : Nat) (u : Value) : Vals (w.setCell ⟨g, i, none⟩ u) g t (cs.set i u) := by
  unfold Vals at h ⊢
  simp [World.setCell, Array.getElem?_modify, h]
theorem Vals.only {w w' : World} {g k : Nat} {t : TypeId} {cs : List Value} (h : Vals w g t cs) (ho : Only k w w') (hk : g ≠ k) : Vals w' g t cs := (ho.block g hk).trans h
theorem Vals.below {w w' : World} {g B : Nat} {t : TypeId} {cs : List Value} (h : Vals w g t cs) (ho : Below B w w') (hk : g < B) : Vals w' g t cs := (ho.block g hk).trans h
theorem Row.only {w w' : World} {g k : Nat} {l : List Int} (h : Row w g l) (ho : Only k w w') (hk : g ≠ k) : Row w' g l := (ho.block g hk).trans h
theorem Row.below {w w' : World} {g B : Nat} {l : List Int} (h : Row w g l) (ho : Below B w w') (hk : g < B) : Row w' g l := (ho.block g hk).trans h
theorem On.only {w0 w w' : World} {g : Nat} (h : On w0 w) (hb : Only g w w') (h0 : w0.heap.size ≤ g) (h1 : 0 < g) : On w0 w' := ⟨tab_below h.tab (hb.below (Nat.le_refl g)) h1, h.bel.trans (hb.below h0)⟩
theorem Row.part {w : World} {g : Nat} {l : List Int} (h : Row w g l) (hv : ∀ v ∈ l, 0 ≤ v ∧ v ≤ 255) (i k : Nat) (hik : i + k ≤ l.length) : Bytes w w.heap.size (some ⟨g, i, none⟩) k ((l.drop i).take k) := by
  have := bytes_part (h.bytes hv rfl) i k hik
  rwa [Nat.zero_add] at this
end Go.Proofs.YtcojpiepbdcohaaDoor
