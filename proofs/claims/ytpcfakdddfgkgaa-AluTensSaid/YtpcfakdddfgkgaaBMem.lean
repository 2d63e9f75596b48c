/-
  A SEAT WITHOUT TABLES: numbers in a row, of whatever kind: what came in (Nums), what the call owns (OwnK, Mine); append.
-/
import Derived.Test.YtpcfakdddfgkgaaRows
import Derived.WalkKit
import Derived.WalkSpells
import Derived.WalkLawsBesides
import Derived.ProofKit
import Derived.Below
import Derived.Handy
import Derived.Lib.Hide
import Derived.Lib.QuietBelow
import Derived.BigQuiet
import Derived.OpenShut
import Derived.Maps.AppendAt
import Derived.Deep.OwnRows
import Derived.Deep.RegionLaw
import Derived.Lib.AppendZeros
import Derived.Deep.AppendLies
import Derived.Lib.MinMax
import Derived.Lib.SliceRun
import Derived.RangeFuncNested
import Derived.RangeFuncBound
import Derived.RangeFuncCalls
import Derived.RangeFuncLeaves
namespace Go.Proofs.Ytpcfakdddfgkgaa
open Go.RowKit
set_option maxRecDepth 20000

theorem ret_int {k : IntKind} {a b : Int} (h : a = b) : Ending.returned (.int k a) = .returned (.int k b) := by rw [h]
theorem ret_bool {a b : Bool} (h : a = b) : Ending.returned (.bool a) = .returned (.bool b) := by rw [h]

/-- a slice of numbers of the kind k that reads as the list l, all of it below block B -/
def Nums (k : IntKind) (w : World) (B : Nat) (A : Option Addr) (n : Nat) (l : List Int) : Prop :=
  l.length = n ∧ (∀ v ∈ l, (Lit.int k v).wf = true) ∧ (0 < n → ∃ b o, A = some ⟨b, o, none⟩ ∧ b < B ∧ ∀ i, i < n → w.cell? ⟨b, o + i, none⟩ = some (.int k (l.getD i 0)))
section
variable {k : IntKind} {w w' : World} {B C n : Nat} {A : Option Addr} {l : List Int}
theorem Nums.below (h : Nums k w B A n l) (hb : Below B w w') : Nums k w' B A n l := by
  obtain ⟨h1, h2, h3⟩ := h
  refine ⟨h1, h2, fun hn => ?_⟩
  obtain ⟨b, o, e, hB, hc⟩ := h3 hn
  exact ⟨b, o, e, hB, fun i hi => (hb.cell (p := ⟨b, o + i, none⟩) hB).trans (hc i hi)⟩
theorem Nums.mono (h : Nums k w B A n l) (hBC : B ≤ C) : Nums k w C A n l := by
  obtain ⟨h1, h2, h3⟩ := h
  refine ⟨h1, h2, fun hn => ?_⟩
  obtain ⟨b, o, e, hB, hc⟩ := h3 hn
  exact ⟨b, o, e, Nat.lt_of_lt_of_le hB hBC, hc⟩
theorem Nums.nil (k : IntKind) (w : World) (B : Nat) (A : Option Addr) : Nums k w B A 0 [] := ⟨rfl, by simp, fun h => absurd h (by omega)⟩
theorem Nums.cell (h : Nums k w B A n l) (hb : Below B w w') (i : Nat) (hi : i < n) : ∃ b o, A = some ⟨b, o, none⟩ ∧ w'.cell? ⟨b, o + i, none⟩ = some (.int k (l.getD i 0)) := by
  obtain ⟨b, o, e, hB, hc⟩ := h.2.2 (by omega)
  exact ⟨b, o, e, (hb.cell (p := ⟨b, o + i, none⟩) hB).trans (hc i hi)⟩
theorem Nums.byte (h : Nums .u8 w B A n l) : ∀ v ∈ l, 0 ≤ v ∧ v ≤ 255 := fun v hv => by
  have := h.2.1 v hv
  simpa [Lit.wf, IntKind.min, IntKind.max, IntKind.signed, IntKind.bits] using this
theorem Nums.take (h : Nums k w B A n l) (t : Nat) (ht : t ≤ n) : Nums k w B A t (l.take t) := by
  obtain ⟨h1, h2, h3⟩ := h
  refine ⟨by simp; omega, fun v hv => h2 v (List.mem_of_mem_take hv), fun hk => ?_⟩
  obtain ⟨b', o', e, hb, hc⟩ := h3 (by omega)
  exact ⟨b', o', e, hb, fun j hj => by rw [hc j (by omega)]; simp [List.getD, hj]⟩
theorem Nums.at_ (h : Nums k w B A n l) (i : Nat) : (Lit.int k (l.getD i 0)).wf = true := by
  by_cases hi : i < l.length
  · rw [show l.getD i 0 = l[i] by simp [List.getD, hi]]
    exact h.2.1 _ (List.getElem_mem hi)
  · rw [show l.getD i 0 = 0 by simp [List.getD, Nat.le_of_not_lt hi]]
    cases k <;> decide
end
theorem byte_wf {v : Int} (h : 0 ≤ v ∧ v ≤ 255) : (Lit.int .u8 v).wf = true := by
  simpa [Lit.wf, IntKind.min, IntKind.max, IntKind.signed, IntKind.bits] using h
theorem int_wf {v : Int} : (Lit.int .i64 v).wf = true ↔ -9223372036854775808 ≤ v ∧ v ≤ 9223372036854775807 := by
  simp [Lit.wf, IntKind.min, IntKind.max, IntKind.signed, IntKind.bits]
theorem ext_getD {a b : List Int} (h : b.length = a.length) (he : ∀ j, j < a.length → a.getD j 0 = b.getD j 0) : a = b := by
  apply List.ext_getElem h.symm
  intro i h1 h2
  have := he i h1
  simpa [List.getD, h1, h2] using this
theorem below_drewN {B : Nat} {w w' : World} (h : Below B w w') (n : Nat) : Below B w (w'.drewN n) := ⟨h.os, h.tape, h.output, h.size, h.block⟩
/-- a world of the class that a region's walk goes through -/
abbrev In (W : World) (p : Regrown) : World := Go.Sort.grow (redrawn W p.d) p.os
theorem in_below (W : World) (p : Regrown) : Below W.heap.size W (In W p) := below_regrown W p.d p.os
theorem below_box (w : World) (o : Obj) : Below w.heap.size w (w.alloc o) := (Below.refl _ _).alloc (Nat.le_refl _) _

/-- nil, or a row of 'cap' cells, the numbers 'zs': the first 'len' are its elements -/
def IsRow (k : IntKind) (w : World) (a : Option Addr) (len cap : Nat) (zs : List Int) : Prop :=
  (a = none ∧ len = 0 ∧ cap = 0 ∧ zs = []) ∨
  ∃ x, a = some x ∧ len ≤ cap ∧ cap ≤ maxLen ∧ zs.length = cap ∧ (∀ i, i < zs.length → w.cell? (x.add i) = some (.int k (zs.getD i 0))) ∧ ∀ n ∈ zs, (Lit.int k n).wf = true
theorem IsRow.len_le {k : IntKind} {w : World} {a : Option Addr} {len cap : Nat} {zs : List Int} (h : IsRow k w a len cap zs) : len ≤ cap ∧ len ≤ maxLen := by
  rcases h with ⟨_, rfl, rfl, _⟩ | ⟨x, _, h1, h2, _⟩
  · exact ⟨Nat.le_refl _, Nat.zero_le _⟩
  · exact ⟨h1, Nat.le_trans h1 h2⟩
theorem IsRow.cap_le {k : IntKind} {w : World} {a : Option Addr} {len cap : Nat} {zs : List Int} (h : IsRow k w a len cap zs) : cap ≤ maxLen := by
  rcases h with ⟨_, _, rfl, _⟩ | ⟨x, _, h1, h2, _⟩
  · exact Nat.zero_le _
  · exact h2
theorem IsRow.nums {k : IntKind} {w : World} {a : Option Addr} {len cap : Nat} {zs : List Int} (h : IsRow k w a len cap zs) : Nums k w w.heap.size a len (zs.take len) := by
  rcases h with ⟨rfl, rfl, rfl, rfl⟩ | ⟨x, rfl, h1, h2, h3, h4, h5⟩
  · exact ⟨rfl, by simp, fun h => absurd h (by omega)⟩
  · refine ⟨by simp; omega, fun v hv => h5 v (List.mem_of_mem_take hv), fun hn => ?_⟩
    obtain ⟨b, off, rfl, hc⟩ := ints_at h4 (by omega)
    refine ⟨b, off, rfl, block_lt_of_cell (hc 0 (by omega)), fun k hk => ?_⟩
    rw [hc k (by omega)]
    simp [List.getD, hk]

/-- numbers in a row of the call's own -/
def OwnK (k : IntKind) (t : TypeId) (base : Nat) (w : World) (v : Value) (l : List Int) : Prop := w.ownsRow base t 1 v l.length (l.map (Value.int k))
/-- numbers that the call may write, from block base on -/
def Mine (k : IntKind) (base : Nat) (w : World) (A : Option Addr) (n : Nat) (l : List Int) : Prop :=
  l.length = n ∧ (0 < n → ∃ b, A = some ⟨b, 0, none⟩ ∧ base ≤ b ∧ b < w.heap.size ∧ ∀ i, i < n → w.cell? ⟨b, i, none⟩ = some (.int k (l.getD i 0)) ∧ w.frozen? ⟨b, i, none⟩ = false)
section
variable {k : IntKind} {t base : Nat} {w w' : World} {v : Value} {l : List Int}
theorem OwnK.lt (h : OwnK k t base w v l) {g : Nat} (hg : v.ownBlock = some g) : base ≤ g ∧ g < w.heap.size := by
  rcases h.2 with ⟨rfl, _⟩ | ⟨g', cap, cur, rfl, hb, hh, _⟩
  · cases hg
  · simp [Value.ownBlock] at hg
    subst hg
    exact ⟨hb, (Array.getElem?_eq_some_iff.1 hh).1⟩
theorem OwnK.below (h : OwnK k t base w v l) (hb : Below w.heap.size w w') : OwnK k t base w' v l := by
  refine ⟨h.1, ?_⟩
  rcases h.2 with ⟨rfl, h0⟩ | ⟨g, cap, cur, rfl, hg, hh, r⟩
  · exact .inl ⟨rfl, h0⟩
  · exact .inr ⟨g, cap, cur, rfl, hg, (hb.block g (Array.getElem?_eq_some_iff.1 hh).1).trans hh, r⟩
theorem OwnK.nil (k : IntKind) (t base : Nat) (w : World) : OwnK k t base w (.slice none 0 0) [] := ⟨rfl, .inl ⟨rfl, rfl⟩⟩
theorem OwnK.form (h : OwnK k t base w v l) : ∃ A c, v = .slice A l.length c := by
  rcases h.2 with ⟨rfl, h0⟩ | ⟨g, cap, cur, rfl, _⟩
  · exact ⟨_, _, by rw [h0]⟩
  · exact ⟨_, _, rfl⟩
theorem OwnK.cap {A : Option Addr} {n c : Nat} (h : OwnK k t base w (.slice A n c) l) : n ≤ c ∧ c ≤ maxLen := by
  rcases h.2 with ⟨h1, h0⟩ | ⟨g, cap, cur, h1, hg, hh, hn, hm, _⟩
  · cases h1; exact ⟨Nat.le_refl _, Nat.zero_le _⟩
  · cases h1; exact ⟨hn, hm⟩
theorem OwnK.mine (h : OwnK k t base w v l) : ∃ A c, v = .slice A l.length c ∧ l.length ≤ c ∧ Mine k base w A l.length l := by
  rcases h.2 with ⟨rfl, h0⟩ | ⟨g, cap, cur, rfl, hg, hh, hn, _⟩
  · exact ⟨none, 0, by rw [h0], by omega, rfl, fun h => absurd h (by omega)⟩
  · refine ⟨_, _, rfl, hn, rfl, fun _ => ⟨g, rfl, hg, (Array.getElem?_eq_some_iff.1 hh).1, fun k hk => ⟨?_, by simp [World.frozen?, hh]⟩⟩⟩
    have := h.cells (g := g) rfl k _ (by simp [hk]; rfl)
    rw [Go.WideShapes.add_plain, Nat.zero_add] at this
    rw [this]
    simp [List.getD, hk]
theorem Mine.nums {A : Option Addr} {n : Nat} (h : Mine k base w A n l) (hv : ∀ v ∈ l, (Lit.int k v).wf = true) : Nums k w w.heap.size A n l := by
  refine ⟨h.1, hv, fun h0 => ?_⟩
  obtain ⟨b, e, _, hlt, hc⟩ := h.2 h0
  exact ⟨b, 0, e, hlt, fun i hi => by rw [Nat.zero_add]; exact (hc i hi).1⟩
theorem OwnK.nums (h : OwnK k t base w v l) (hv : ∀ v ∈ l, (Lit.int k v).wf = true) : ∃ A c, v = .slice A l.length c ∧ l.length ≤ c ∧ Nums k w w.heap.size A l.length l := by
  obtain ⟨A, c, e, hc, hm⟩ := h.mine
  exact ⟨A, c, e, hc, hm.nums hv⟩
theorem OwnK.nums_at {A : Option Addr} {n c : Nat} (h : OwnK k t base w (.slice A n c) l) (hv : ∀ v ∈ l, (Lit.int k v).wf = true) : Nums k w w.heap.size A n l ∧ n = l.length := by
  obtain ⟨A', c', e, hc, hm⟩ := h.nums hv
  injection e with e1 e2 e3
  subst e1 e2
  exact ⟨hm, rfl⟩
end
theorem ints_one (k : IntKind) (bs : List Int) : ∀ u ∈ bs.map (Value.int k), u.oneCell' = true := by
  intro u hu
  obtain ⟨x, _, rfl⟩ := List.mem_map.1 hu
  rfl
theorem ints_news {k : IntKind} {w : World} {b o : Nat} {bs : List Int} (hc : ∀ i, i < bs.length → w.cell? ⟨b, o + i, none⟩ = some (.int k (bs.getD i 0))) :
    ∀ j u, (bs.map (Value.int k))[j]? = some u → w.cell? ((⟨b, o, none⟩ : Addr).add j) = some u := by
  intro j u hu
  rw [Go.WideShapes.add_plain]
  have hj : j < bs.length := by
    have := (List.getElem?_eq_some_iff.1 hu).1
    simpa using this
  rw [hc j hj]
  simp [hj] at hu
  simp [List.getD, hj, hu]
theorem own_empty (k : IntKind) (t base : Nat) (w : World) (hb : base ≤ w.heap.size) : OwnK k t base (w.alloc (.cells #[] t)) (.slice (some ⟨w.heap.size, 0, none⟩) 0 0) [] :=
  ⟨rfl, .inr ⟨w.heap.size, 0, #[], rfl, hb, heap_alloc_new w _, Nat.le_refl _, Nat.zero_le _, rfl, rfl⟩⟩

/-- a slice's type: its elements are numbers of the kind k -/
structure Elem (k : IntKind) (ts te sz : Nat) : Prop where
  und : Try.prog.underlying ts = some (.slice te)
  info : (Try.prog.info? te).map (fun i => (i.zero, i.size, i.bytes)) = some (some (.int k 0), 1, sz)
  small : sz ≤ 8

/-- append onto what the call owns, of numbers wherever they are -/
theorem append_any {k : IntKind} {ts te sz : Nat} (E : Elem k ts te sz) (w : World) (base ty : Nat) (v : Value) (xs : List Int) (hown : OwnK k te base w v xs) (A : Option Addr) (m c B : Nat) (l : List Int) (hl : Nums k w B A m l) (hlen : xs.length + m ≤ 1000000) (hbase : base ≤ w.heap.size) :
    ∃ v' w', (Builtin.append_ #[ts, ts] ty #[v, .slice A m c]).run Try.prog w = .ok v' w' ∧ OwnK k te base w' v' (xs ++ l) ∧ Below base w w' := by
  obtain ⟨i0, hi, hz0, hz1, hz2⟩ := info_parts E.info
  have hsz := E.small
  have hby : (xs.length + m) * sz ≤ 140737488355328 := Nat.le_trans (Nat.mul_le_mul hlen hsz) (by decide)
  have fin : ∀ v' w', w'.ownsRow base te 1 v' (xs.length + m) ((xs ++ l).map (Value.int k)) → w.grownBy w' v.ownBlock → OwnK k te base w' v' (xs ++ l) ∧ Below base w w' := by
    intro v' w' h1 h2
    refine ⟨?_, (Below.refl base w).grown h2 hbase (fun k hk => (hown.lt hk).1)⟩
    unfold OwnK
    rw [List.length_append, hl.1]
    exact h1
  rcases Nat.eq_zero_or_pos m with h0 | h0
  · subst h0
    have hb : l = [] := List.eq_nil_of_length_eq_zero hl.1
    subst hb
    cases A with
    | none =>
      refine ⟨v, w, ?_, fin _ _ (by simpa [OwnK] using hown) (World.grownBy.refl w _)⟩
      rcases hown.2 with ⟨rfl, h9⟩ | ⟨g, cap, cur, rfl, _, _, hnc, _⟩
      · simp [Builtin.append_, run_underlying E.und, sizeOf, typeInfo, hi, Builtin.lenOf, Builtin.firstCells]
      · simp [Builtin.append_, run_underlying E.und, sizeOf, typeInfo, hi, Builtin.lenOf, Builtin.firstCells, hnc, storeCells]
    | some ad =>
      obtain ⟨v', w', hr, h2, h3, _, h5⟩ := run_append_own_at (P := Try.prog) w base ts ty te i0 _ 1 sz E.und hi hz0 hz1 hz2 rfl (by omega) v xs.length _ hown ad 0 c [] rfl (by simp) (by simp) (by unfold maxLen; omega) hby hbase
      exact ⟨v', w', hr, fin _ _ (by simpa using h2) h3⟩
  · obtain ⟨b, o, rfl, _, hcs⟩ := hl.2.2 h0
    have hll := hl.1
    obtain ⟨v', w', hr, h2, h3, _, h5⟩ := run_append_own_at (P := Try.prog) w base ts ty te i0 _ 1 sz E.und hi hz0 hz1 hz2 rfl (by omega) v xs.length _ hown ⟨b, o, none⟩ m c (l.map (Value.int k)) (by simp [hll]) (ints_news (by rw [hll]; exact hcs)) (ints_one k l) (by unfold maxLen; omega) hby hbase
    exact ⟨v', w', hr, fin _ _ (by simpa using h2) h3⟩
/-- append of one number -/
theorem append_one {k : IntKind} {ts te sz : Nat} (E : Elem k ts te sz) (wr : World) (base ty : Nat) (v : Value) (xs : List Int) (hown : OwnK k te base wr v xs) (x : Int) (hx : (Lit.int k x).wf = true) (hlen : xs.length + 1 ≤ 1000000) (hbase : base ≤ wr.heap.size) :
    ∃ v' w', (Builtin.append_ #[ts, ts] ty #[v, .slice (some ⟨wr.heap.size, 0, none⟩) 1 1]).run Try.prog (wr.alloc (.cells #[.int k x] te)) = .ok v' w' ∧ OwnK k te base w' v' (xs ++ [x]) ∧ Below base wr w' := by
  have hR : Nums k (wr.alloc (.cells #[.int k x] te)) (wr.heap.size + 1) (some ⟨wr.heap.size, 0, none⟩) 1 [x] := by
    refine ⟨rfl, by simpa using hx, fun _ => ⟨_, 0, rfl, by omega, fun i hi => ?_⟩⟩
    obtain rfl : i = 0 := by omega
    exact (Boxed.new wr te (.int k x)).cell
  obtain ⟨v', w', h1, h2, h3⟩ := append_any E (wr.alloc (.cells #[.int k x] te)) base ty v xs (hown.below (below_box wr _)) _ 1 1 _ [x] hR hlen (by simp; omega)
  exact ⟨v', w', h1, h2, ((below_box wr _).mono hbase).trans h3⟩
end Go.Proofs.Ytpcfakdddfgkgaa
