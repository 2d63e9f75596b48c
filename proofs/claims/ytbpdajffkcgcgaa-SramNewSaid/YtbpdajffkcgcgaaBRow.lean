/-
  A SEAT WITHOUT TABLES: rows of values of several cells each: what came in (Many), what the call owns (OwnM); append.
-/
import Derived.Test.YtbpdajffkcgcgaaBMem
import Derived.Deep.Slices
namespace Go.Proofs.Ytbpdajffkcgcgaa
open Go.RowKit
set_option maxRecDepth 20000

/-- how values of a kind lie in memory: each in as many cells -/
structure Enc (α : Type) where
  cells : α → List Value
  size : Nat
  len : ∀ x, (cells x).length = size
  one : ∀ x, ∀ u ∈ cells x, u.oneCell' = true
  pos : 0 < size

section
variable {α : Type} (E : Enc α)
theorem Enc.flat_len (l : List α) : (l.flatMap E.cells).length = l.length * E.size := by
  induction l with
  | nil => simp
  | cons x l ih => rw [List.flatMap_cons, List.length_append, E.len, ih, List.length_cons, Nat.succ_mul, Nat.add_comm]
theorem Enc.flat_at (l : List α) : ∀ (i : Nat) (x : α), l[i]? = some x → ∀ j u, (E.cells x)[j]? = some u → (l.flatMap E.cells)[i * E.size + j]? = some u := by
  induction l with
  | nil => intro i x h; simp at h
  | cons y l ih =>
    intro i x h j u hu
    have hj : j < E.size := by
      have := (List.getElem?_eq_some_iff.1 hu).1
      rwa [E.len] at this
    rw [List.flatMap_cons]
    cases i with
    | zero =>
      simp at h
      subst h
      rw [Nat.zero_mul, Nat.zero_add, List.getElem?_append_left (by rw [E.len]; exact hj)]
      exact hu
    | succ i =>
      rw [List.getElem?_append_right (by rw [E.len, Nat.succ_mul]; omega), E.len]
      rw [show (i + 1) * E.size + j - E.size = i * E.size + j by rw [Nat.succ_mul]; omega]
      exact ih i x (by simpa using h) j u hu
theorem Enc.flat_inv (l : List α) (k : Nat) (u : Value) (h : (l.flatMap E.cells)[k]? = some u) : ∃ x, l[k / E.size]? = some x ∧ (E.cells x)[k % E.size]? = some u := by
  have hk : k < l.length * E.size := by
    have := (List.getElem?_eq_some_iff.1 h).1
    rwa [E.flat_len] at this
  have hp := E.pos
  have hi : k / E.size < l.length := by rw [Nat.div_lt_iff_lt_mul hp]; exact hk
  refine ⟨l[k / E.size], by simp [hi], ?_⟩
  have hm : k % E.size < (E.cells l[k / E.size]).length := by rw [E.len]; exact Nat.mod_lt _ hp
  have := E.flat_at l (k / E.size) l[k / E.size] (by simp [hi]) (k % E.size) _ (List.getElem?_eq_getElem hm)
  rw [Nat.mul_comm, Nat.div_add_mod] at this
  rw [List.getElem?_eq_getElem hm, ← this, h]
theorem Enc.flat_one (l : List α) : ∀ u ∈ l.flatMap E.cells, u.oneCell' = true := by
  intro u hu
  obtain ⟨x, _, hx⟩ := List.mem_flatMap.1 hu
  exact E.one x u hx

/-- a slice that reads as the list l, all of it below block B -/
def Many (w : World) (B : Nat) (A : Option Addr) (n : Nat) (l : List α) : Prop :=
  l.length = n ∧ (0 < n → ∃ b o, A = some ⟨b, o, none⟩ ∧ b < B ∧ ∀ i x, l[i]? = some x → ∀ j u, (E.cells x)[j]? = some u → w.cell? ⟨b, o + i * E.size + j, none⟩ = some u)
/-- a slice of the call's own -/
def OwnM (t base : Nat) (w : World) (v : Value) (l : List α) : Prop := w.ownsRow base t E.size v l.length (l.flatMap E.cells)
end
section
variable {α : Type} {E : Enc α} {w w' : World} {B C n t base : Nat} {A : Option Addr} {l : List α} {v : Value}
theorem Many.below (h : Many E w B A n l) (hb : Below B w w') : Many E w' B A n l := by
  obtain ⟨h1, h2⟩ := h
  refine ⟨h1, fun hn => ?_⟩
  obtain ⟨b, o, e, hB, hc⟩ := h2 hn
  exact ⟨b, o, e, hB, fun i x hx j u hu => (hb.cell (p := ⟨b, o + i * E.size + j, none⟩) hB).trans (hc i x hx j u hu)⟩
theorem Many.mono (h : Many E w B A n l) (hBC : B ≤ C) : Many E w C A n l := by
  obtain ⟨h1, h2⟩ := h
  refine ⟨h1, fun hn => ?_⟩
  obtain ⟨b, o, e, hB, hc⟩ := h2 hn
  exact ⟨b, o, e, Nat.lt_of_lt_of_le hB hBC, hc⟩
theorem Many.nil (E : Enc α) (w : World) (B : Nat) (A : Option Addr) : Many E w B A 0 [] := ⟨rfl, fun h => absurd h (by omega)⟩
theorem Many.cell (h : Many E w B A n l) (hb : Below B w w') (i : Nat) (x : α) (hi : l[i]? = some x) : ∃ b o, A = some ⟨b, o, none⟩ ∧ ∀ j u, (E.cells x)[j]? = some u → w'.cell? ⟨b, o + i * E.size + j, none⟩ = some u := by
  have hn : 0 < n := by
    have := (List.getElem?_eq_some_iff.1 hi).1
    have := h.1
    omega
  obtain ⟨b, o, e, hB, hc⟩ := h.2 hn
  exact ⟨b, o, e, fun j u hu => (hb.cell (p := ⟨b, o + i * E.size + j, none⟩) hB).trans (hc i x hi j u hu)⟩
theorem Many.take (h : Many E w B A n l) (k : Nat) (hk : k ≤ n) : Many E w B A k (l.take k) := by
  obtain ⟨h1, h2⟩ := h
  refine ⟨by simp; omega, fun h0 => ?_⟩
  obtain ⟨b, o, e, hb, hc⟩ := h2 (by omega)
  refine ⟨b, o, e, hb, fun i x hx => hc i x ?_⟩
  rw [List.getElem?_take] at hx
  split at hx
  · exact hx
  · cases hx
theorem OwnM.lt (h : OwnM E t base w v l) {g : Nat} (hg : v.ownBlock = some g) : base ≤ g ∧ g < w.heap.size := by
  rcases h.2 with ⟨rfl, _⟩ | ⟨g', cap, cur, rfl, hb, hh, _⟩
  · cases hg
  · simp [Value.ownBlock] at hg
    subst hg
    exact ⟨hb, (Array.getElem?_eq_some_iff.1 hh).1⟩
theorem OwnM.below (h : OwnM E t base w v l) (hb : Below w.heap.size w w') : OwnM E t base w' v l := by
  refine ⟨h.1, ?_⟩
  rcases h.2 with ⟨rfl, h0⟩ | ⟨g, cap, cur, rfl, hg, hh, r⟩
  · exact .inl ⟨rfl, h0⟩
  · exact .inr ⟨g, cap, cur, rfl, hg, (hb.block g (Array.getElem?_eq_some_iff.1 hh).1).trans hh, r⟩
theorem OwnM.only (h : OwnM E t base w v l) (hb : ∀ g, v.ownBlock = some g → w'.heap[g]? = w.heap[g]?) : OwnM E t base w' v l := by
  refine ⟨h.1, ?_⟩
  rcases h.2 with ⟨rfl, h0⟩ | ⟨g, cap, cur, rfl, hg, hh, r⟩
  · exact .inl ⟨rfl, h0⟩
  · exact .inr ⟨g, cap, cur, rfl, hg, (hb g rfl).trans hh, r⟩
theorem OwnM.nil (E : Enc α) (t base : Nat) (w : World) : OwnM E t base w (.slice none 0 0) [] := ⟨by simp, .inl ⟨rfl, rfl⟩⟩
theorem OwnM.form (h : OwnM E t base w v l) : ∃ A c, v = .slice A l.length c := by
  rcases h.2 with ⟨rfl, h0⟩ | ⟨g, cap, cur, rfl, _⟩
  · exact ⟨_, _, by rw [h0]⟩
  · exact ⟨_, _, rfl⟩
theorem OwnM.lower (h : OwnM E t base w v l) {low : Nat} (hl : low ≤ base) : OwnM E t low w v l := by
  refine ⟨h.1, ?_⟩
  rcases h.2 with h0 | ⟨g, cap, cur, rfl, hg, r⟩
  · exact .inl h0
  · exact .inr ⟨g, cap, cur, rfl, Nat.le_trans hl hg, r⟩
theorem OwnM.cell (h : OwnM E t base w v l) (i : Nat) (x : α) (hi : l[i]? = some x) : ∃ g c, v = .slice (some ⟨g, 0, none⟩) l.length c ∧ base ≤ g ∧ g < w.heap.size ∧ l.length ≤ c ∧
    ∀ j u, (E.cells x)[j]? = some u → w.cell? ⟨g, i * E.size + j, none⟩ = some u ∧ w.frozen? ⟨g, i * E.size + j, none⟩ = false := by
  have hn : i < l.length := (List.getElem?_eq_some_iff.1 hi).1
  rcases h.2 with ⟨_, h0⟩ | ⟨g, cap, cur, rfl, hg, hh, hnc, _⟩
  · omega
  · refine ⟨g, cap, rfl, hg, (Array.getElem?_eq_some_iff.1 hh).1, hnc, fun j u hu => ⟨?_, by simp [World.frozen?, hh]⟩⟩
    have := World.ownsRow.cells h (g := g) rfl _ _ (E.flat_at l i x hi j u hu)
    rwa [Go.WideShapes.add_plain, Nat.zero_add] at this
theorem OwnM.many (h : OwnM E t base w v l) : ∃ A c, v = .slice A l.length c ∧ l.length ≤ c ∧ c ≤ maxLen ∧ Many E w w.heap.size A l.length l := by
  rcases h.2 with ⟨rfl, h0⟩ | ⟨g, cap, cur, rfl, hg, hh, hnc, hcm, _⟩
  · exact ⟨none, 0, by rw [h0], by omega, by simp [maxLen], rfl, fun h => absurd h (by omega)⟩
  · refine ⟨_, _, rfl, hnc, hcm, rfl, fun _ => ⟨g, 0, rfl, (Array.getElem?_eq_some_iff.1 hh).1, fun i x hx j u hu => ?_⟩⟩
    have := World.ownsRow.cells h (g := g) rfl _ _ (E.flat_at l i x hx j u hu)
    rw [Go.WideShapes.add_plain] at this
    rwa [Nat.add_assoc]
end

/-- a slice's type: its elements are laid so -/
structure ElemM {α : Type} (E : Enc α) (ts te sz : Nat) : Prop where
  und : Try.prog.underlying ts = some (.slice te)
  info : (Try.prog.info? te).map (fun i => (i.zero.map (·.cells.size), i.size, i.bytes)) = some (some E.size, E.size, sz)
  small : sz ≤ 64

/-- append onto what the call owns, of values wherever they are -/
theorem append_many {α : Type} {E : Enc α} {ts te sz : Nat} (L : ElemM E ts te sz) (w : World) (base ty : Nat) (v : Value) (xs : List α) (hown : OwnM E te base w v xs) (A : Option Addr) (m c B : Nat) (l : List α) (hl : Many E w B A m l) (hlen : xs.length + m ≤ 1000000) (hbase : base ≤ w.heap.size) :
    ∃ v' w', (Builtin.append_ #[ts, ts] ty #[v, .slice A m c]).run Try.prog w = .ok v' w' ∧ OwnM E te base w' v' (xs ++ l) ∧ Below base w w' ∧ w.grownBy w' v.ownBlock ∧ (v'.ownBlock = v.ownBlock ∨ v'.ownBlock = some w.heap.size) := by
  obtain ⟨i0, hi, hz0, hz1, hz2⟩ : ∃ i, Try.prog.info? te = some i ∧ i.zero.map (·.cells.size) = some E.size ∧ i.size = E.size ∧ i.bytes = sz := by
    have h := L.info
    cases hq : Try.prog.info? te with
    | none => rw [hq] at h; simp at h
    | some i =>
      rw [hq] at h
      simp only [Option.map_some, Option.some.injEq, Prod.mk.injEq] at h
      exact ⟨i, rfl, h.1, h.2.1, h.2.2⟩
  obtain ⟨z, hz, hzs⟩ : ∃ z, i0.zero = some z ∧ z.cells.size = E.size := by
    cases hq : i0.zero with
    | none => rw [hq] at hz0; simp at hz0
    | some z => rw [hq] at hz0; simp at hz0; exact ⟨z, rfl, hz0⟩
  have hsz := L.small
  have hby : (xs.length + m) * sz ≤ 140737488355328 := Nat.le_trans (Nat.mul_le_mul hlen hsz) (by decide)
  have fin : ∀ v' w', w'.ownsRow base te E.size v' (xs.length + m) ((xs ++ l).flatMap E.cells) → w.grownBy w' v.ownBlock → OwnM E te base w' v' (xs ++ l) ∧ Below base w w' := by
    intro v' w' h1 h2
    refine ⟨?_, (Below.refl base w).grown h2 hbase (fun k hk => (hown.lt hk).1)⟩
    unfold OwnM
    rw [List.length_append, hl.1]
    exact h1
  rcases Nat.eq_zero_or_pos m with h0 | h0
  · subst h0
    have hb : l = [] := List.eq_nil_of_length_eq_zero hl.1
    subst hb
    cases A with
    | none =>
      have hf := fin v w (by simpa [OwnM] using hown) (World.grownBy.refl w _)
      refine ⟨v, w, ?_, hf.1, hf.2, World.grownBy.refl w _, .inl rfl⟩
      rcases hown.2 with ⟨rfl, h9⟩ | ⟨g, cap, cur, rfl, _, _, hnc, _⟩
      · simp [Builtin.append_, run_underlying L.und, sizeOf, typeInfo, hi, Builtin.lenOf, Builtin.firstCells]
      · simp [Builtin.append_, run_underlying L.und, sizeOf, typeInfo, hi, Builtin.lenOf, Builtin.firstCells, hnc, storeCells]
    | some ad =>
      obtain ⟨v', w', hr, h2, h3, _, h5⟩ := run_append_own_at (P := Try.prog) w base ts ty te i0 z E.size sz L.und hi hz hz1 hz2 hzs E.pos v xs.length _ hown ad 0 c [] (by simp) (by simp) (by simp) (by unfold maxLen; omega) hby hbase
      have hf := fin _ _ (by simpa using h2) h3
      exact ⟨v', w', hr, hf.1, hf.2, h3, h5⟩
  · obtain ⟨b, o, rfl, _, hcs⟩ := hl.2 h0
    have hll := hl.1
    obtain ⟨v', w', hr, h2, h3, _, h5⟩ := run_append_own_at (P := Try.prog) w base ts ty te i0 z E.size sz L.und hi hz hz1 hz2 hzs E.pos v xs.length _ hown ⟨b, o, none⟩ m c (l.flatMap E.cells) (by rw [E.flat_len, hll])
      (fun j u hu => by
        obtain ⟨x, hx, hxu⟩ := E.flat_inv l j u hu
        have := hcs _ x hx _ u hxu
        rw [Go.WideShapes.add_plain]
        rwa [Nat.add_assoc, Nat.mul_comm, Nat.div_add_mod] at this) (E.flat_one l) (by unfold maxLen; omega) hby hbase
    have hf := fin _ _ (by rw [List.flatMap_append]; exact h2) h3
    exact ⟨v', w', hr, hf.1, hf.2, h3, h5⟩

/-- a new row of the call's own -/
theorem many_new {α : Type} (E : Enc α) (w : World) (t : TypeId) (l : List α) (cs : Array Value) (h : cs.toList = l.flatMap E.cells) : Many E (w.alloc (.cells cs t)) (w.heap.size + 1) (some ⟨w.heap.size, 0, none⟩) l.length l := by
  refine ⟨rfl, fun _ => ⟨_, 0, rfl, by omega, fun i x hi j u hu => ?_⟩⟩
  have := E.flat_at l i x hi j u hu
  rw [Nat.zero_add]
  rw [← h] at this
  rw [cell_of_row _ _ _ _ t (0, 0) (heap_alloc_new w _)]
  simpa using this
/-- append of one value -/
theorem append_onem {α : Type} {E : Enc α} {ts te sz : Nat} (L : ElemM E ts te sz) (wr : World) (base ty : Nat) (v : Value) (xs : List α) (hown : OwnM E te base wr v xs) (x : α) (cs : Array Value) (hc : cs.toList = E.cells x) (hlen : xs.length + 1 ≤ 1000000) (hbase : base ≤ wr.heap.size) :
    ∃ v' w', (Builtin.append_ #[ts, ts] ty #[v, .slice (some ⟨wr.heap.size, 0, none⟩) 1 1]).run Try.prog (wr.alloc (.cells cs te)) = .ok v' w' ∧ OwnM E te base w' v' (xs ++ [x]) ∧ Below base wr w' ∧
      (wr.alloc (.cells cs te)).grownBy w' v.ownBlock ∧ (v'.ownBlock = v.ownBlock ∨ v'.ownBlock = some (wr.heap.size + 1)) := by
  have hR := many_new E wr te [x] cs (by simpa using hc)
  obtain ⟨v', w', h1, h2, h3, h4, h5⟩ := append_many L (wr.alloc (.cells cs te)) base ty v xs (hown.below (below_box wr _)) _ 1 1 _ [x] hR hlen (by simp; omega)
  exact ⟨v', w', h1, h2, ((below_box wr _).mono hbase).trans h3, h4, by simpa using h5⟩
end Go.Proofs.Ytbpdajffkcgcgaa
