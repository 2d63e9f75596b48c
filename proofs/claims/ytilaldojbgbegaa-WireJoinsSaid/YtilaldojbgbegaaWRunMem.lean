/-
  RUNS IN MEMORY.
-/
import Derived.Test.YtilaldojbgbegaaWEvents
namespace Go.Proofs.Ytilaldojbgbegaa
open Go.RowKit
set_option maxRecDepth 20000

/-- a slice of the call's own, one cell of which is another one -/
theorem OwnM.set_cell {α : Type} {E : Enc α} {t base g n c k : Nat} {w : World} {l l' : List α} {u : Value} (h : OwnM E t base w (.slice (some ⟨g, 0, none⟩) n c) l) (hl : l'.length = l.length)
    (he : (l.flatMap E.cells).set k u = l'.flatMap E.cells) : OwnM E t base (w.setCell ⟨g, k, none⟩ u) (.slice (some ⟨g, 0, none⟩) n c) l' := by
  obtain ⟨h1, h2⟩ := h
  refine ⟨by rw [E.flat_len], ?_⟩
  rcases h2 with ⟨h2, _⟩ | ⟨g', cap, cur, h2, hg, hh, h3, h4, h5, h6⟩
  · cases h2
  · injection h2 with e1 e2 e3
    injection e1 with e1
    injection e1 with e1 _ _
    subst e1 e2 e3
    refine .inr ⟨g, c, cur.setIfInBounds k u, by rw [hl], hg, ?_, by omega, h4, by simp [h5], ?_⟩
    · simp [World.setCell, Array.getElem?_modify, hh]
    · rw [hl, Array.toList_setIfInBounds, List.take_set, h6, he]
/-- the last one's cell -/
theorem set_last {α : Type} (E : Enc α) (l : List α) (x y : α) (j : Nat) (u : Value) (h : (E.cells x).set j u = E.cells y) : ((l ++ [x]).flatMap E.cells).set (l.length * E.size + j) u = (l ++ [y]).flatMap E.cells := by
  rw [List.flatMap_append, List.flatMap_append, List.set_append_right _ _ (by rw [E.flat_len]; omega), E.flat_len]
  congr 1
  rw [show l.length * E.size + j - l.length * E.size = j by omega]
  simpa using h

def boolE : Enc Bool := ⟨fun x => [.bool x], 1, fun _ => rfl, fun x u hu => by simp at hu; rw [hu]; rfl, by decide⟩
abbrev SlB := (Option Addr × Nat × Nat) × Bool
def sl (x : Option Addr × Nat × Nat) : Value := .slice x.1 x.2.1 x.2.2
def runE : Enc SlB := ⟨fun x => [sl x.1, .bool x.2], 2, fun _ => rfl, fun x u hu => by simp at hu; rcases hu with rfl | rfl <;> rfl, by decide⟩
theorem elemBool : ElemM boolE 36 4 1 := ⟨Try.underlying36, by kernel_rfl, by decide⟩
theorem elemRun : ElemM runE 33 40 32 := ⟨Try.underlying33, by kernel_rfl, by decide⟩
theorem elemLev : ElemM levE 22 30 2 := ⟨Try.underlying22, by kernel_rfl, by decide⟩

/-- runs whose bits are of the call's own, in blocks below a number -/
def Ended (w : World) (base hs : Nat) (vs : List SlB) (rs : List RunD) : Prop :=
  vs.length = rs.length ∧ ∀ (i : Nat) (x : SlB) (r : RunD), vs[i]? = some x → rs[i]? = some r → x.2 = r.2 ∧ OwnM boolE 4 base w (sl x.1) r.1 ∧ ∀ g, (sl x.1).ownBlock = some g → g < hs
section
variable {w w' : World} {base hs : Nat} {vs : List SlB} {rs : List RunD}
theorem Ended.nil (w : World) (base hs : Nat) : Ended w base hs [] [] := ⟨rfl, fun i x r h => by simp at h⟩
theorem Ended.mono {hs' : Nat} (h : Ended w base hs vs rs) (hh : hs ≤ hs') : Ended w base hs' vs rs :=
  ⟨h.1, fun i x r h1 h2 => ⟨(h.2 i x r h1 h2).1, (h.2 i x r h1 h2).2.1, fun g hg => Nat.lt_of_lt_of_le ((h.2 i x r h1 h2).2.2 g hg) hh⟩⟩
theorem Ended.keeps {S : Nat → Prop} (h : Ended w base hs vs rs) (hk : Keeps S w w') (hS : ∀ b, S b → hs ≤ b ∨ ∃ t cs, Blk w b t cs ∧ t ≠ 4) : Ended w' base hs vs rs :=
  ⟨h.1, fun i x r h1 h2 => ⟨(h.2 i x r h1 h2).1, (h.2 i x r h1 h2).2.1.keeps hk fun g hg hs' => by
    rcases hS g hs' with h3 | ⟨t, cs, hb, ht⟩
    · have := (h.2 i x r h1 h2).2.2 g hg
      omega
    · exact (h.2 i x r h1 h2).2.1.ne_ hb (fun e => ht e.symm) hg, (h.2 i x r h1 h2).2.2⟩⟩
theorem Ended.snoc (h : Ended w base hs vs rs) (x : SlB) (r : RunD) (h1 : x.2 = r.2) (h2 : OwnM boolE 4 base w (sl x.1) r.1) (h3 : ∀ g, (sl x.1).ownBlock = some g → g < hs) : Ended w base hs (vs ++ [x]) (rs ++ [r]) := by
  refine ⟨by simp [h.1], fun i y q hy hq => ?_⟩
  by_cases hi : i < vs.length
  · rw [List.getElem?_append_left hi] at hy
    rw [List.getElem?_append_left (by rw [← h.1]; exact hi)] at hq
    exact h.2 i y q hy hq
  · rw [List.getElem?_append_right (by omega)] at hy
    rw [List.getElem?_append_right (by rw [← h.1]; omega)] at hq
    have h0 : i - vs.length = 0 := by
      have := (List.getElem?_eq_some_iff.1 hy).1
      simp at this
      omega
    rw [h0] at hy
    rw [← h.1, h0] at hq
    simp at hy hq
    subst hy hq
    exact ⟨h1, h2, h3⟩
end
/-- the block of a row of the call's own -/
theorem OwnM.blk {α : Type} {E : Enc α} {t base g : Nat} {w : World} {v : Value} {l : List α} (h : OwnM E t base w v l) (hg : v.ownBlock = some g) : ∃ cs, Blk w g t cs := by
  rcases h.2 with ⟨rfl, _⟩ | ⟨g', cap, cur, rfl, _, hh, _⟩
  · cases hg
  · simp [Value.ownBlock] at hg
    subst hg
    exact ⟨cur, hh⟩

/-- runs that a call has made: none of them open; or the last one open, its bits in blocks from hs on -/
structure Shut_ (w : World) (base : Nat) (v : Value) (rs : List RunD) : Prop where
  out : ∃ vs, OwnM runE 40 base w v vs ∧ Ended w base w.heap.size vs rs
structure Open_ (w : World) (base : Nat) (v : Value) (rs : List RunD) (bits : List Bool) : Prop where
  out : ∃ vs x hs, OwnM runE 40 base w v (vs ++ [(x, false)]) ∧ Ended w base hs vs rs ∧ OwnM boolE 4 hs w (sl x) bits ∧ base ≤ hs ∧ hs ≤ w.heap.size
section
variable {w w' : World} {base : Nat} {v : Value} {rs : List RunD} {bits : List Bool}
theorem Open_.shut (h : Open_ w base v rs bits) : Shut_ w base v (rs ++ [(bits, false)]) := by
  obtain ⟨vs, x, hs, h1, h2, h3, h4, h5⟩ := h.out
  exact ⟨vs ++ [(x, false)], h1, (h2.mono h5).snoc _ _ rfl (h3.lower h4) (fun g hg => (h3.lt hg).2)⟩
/-- what leaves rows of runs and of bits alone -/
theorem Shut_.keeps {S : Nat → Prop} (h : Shut_ w base v rs) (hk : Keeps S w w') (hS : ∀ b, S b → ∃ t cs, Blk w b t cs ∧ t ≠ 4 ∧ t ≠ 40) : Shut_ w' base v rs := by
  obtain ⟨vs, h1, h2⟩ := h.out
  refine ⟨vs, h1.keeps hk fun g hg hs => ?_, (h2.keeps hk fun b hb => ?_).mono hk.size⟩
  · obtain ⟨t, cs, hb, _, ht⟩ := hS g hs
    exact h1.ne_ hb (fun e => ht e.symm) hg
  · obtain ⟨t, cs, hb, ht, _⟩ := hS b hb
    exact .inr ⟨t, cs, hb, ht⟩
theorem Open_.keeps {S : Nat → Prop} (h : Open_ w base v rs bits) (hk : Keeps S w w') (hS : ∀ b, S b → ∃ t cs, Blk w b t cs ∧ t ≠ 4 ∧ t ≠ 40) : Open_ w' base v rs bits := by
  obtain ⟨vs, x, hs, h1, h2, h3, h4, h5⟩ := h.out
  refine ⟨vs, x, hs, h1.keeps hk fun g hg hs => ?_, h2.keeps hk fun b hb => ?_, h3.keeps hk fun g hg hs => ?_, h4, Nat.le_trans h5 hk.size⟩
  · obtain ⟨t, cs, hb, _, ht⟩ := hS g hs
    exact h1.ne_ hb (fun e => ht e.symm) hg
  · obtain ⟨t, cs, hb, ht, _⟩ := hS b hb
    exact .inr ⟨t, cs, hb, ht⟩
  · obtain ⟨t, cs, hb, ht, _⟩ := hS g hs
    exact h3.ne_ hb (fun e => ht e.symm) hg
theorem Shut_.len (h : Shut_ w base v rs) : ∃ A c, v = .slice A rs.length c := by
  obtain ⟨vs, h1, h2⟩ := h.out
  obtain ⟨A, c, e⟩ := h1.form
  exact ⟨A, c, by rw [e, h2.1]⟩

/-- a Start: one more -/
theorem Shut_.start (h : Shut_ w base v rs) (hlen : rs.length ≤ 1000) (hbase : base ≤ w.heap.size) :
    ∃ v' w', (Builtin.append_ #[33, 33] 33 #[v, .slice (some ⟨w.heap.size, 0, none⟩) 1 1]).run Try.prog (w.alloc (.cells #[.slice none 0 0, .bool false] 40)) = .ok v' w' ∧
      Open_ w' base v' rs [] ∧ Below base w w' ∧ Keeps (fun b => ∃ cs, Blk w b 40 cs) w w' := by
  obtain ⟨vs, h1, h2⟩ := h.out
  obtain ⟨v', w', hr, ho, hb, hg, _⟩ := append_onem elemRun w base 33 v vs h1 ((none, 0, 0), false) #[.slice none 0 0, .bool false] rfl (by rw [h2.1]; omega) hbase
  have hk1 : Keeps No w (w.alloc (.cells #[.slice none 0 0, .bool false] 40)) := Keeps.of_below (below_box w _)
  have hk : Keeps (fun b => ∃ cs, Blk w b 40 cs) w w' := hk1.no.then (Keeps.of_grown hg) (fun b hb => .inl (h1.blk hb))
  exact ⟨v', w', hr, ⟨vs, (none, 0, 0), w.heap.size, ho, h2.keeps hk (fun b hb => by
    obtain ⟨cs, hb⟩ := hb
    exact .inr ⟨_, cs, hb, by decide⟩), OwnM.nil _ _ _ _, hbase, hk.size⟩, hb, hk⟩
/-- where the last one lies -/
theorem Open_.last (h : Open_ w base v rs bits) : ∃ g c x, v = .slice (some ⟨g, 0, none⟩) (rs.length + 1) c ∧ base ≤ g ∧ rs.length + 1 ≤ c ∧ (∃ cs, Blk w g 40 cs) ∧ w.cell? ⟨g, rs.length * 2, none⟩ = some (sl x) ∧ w.cell? ⟨g, rs.length * 2 + 1, none⟩ = some (.bool false) ∧
    w.frozen? ⟨g, rs.length * 2, none⟩ = false ∧ w.frozen? ⟨g, rs.length * 2 + 1, none⟩ = false ∧ (∃ hs, OwnM boolE 4 hs w (sl x) bits ∧ base ≤ hs ∧ hs ≤ w.heap.size ∧ ∃ vs, OwnM runE 40 base w v (vs ++ [(x, false)]) ∧ Ended w base hs vs rs) := by
  obtain ⟨vs, x, hs, h1, h2, h3, h4, h5⟩ := h.out
  have hl := h2.1
  obtain ⟨g, c, e, hg, hlt, hc, hx⟩ := h1.cell vs.length (x, false) (by simp)
  have hl1 : (vs ++ [(x, false)]).length = rs.length + 1 := by simp [hl]
  have z0 := hx 0 (sl x) rfl
  have z1 := hx 1 (.bool false) rfl
  rw [hl] at z0 z1
  refine ⟨g, c, x, by rw [e, hl1], hg, by omega, h1.blk (by rw [e]; rfl), z0.1, z1.1, z0.2, z1.2, hs, h3, h4, h5, vs, h1, h2⟩

theorem keeps_run {g k : Nat} {cs : Array Value} (hb : Blk w g 40 cs) (u : Value) : Keeps (fun b => ∃ cs, Blk w b 40 cs) w (w.setCell ⟨g, k, none⟩ u) :=
  (Keeps.refl _ w).set_ (p := ⟨g, k, none⟩) (.inl ⟨cs, hb⟩) u
/-- a Stop -/
theorem Open_.stopped {g c : Nat} (h : Open_ w base (.slice (some ⟨g, 0, none⟩) (rs.length + 1) c) rs bits) : Shut_ (w.setCell ⟨g, rs.length * 2 + 1, none⟩ (.bool true)) base (.slice (some ⟨g, 0, none⟩) (rs.length + 1) c) (rs ++ [(bits, true)]) := by
  obtain ⟨vs, x, hs, h1, h2, h3, h4, h5⟩ := h.out
  obtain ⟨cs, hb⟩ := h1.blk (g := g) rfl
  have hk := keeps_run (k := rs.length * 2 + 1) hb (.bool true)
  refine ⟨vs ++ [(x, true)], h1.set_cell (by simp) (by rw [← h2.1]; exact set_last runE vs (x, false) (x, true) 1 (.bool true) rfl), ?_⟩
  exact ((h2.keeps hk fun b hb => by
    obtain ⟨cs, hb⟩ := hb
    exact .inr ⟨_, cs, hb, by decide⟩).mono (Nat.le_trans h5 hk.size)).snoc _ _ rfl ((h3.keeps hk fun g hg hs' => by
      obtain ⟨cs, hb⟩ := hs'
      exact h3.ne_ hb (by decide) hg).lower h4) (fun g hg => Nat.lt_of_lt_of_le (h3.lt hg).2 hk.size)
/-- a Rise: one bit more -/
theorem Open_.risen {g c : Nat} (h : Open_ w base (.slice (some ⟨g, 0, none⟩) (rs.length + 1) c) rs bits) (b : Bool) (hlen : bits.length ≤ 1000) : ∃ x, w.cell? ⟨g, rs.length * 2, none⟩ = some (sl x) ∧
    ∃ v' w', (Builtin.append_ #[36, 36] 36 #[sl x, .slice (some ⟨w.heap.size, 0, none⟩) 1 1]).run Try.prog (w.alloc (.cells #[.bool b] 4)) = .ok v' w' ∧
      (∃ A c', v' = .slice A (bits.length + 1) c') ∧ (∃ u, w'.cell? ⟨g, rs.length * 2, none⟩ = some u) ∧ w'.frozen? ⟨g, rs.length * 2, none⟩ = false ∧
      Open_ (w'.setCell ⟨g, rs.length * 2, none⟩ v') base (.slice (some ⟨g, 0, none⟩) (rs.length + 1) c) rs (bits ++ [b]) ∧ Below base w (w'.setCell ⟨g, rs.length * 2, none⟩ v') ∧
      Keeps (fun k => ∃ t cs, Blk w k t cs ∧ (t = 4 ∨ t = 40)) w (w'.setCell ⟨g, rs.length * 2, none⟩ v') := by
  obtain ⟨vs, x, hs, h1, h2, h3, h4, h5⟩ := h.out
  have hl := h2.1
  obtain ⟨g', c', e, hg, hlt, hc, hx⟩ := h1.cell vs.length (x, false) (by simp)
  have e1 : g = g' := by injection e with e _ _; injection e with e; injection e
  subst e1
  obtain ⟨cs, hb⟩ := h1.blk (g := g) rfl
  have z0 := hx 0 (sl x) rfl
  rw [hl] at z0
  obtain ⟨v', w', hr, ho, hbel, hgr, hblk⟩ := append_onem elemBool w hs 36 (sl x) bits h3 b #[.bool b] rfl (by omega) h5
  have hk1 : Keeps No w (w.alloc (.cells #[.bool b] 4)) := Keeps.of_below (below_box w _)
  have hk : Keeps (fun k => (sl x).ownBlock = some k) w w' := hk1.no.then (Keeps.of_grown hgr) (fun b hb => .inl hb)
  have hgw : w'.heap[g]? = w.heap[g]? := hk.block g hb.lt (fun e => h3.ne_ hb (by decide) e)
  have hb' := hb.of_eq hgw
  have hk2 : Keeps (fun k => ∃ t cs, Blk w k t cs ∧ (t = 4 ∨ t = 40)) w w' := hk.mono fun k hk => by
    obtain ⟨cs, h⟩ := h3.blk hk
    exact ⟨_, cs, h, .inl rfl⟩
  have hrow : OwnM runE 40 base w' (.slice (some ⟨g, 0, none⟩) (rs.length + 1) c) (vs ++ [(x, false)]) := h1.only fun k hk => by
    have : g = k := by simpa [Value.ownBlock] using hk
    subst this
    exact hgw
  obtain ⟨A, c1, ev⟩ := ho.form
  have hl1 : (bits ++ [b]).length = bits.length + 1 := by simp
  rw [hl1] at ev
  have hks : Keeps (fun k => ∃ cs, Blk w' k 40 cs) w' (w'.setCell ⟨g, rs.length * 2, none⟩ v') := keeps_run hb' v'
  refine ⟨x, z0.1, v', w', hr, ⟨A, c1, ev⟩, ⟨sl x, ?_⟩, hb'.frozen _, ⟨vs, (A, bits.length + 1, c1), hs, ?_, ?_, ?_, h4, ?_⟩, ?_, ?_⟩
  · rw [hb'.cell, ← hb.cell]
    exact z0.1
  · exact hrow.set_cell (by simp) (by
      rw [← hl]
      have := set_last runE vs (x, false) ((A, bits.length + 1, c1), false) 0 v' (by rw [ev]; rfl)
      exact this)
  · refine (h2.keeps hk fun k hk => ?_).keeps hks fun k hk => ?_
    · exact .inl (h3.lt hk).1
    · obtain ⟨cs, h⟩ := hk
      exact .inr ⟨_, cs, h, by decide⟩
  · have h9 : OwnM boolE 4 hs (w'.setCell ⟨g, rs.length * 2, none⟩ v') v' (bits ++ [b]) := ho.keeps hks fun k hk hs' => by
      obtain ⟨cs, h⟩ := hs'
      exact ho.ne_ h (by decide) hk
    have hsl : sl (A, bits.length + 1, c1) = v' := ev.symm
    rw [hsl]
    exact h9
  · exact Nat.le_trans h5 (Nat.le_trans hk.size hks.size)
  · exact (hbel.mono h4).setCell (p := ⟨g, rs.length * 2, none⟩) hg v'
  · exact hk2.set_ (p := ⟨g, rs.length * 2, none⟩) (.inl ⟨_, cs, hb, .inr rfl⟩) v'
end
end Go.Proofs.Ytilaldojbgbegaa
