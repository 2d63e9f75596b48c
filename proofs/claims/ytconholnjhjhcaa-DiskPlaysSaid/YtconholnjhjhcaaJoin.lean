/-
  append OF OPERATIONS ONTO WHAT THE CALL OWNS.
-/
import Derived.Test.YtconholnjhjhcaaMade
import Derived.Deep.RegionLaw
import Derived.Deep.DeepCutAuto
namespace Go.Proofs.Ytconholnjhjhcaa
open Ks Go.RowKit

/-- the cells of operations -/
def OpCells (w : World) (G : Nat → Prop) : List OpD → List Value → Prop
  | [], cs => cs = []
  | o :: l, cs => ∃ bv tv rest, cs = .int .u8 o.kind :: .int .i64 o.i :: bv :: tv :: rest ∧ OpVals w G bv tv o ∧ OpCells w G l rest

section
variable {w w' : World} {G : Nat → Prop}
theorem OpCells.len : ∀ {l : List OpD} {cs : List Value}, OpCells w G l cs → cs.length = l.length * 4
  | [], cs, h => by rw [show cs = [] from h]; rfl
  | o :: l, cs, h => by
    obtain ⟨bv, tv, rest, rfl, _, h⟩ := h
    have := h.len
    simp
    omega
theorem OpCells.one : ∀ {l : List OpD} {cs : List Value}, OpCells w G l cs → ∀ u ∈ cs, u.oneCell' = true
  | [], cs, h, u, hu => by rw [show cs = [] from h] at hu; cases hu
  | o :: l, cs, h, u, hu => by
    obtain ⟨bv, tv, rest, rfl, hv, h⟩ := h
    obtain ⟨A1, c1, rfl⟩ := hv.1.form
    obtain ⟨A2, c2, rfl⟩ := hv.2.form
    simp only [List.mem_cons] at hu
    rcases hu with rfl | rfl | rfl | rfl | hu
    · rfl
    · rfl
    · rfl
    · rfl
    · exact h.one u hu
theorem OpCells.append : ∀ {l : List OpD} {cs : List Value} {m : List OpD} {ds : List Value}, OpCells w G l cs → OpCells w G m ds → OpCells w G (l ++ m) (cs ++ ds)
  | [], cs, m, ds, h, k => by rw [show cs = [] from h]; exact k
  | o :: l, cs, m, ds, h, k => by
    obtain ⟨bv, tv, rest, rfl, hv, h⟩ := h
    exact ⟨bv, tv, rest ++ ds, rfl, hv, h.append k⟩
theorem OpCells.keeps {S : Nat → Prop} (hk : Keeps S w w') (hS : ∀ b, G b → b < w.heap.size → ¬ S b) : ∀ {l : List OpD} {cs : List Value}, OpCells w G l cs → OpCells w' G l cs
  | [], _, h => h
  | o :: l, cs, h => by
    obtain ⟨bv, tv, rest, rfl, hv, h⟩ := h
    exact ⟨bv, tv, rest, rfl, hv.keeps hk hS, OpCells.keeps hk hS h⟩
theorem OpCells.at_ : ∀ {l : List OpD} {cs : List Value}, OpCells w G l cs → ∀ {k : Nat} {x : OpD}, l[k]? = some x →
    ∃ bv tv, cs[k * 4]? = some (.int .u8 x.kind) ∧ cs[k * 4 + 1]? = some (.int .i64 x.i) ∧ cs[k * 4 + 2]? = some bv ∧ cs[k * 4 + 3]? = some tv ∧ OpVals w G bv tv x
  | [], _, _, k, x, hx => by simp at hx
  | o :: l, cs, h, k, x, hx => by
    obtain ⟨bv, tv, rest, rfl, hv, h⟩ := h
    cases k with
    | zero =>
      simp at hx
      subst hx
      exact ⟨bv, tv, rfl, rfl, rfl, rfl, hv⟩
    | succ k =>
      simp at hx
      obtain ⟨bv', tv', h0, h1, h2, h3, h4⟩ := h.at_ hx
      have e : (k + 1) * 4 = k * 4 + 4 := by omega
      refine ⟨bv', tv', ?_, ?_, ?_, ?_, h4⟩ <;> rw [e]
      · exact h0
      · exact h1
      · exact h2
      · exact h3
theorem cells_of : ∀ {l : List OpD} {b o : Nat}, (∀ (k : Nat) (x : OpD), l[k]? = some x → w.cell? ⟨b, o + k * 4, none⟩ = some (.int .u8 x.kind) ∧ w.cell? ⟨b, o + k * 4 + 1, none⟩ = some (.int .i64 x.i) ∧
    ∃ bv tv, w.cell? ⟨b, o + k * 4 + 2, none⟩ = some bv ∧ w.cell? ⟨b, o + k * 4 + 3, none⟩ = some tv ∧ OpVals w G bv tv x) →
    ∃ news, OpCells w G l news ∧ ∀ j u, news[j]? = some u → w.cell? ⟨b, o + j, none⟩ = some u
  | [], b, o, h => ⟨[], rfl, fun j u hu => by simp at hu⟩
  | x :: l, b, o, h => by
    obtain ⟨h0, h1, bv, tv, h2, h3, hv⟩ := h 0 x rfl
    obtain ⟨news, hn, hc⟩ := cells_of (l := l) (b := b) (o := o + 4) (fun k y hy => by
      have := h (k + 1) y (by simpa using hy)
      have e : o + (k + 1) * 4 = o + 4 + k * 4 := by omega
      rw [e] at this
      exact this)
    refine ⟨_, ⟨bv, tv, news, rfl, hv, hn⟩, fun j u hu => ?_⟩
    match j, hu with
    | 0, hu => simp at hu; subst hu; simpa using h0
    | 1, hu => simp at hu; subst hu; simpa using h1
    | 2, hu => simp at hu; subst hu; simpa using h2
    | 3, hu => simp at hu; subst hu; simpa using h3
    | j + 4, hu =>
      have := hc j u (by simpa using hu)
      rw [show o + (j + 4) = o + 4 + j by omega]
      exact this
end

/-- operations in a row of the call's own -/
def OwnOps (w : World) (base : Nat) (G : Nat → Prop) (v : Value) (l : List OpD) : Prop := ∃ cs, w.ownsRow base 36 4 v l.length cs ∧ OpCells w G l cs

theorem own_base {w : World} {base e size n : Nat} {v : Value} {xs : List Value} (h : w.ownsRow base e size v n xs) {g : Nat} (hg : v.ownBlock = some g) : base ≤ g := by
  rcases h.2 with ⟨rfl, _⟩ | ⟨g', cap, cur, rfl, hb, _⟩
  · simp [Value.ownBlock] at hg
  · simp [Value.ownBlock] at hg
    omega
theorem OwnOps.keeps {w w' : World} {base : Nat} {G : Nat → Prop} {v : Value} {l : List OpD} (h : OwnOps w base G v l) (hk : Keeps No w w') : OwnOps w' base G v l := by
  obtain ⟨cs, h1, h2⟩ := h
  exact ⟨cs, ownsRow_of_eq h1 (fun g hg => hk.block g (own_lt h1 hg) (fun h => h)), h2.keeps hk (fun _ _ _ h => h)⟩
theorem OwnOps.ops {w : World} {base : Nat} {G : Nat → Prop} {v : Value} {l : List OpD} (h : OwnOps w base G v l) : OpsAt w (fun _ => True) v l := by
  obtain ⟨cs, h1, h2⟩ := h
  have hx := h1
  rcases h1.2 with ⟨rfl, h0⟩ | ⟨g, cap, cur, rfl, hg, hh, hn, _⟩
  · have : l = [] := List.eq_nil_of_length_eq_zero h0
    subst this
    exact ⟨none, 0, rfl, Nat.le_refl _, fun h => absurd h (by simp)⟩
  · refine ⟨_, _, rfl, hn, fun _ => ⟨g, 0, rfl, trivial, fun k x hk => ?_⟩⟩
    obtain ⟨bv, tv, e0, e1, e2, e3, hv⟩ := h2.at_ hk
    have cell : ∀ j u, cs[j]? = some u → w.cell? ⟨g, 0 + j, none⟩ = some u := fun j u hu => by
      have := hx.cells (g := g) rfl j u hu
      rw [Go.WideShapes.add_plain] at this
      exact this
    exact ⟨cell _ _ e0, cell _ _ e1, bv, tv, cell _ _ e2, cell _ _ e3, hv.1.mono fun _ _ => trivial, by
      obtain ⟨A, c, rfl, hc, ht⟩ := hv.2
      refine ⟨A, c, rfl, hc, fun h0 => ?_⟩
      obtain ⟨b, o, rfl, _, hcs⟩ := ht h0
      refine ⟨b, o, rfl, trivial, fun j hj => ?_⟩
      obtain ⟨h3, u, h4, h5⟩ := hcs j hj
      exact ⟨h3, u, h4, h5.mono fun _ _ => trivial⟩⟩

theorem info36 : (Try.prog.info? 36).map (fun i => (i.zero, i.size, i.bytes)) = some (some (.agg #[.int .u8 0, .int .i64 0, .slice none 0 0, .slice none 0 0]), 4, 64) := by kernel_rfl

/-- operations that can be read -/
def Src (w : World) (G : Nat → Prop) (u : Value) (l : List OpD) : Prop := ∃ A c, u = .slice A l.length c ∧ (0 < l.length → ∃ b o, A = some ⟨b, o, none⟩ ∧ ∃ news, OpCells w G l news ∧ ∀ j u, news[j]? = some u → w.cell? ⟨b, o + j, none⟩ = some u)
theorem OpsAt.src {w : World} {G : Nat → Prop} {u : Value} {l : List OpD} (h : OpsAt w G u l) : Src w G u l := by
  obtain ⟨A, c, rfl, hc, hcell⟩ := h
  refine ⟨A, c, rfl, fun h0 => ?_⟩
  obtain ⟨b, o, rfl, _, hx⟩ := hcell h0
  exact ⟨b, o, rfl, cells_of hx⟩
theorem src_one {w : World} {G : Nat → Prop} {g : Nat} {o : OpD} {bv tv : Value} (hb : w.heap[g]? = some (.cells #[.int .u8 o.kind, .int .i64 o.i, bv, tv] 36 (0, 0))) (hv : OpVals w G bv tv o) : Src w G (.slice (some ⟨g, 0, none⟩) 1 1) [o] := by
  refine ⟨_, _, rfl, fun _ => ⟨g, 0, rfl, _, ⟨bv, tv, [], rfl, hv, rfl⟩, fun j u hu => ?_⟩⟩
  have := World.news_of_block hb j u (by simpa using hu)
  rw [Go.WideShapes.add_plain] at this
  exact this

theorem append_ops (w : World) (base ty : Nat) (G : Nat → Prop) (v : Value) (xs : List OpD) (hown : OwnOps w base G v xs) (u : Value) (l : List OpD) (hu : Src w G u l) (hlen : (xs.length + l.length) * 64 ≤ 140737488355328) (hbase : base ≤ w.heap.size) (hG : ∀ b, G b → b < base) :
    ∃ v' w', (Builtin.append_ #[22, 22] ty #[v, u]).run Try.prog w = .ok v' w' ∧ OwnOps w' base G v' (xs ++ l) ∧ w.grownBy w' v.ownBlock ∧ Keeps (fun b => base ≤ b) w w' := by
  obtain ⟨i0, hi, hz0, hz1, hz2⟩ := info_parts info36
  obtain ⟨cs, hrow, hcs⟩ := hown
  obtain ⟨A, c, rfl, hcell⟩ := hu
  have fin : ∀ v' w' (news : List Value), w'.ownsRow base 36 4 v' (xs.length + l.length) (cs ++ news) → w.grownBy w' v.ownBlock → OpCells w G l news → OwnOps w' base G v' (xs ++ l) ∧ w.grownBy w' v.ownBlock ∧ Keeps (fun b => base ≤ b) w w' := by
    intro v' w' news h1 h2 h3
    have hk : Keeps (fun b => base ≤ b) w w' := (Keeps.of_grown h2).mono fun b hb => own_base hrow hb
    refine ⟨⟨cs ++ news, by rw [List.length_append]; exact h1, ?_⟩, h2, hk⟩
    exact (hcs.append h3).keeps hk (fun b hb _ hb' => by have := hG b hb; omega)
  rcases Nat.eq_zero_or_pos l.length with h0 | h0
  · have hb : l = [] := List.eq_nil_of_length_eq_zero h0
    subst hb
    cases A with
    | none =>
      refine ⟨v, w, ?_, fin v w [] (by simpa using hrow) (World.grownBy.refl w _) rfl⟩
      rcases hrow.2 with ⟨rfl, h⟩ | ⟨g, cap, cur, rfl, _, _, hnc, _⟩
      · simp [Builtin.append_, run_underlying Try.underlying22, sizeOf, typeInfo, hi, Builtin.lenOf, Builtin.firstCells]
      · simp [Builtin.append_, run_underlying Try.underlying22, sizeOf, typeInfo, hi, Builtin.lenOf, Builtin.firstCells, hnc, storeCells]
    | some ad =>
      obtain ⟨v', w', hr, h2, h3, _, h5⟩ := run_append_own_at (P := Try.prog) w base 22 ty 36 i0 _ 4 64 Try.underlying22 hi hz0 hz1 hz2 rfl (by omega) v _ _ hrow ad 0 c [] rfl (by simp) (by simp) (by unfold maxLen; omega) (by simpa using hlen) hbase
      exact ⟨v', w', hr, fin v' w' [] (by simpa using h2) h3 rfl⟩
  · obtain ⟨b, o, rfl, news, hn, hnc⟩ := hcell h0
    obtain ⟨v', w', hr, h2, h3, _, h5⟩ := run_append_own_at (P := Try.prog) w base 22 ty 36 i0 _ 4 64 Try.underlying22 hi hz0 hz1 hz2 rfl (by omega) v _ _ hrow ⟨b, o, none⟩ l.length c news hn.len (fun j u hu => by rw [Go.WideShapes.add_plain]; exact hnc j u hu) hn.one (by unfold maxLen; omega) hlen hbase
    exact ⟨v', w', hr, fin v' w' news h2 h3 hn⟩

/-- the first append of two: onto nothing -/
def Joined (w1 : World) (N : Nat) (g : Nat) (W : World) (l : List OpD) (v' : Value) (w' : World) : Prop :=
  OwnOps w' w1.heap.size (Lower N) v' l ∧ Keeps No w1 w' ∧ ∀ b, b < W.heap.size → b ≠ g → w'.heap[b]? = W.heap[b]?
theorem join1 {w1 W : World} {N : Nat} {g ty : Nat} {u : Value} {l : List OpD} (hN : N ≤ w1.heap.size) (hu : OpsAt w1 (Lower N) u l) (hlen : (l.length + 1) * 64 ≤ 140737488355328) (hg : w1.heap.size ≤ g) (hb : W.heap[g]? = some (.cells #[] 36 (0, 0))) (hk : Keeps No w1 W) :
    ∃ v' w', (Builtin.append_ #[22, 22] ty #[.slice (some ⟨g, 0, none⟩) 0 0, u]).run Try.prog W = .ok v' w' ∧ Joined w1 N g W l v' w' := by
  have hown : OwnOps W w1.heap.size (Lower N) (.slice (some ⟨g, 0, none⟩) 0 0) [] :=
    ⟨[], ⟨by simp, .inr ⟨g, 0, #[], rfl, hg, hb, Nat.le_refl _, Nat.zero_le _, rfl, rfl⟩⟩, rfl⟩
  obtain ⟨v', w', hr, h1, h2, h3⟩ := append_ops W w1.heap.size ty (Lower N) _ [] hown u l (hu.keeps hk (fun _ _ _ h => h)).src (by simp; omega) hk.size (fun b hb => Nat.lt_of_lt_of_le hb hN)
  exact ⟨v', w', hr, h1, hk.then h3 (fun b hb => .inr hb), fun b hb hne => h2.block b hb (by simp [Value.ownBlock]; omega)⟩
/-- the second one: an operation more -/
theorem join2 {w1 W : World} {N : Nat} {g ty : Nat} {v bv tv : Value} {l : List OpD} {o : OpD} (hN : N ≤ w1.heap.size) (hown : OwnOps W w1.heap.size (Lower N) v l) (hlen : (l.length + 1) * 64 ≤ 140737488355328) (hb : W.heap[g]? = some (.cells #[.int .u8 o.kind, .int .i64 o.i, bv, tv] 36 (0, 0))) (hk : Keeps No w1 W) (hv : OpVals w1 (Lower N) bv tv o) :
    ∃ v' w', (Builtin.append_ #[22, 22] ty #[v, .slice (some ⟨g, 0, none⟩) 1 1]).run Try.prog W = .ok v' w' ∧ OpsAt w' (fun _ => True) v' (l ++ [o]) ∧ Keeps No w1 w' := by
  obtain ⟨v', w', hr, h1, h2, h3⟩ := append_ops W w1.heap.size ty (Lower N) v l hown _ [o] (src_one hb (hv.keeps hk (fun _ _ _ h => h))) (by simpa using hlen) hk.size (fun b hb => Nat.lt_of_lt_of_le hb hN)
  exact ⟨v', w', hr, h1.ops, hk.then h3 (fun b hb => .inr hb)⟩

/-- append as one step of a region that draws -/
theorem step_append {P : Program} {ops : Array Oper} {o : Oper} {a : Act} {w : World} {K : Act → World → Prop} {Q : Exit → Act → World → Prop} {E : Prop}
    (hg : o.guard = none) (s x : Operand) (t : TypeId) (hop : o.op = Op.call { callee := Callee.builtin Builtin.append, args := #[s, x], argTypes := #[t, t] })
    (v u : Value) (hs : a.eval s = v) (hx : a.eval x = u) (R : Value → World → Prop) (hrun : ∃ v' w', (Builtin.append_ #[t, t] o.type #[v, u]).run P w = .ok v' w' ∧ R v' w')
    (hK : ∀ v' w', R v' w' → K (a.put o.dst v') w') :
    if Region.wanted o (yielded ops a.tmps) = true then Oper.wp P o a w K Q else E := by
  have hw : Region.wanted o (yielded ops a.tmps) = true := by simp [Region.wanted, hg]
  rw [if_pos hw]
  obtain ⟨v', w', hr, hR⟩ := hrun
  have := hK v' w' hR
  unfold Oper.wp
  simp [execOp, hop, resolve, invoke, builtin, hs, hx, hr, Result.andThen]
  exact this
end Go.Proofs.Ytconholnjhjhcaa
