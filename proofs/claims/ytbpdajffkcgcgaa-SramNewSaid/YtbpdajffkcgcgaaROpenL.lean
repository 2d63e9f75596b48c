/-
  OPERATIONS THAT CAME IN, AS THEY READ.
-/
import Derived.Test.YtbpdajffkcgcgaaBKeep
import Derived.OpenShut
import Derived.Deep.Slices
import Derived.Deep.Fields
import Derived.ChangeSame
namespace Go.Proofs.Ytbpdajffkcgcgaa
open Go.RowKit Go.ChangeShapes Go.WideShapes Go.Deep
set_option maxRecDepth 20000

abbrev IsInt (a : Int) : Prop := -9223372036854775808 ≤ a ∧ a ≤ 9223372036854775807
abbrev IsByte (v : Int) : Prop := 0 ≤ v ∧ v ≤ 255
/-- an operation -/
structure Opn where
  k : Int
  a : Int
  v : Int
  hk : IsByte k
  ha : IsInt a
  hv : IsByte v
def opE : Enc Opn := ⟨fun x => [.int .u8 x.k, .int .i64 x.a, .int .u8 x.v], 3, fun _ => rfl, fun x u hu => by simp at hu; rcases hu with rfl | rfl | rfl <;> rfl, by decide⟩
theorem cellsO : Try.prog.cellsOf 34 = 3 := by kernel_rfl
theorem spot_none {w : World} {a : Addr} {v : Value} (h : w.cell? a = some v) : a = ⟨a.block, a.off, none⟩ := by
  obtain ⟨b, o, s⟩ := a
  have hs : s = none := by simpa using World.cell?_spot h
  subst hs
  rfl
theorem cell_at {w : World} {a : Addr} {b o j : Nat} {v : Value} (ha : a = ⟨b, o, none⟩) (h : w.cell? (a.add j) = some v) : w.cell? ⟨b, o + j, none⟩ = some v := by
  subst ha
  rw [Go.WideShapes.add_plain] at h
  exact h
theorem add_two (a : Addr) (i j : Nat) : (a.add i).add j = a.add (i + j) := by
  unfold Addr.add
  by_cases hi : i = 0 <;> by_cases hj : j = 0 <;> simp [hi, hj, Nat.add_assoc]
section
variable {H : Type} {enc : TypeId × Value → H} {w : World} {base : Nat} {spare : Nat → Bool} {held : Bool} {fuel : Nat}
/-- a slice of what lies in E's cells -/
theorem open_many {α : Type} (E : Enc α) {ts te : TypeId} (hu : Try.prog.underlying ts = some (.slice te)) (hc : Try.prog.cellsOf te = E.size)
    (hel : ∀ {fuel : Nat} {cs : List Value} {x : DataW H × List MemPlace}, DataW.trod enc Try.prog w base spare held fuel te cs = some x → ∃ z : α, cs = E.cells z)
    {v : Value} {x : DataW H × List MemPlace} (h : DataW.trod enc Try.prog w base spare held fuel ts [v] = some x) : ∃ A n c l, v = .slice A n c ∧ Many E w w.heap.size A n l ∧ n ≤ c ∧ n ≤ maxLen := by
  rcases open_slice hu h with ⟨hcs, _⟩ | ⟨a, len, cap, m, n, D, Pl, hcs, _, hl, hm, hmm, _, hi⟩
  · simp at hcs
    subst hcs
    exact ⟨none, 0, 0, [], rfl, Many.nil _ _ _ _, Nat.le_refl _, Nat.zero_le _⟩
  · simp at hcs
    subst hcs
    have hlm : len ≤ m := by rw [hmm]; split <;> omega
    rw [hc] at hi
    have hall : ∀ i, i < len → ∃ z : α, ∀ j u, (E.cells z)[j]? = some u → w.cell? (a.add (i * E.size + j)) = some u := by
      intro i hil
      obtain ⟨cs', hcc, ht⟩ := hi i (by omega)
      obtain ⟨z, rfl⟩ := hel ht
      obtain ⟨_, _, hat⟩ := World.cells?_some hcc
      refine ⟨z, fun j u hj => ?_⟩
      have := hat j (by
        have := (List.getElem?_eq_some_iff.1 hj).1
        rwa [E.len] at this)
      rw [add_two] at this
      rw [this, hj]
    rcases Nat.eq_zero_or_pos len with h0 | h0
    · subst h0
      exact ⟨_, _, _, [], rfl, Many.nil _ _ _ _, hl, by omega⟩
    · obtain ⟨z0, hz0⟩ := hall 0 h0
      have hall' : ∀ i, ∃ z : α, i < len → ∀ j u, (E.cells z)[j]? = some u → w.cell? (a.add (i * E.size + j)) = some u := fun i => by
        by_cases hil : i < len
        · obtain ⟨z, hz⟩ := hall i hil
          exact ⟨z, fun _ => hz⟩
        · exact ⟨z0, fun h => absurd h hil⟩
      obtain ⟨f, hf⟩ := Classical.axiomOfChoice hall'
      have hp := E.pos
      have hu0 : ∃ u, (E.cells (f 0))[0]? = some u := ⟨(E.cells (f 0))[0]'(by rw [E.len]; exact hp), by simp [E.len, hp]⟩
      obtain ⟨u0, hu0⟩ := hu0
      have ha := spot_none (hf 0 h0 0 u0 hu0)
      simp only [Nat.zero_mul, Nat.add_zero] at ha
      have ha' : a = ⟨a.block, a.off, none⟩ := by simpa [Addr.add] using ha
      refine ⟨some a, len, cap, (List.range len).map f, rfl, ⟨by simp, fun _ => ⟨a.block, a.off, by rw [← ha'], ?_, fun i x hx j u hj => ?_⟩⟩, hl, by omega⟩
      · exact World.block_lt_of_cell? w ⟨a.block, a.off + (0 * E.size + 0), none⟩ (cell_at ha' (hf 0 h0 0 u0 hu0))
      · have hil : i < len := by
          have := (List.getElem?_eq_some_iff.1 hx).1
          simpa using this
        have hxf : x = f i := by simp [hil] at hx; exact hx.symm
        subst hxf
        rw [Nat.add_assoc]
        exact cell_at ha' (hf i hil j u hj)
theorem field_at {fs : Array Field} {n : Nat} {cs : List Value} {xs : List (DataW H × List MemPlace)} (hone : oneCellFields Try.prog fs = true)
    (hf : ∀ (i : Nat) (f : Field), fs[i]? = some f → DataW.trod enc Try.prog w base spare held n f.type ((cs.drop f.offset).take (Try.prog.cellsOf f.type)) = xs[i]?) (i : Nat) (f : Field) (hi : fs[i]? = some f) :
    DataW.trod enc Try.prog w base spare held n f.type ((cs.drop i).take 1) = xs[i]? := by
  obtain ⟨o, k⟩ := hone_of hone i f hi
  have := hf i f hi
  rw [o, k] at this
  exact this
theorem len_three {α : Type} : ∀ {l : List α}, l.length = 3 → ∃ a b c, l = [a, b, c]
  | [a, b, c], _ => ⟨a, b, c, rfl⟩
theorem open_one_int {k : IntKind} {t : TypeId} (hu : Try.prog.underlying t = some (.int k)) {cs : List Value} {x : DataW H × List MemPlace} (h : DataW.trod enc Try.prog w base spare held fuel t cs = some x) : ∃ z : Int, cs = [.int k z] ∧ (Lit.int k z).wf = true := by
  obtain ⟨z, h1, _, h3⟩ := DataW.trod_int hu h
  exact ⟨z, by simpa using h1, h3⟩
theorem open_opn {cs : List Value} {x : DataW H × List MemPlace} (h : DataW.trod enc Try.prog w base spare held fuel 34 cs = some x) : ∃ z : Opn, cs = opE.cells z := by
  obtain ⟨xs, n, _, _, hlen, hx, hf⟩ := DataW.trod_struct Try.underlying34 h
  rw [cellsO] at hlen
  have h0 : DataW.trod enc Try.prog w base spare held n 5 ((cs.drop 0).take 1) = xs[0]? := field_at (by kernel_rfl) hf 0 _ rfl
  have h1 : DataW.trod enc Try.prog w base spare held n 3 ((cs.drop 1).take 1) = xs[1]? := field_at (by kernel_rfl) hf 1 _ rfl
  have h2 : DataW.trod enc Try.prog w base spare held n 5 ((cs.drop 2).take 1) = xs[2]? := field_at (by kernel_rfl) hf 2 _ rfl
  obtain ⟨c0, c1, c2, rfl⟩ := len_three hlen
  obtain ⟨x0, x1, x2, rfl⟩ := len_three (show xs.length = 3 from hx)
  obtain ⟨k, hk, wk⟩ := open_one_int Try.underlying5 (show DataW.trod enc Try.prog w base spare held n 5 [c0] = some x0 from h0)
  obtain ⟨a, ha, wa⟩ := open_one_int Try.underlying3 (show DataW.trod enc Try.prog w base spare held n 3 [c1] = some x1 from h1)
  obtain ⟨b, hb, wb⟩ := open_one_int Try.underlying5 (show DataW.trod enc Try.prog w base spare held n 5 [c2] = some x2 from h2)
  simp only [List.cons.injEq, and_true] at hk ha hb
  exact ⟨⟨k, a, b, by simpa [Lit.wf, IntKind.min, IntKind.max, IntKind.signed, IntKind.bits] using wk, int_wf.1 wa, by simpa [Lit.wf, IntKind.min, IntKind.max, IntKind.signed, IntKind.bits] using wb⟩, by rw [hk, ha, hb]; rfl⟩
theorem open_opns {v : Value} {x : DataW H × List MemPlace} (h : DataW.trod enc Try.prog w base spare held fuel 23 [v] = some x) : ∃ A n c l, v = .slice A n c ∧ Many opE w w.heap.size A n l ∧ n ≤ c ∧ n ≤ maxLen :=
  open_many opE Try.underlying23 cellsO open_opn h
end
end Go.Proofs.Ytbpdajffkcgcgaa
