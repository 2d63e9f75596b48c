/-
  WHAT COMES IN, AS IT IS READ: bytes, tears.
-/
import Derived.Test.YthlemcnbebfliaaGreatDoorSFew
import Derived.OpenShut
import Derived.Deep.Slices
import Derived.Deep.Fields
import Derived.ChangeSame
namespace Go.Proofs.YthlemcnbebfliaaGreatDoor
open Ks Go.RowKit Go.ChangeShapes Go.WideShapes Go.Deep Dsk
set_option maxRecDepth 20000

theorem cells5 : Tryz.prog.cellsOf 5 = 1 := by kernel_rfl
theorem cells3 : Tryz.prog.cellsOf 3 = 1 := by kernel_rfl
theorem cells27 : Tryz.prog.cellsOf 33 = 1 := by kernel_rfl
theorem cells52 : Tryz.prog.cellsOf 42 = 1 := by kernel_rfl
theorem cells100 : Tryz.prog.cellsOf 82 = 2 := by kernel_rfl

theorem len_two {α : Type} : ∀ {l : List α}, l.length = 2 → ∃ a b, l = [a, b]
  | [a, b], _ => ⟨a, b, rfl⟩

/-- below a number -/
def Lower (n : Nat) : Nat → Prop := fun b => b < n

section
variable {H : Type} {enc : TypeId × Value → H} {w : World} {base : Nat} {spare : Nat → Bool} {held : Bool} {fuel : Nat}

theorem open_bytes {v : Value} {x : DataW H × List MemPlace} (h : DataW.trod enc Tryz.prog w base spare held fuel 33 [v] = some x) : ∃ bs, Bys w (Lower w.heap.size) v bs ∧ bs.length ≤ maxLen ∧ ∀ z ∈ bs, 0 ≤ z ∧ z ≤ 255 := by
  rcases open_ints Tryz.underlying33 Tryz.underlying5 cells5 h with ⟨hcs, _⟩ | ⟨a, l, c, zs, hcs, _, hl, hm, hz, _, hcell, hwz⟩
  · simp at hcs
    subst hcs
    exact ⟨[], Bys.nil _ _, Nat.zero_le _, by simp⟩
  · simp at hcs
    subst hcs
    have hlz : l ≤ zs.length := by rw [hz]; split <;> omega
    have htl : (zs.take l).length = l := by rw [List.length_take]; omega
    refine ⟨zs.take l, ⟨some a, c, by rw [htl], by rw [htl]; exact hl, fun h0 => ?_⟩, by rw [htl]; omega, fun z hzm => ?_⟩
    · rw [htl] at h0
      obtain ⟨b, o, rfl, hc⟩ := ints_at hcell (by omega)
      refine ⟨b, o, rfl, block_lt_of_cell (hc 0 (by omega)), fun k hk => ?_⟩
      rw [htl] at hk
      rw [hc k (by omega)]
      simp [List.getD, hk]
    · have := hwz z (List.mem_of_mem_take hzm)
      simpa [Lit.wf, IntKind.min, IntKind.max, IntKind.signed, IntKind.bits] using this

theorem spot_none {a : Addr} {v : Value} (h : w.cell? a = some v) : a = ⟨a.block, a.off, none⟩ := by
  obtain ⟨b, o, s⟩ := a
  have hs : s = none := by simpa using World.cell?_spot h
  subst hs
  rfl
theorem cell_at {a : Addr} {b o j : Nat} {v : Value} (ha : a = ⟨b, o, none⟩) (h : w.cell? (a.add j) = some v) : w.cell? ⟨b, o + j, none⟩ = some v := by
  subst ha
  rw [Go.WideShapes.add_plain] at h
  exact h
theorem add_two (a : Addr) (i j : Nat) : (a.add i).add j = a.add (i + j) := by
  unfold Addr.add
  by_cases hi : i = 0 <;> by_cases hj : j = 0 <;> simp [hi, hj, Nat.add_assoc]

theorem field_at {fs : Array Field} {n : Nat} {cs : List Value} {xs : List (DataW H × List MemPlace)} (hone : oneCellFields Tryz.prog fs = true)
    (hf : ∀ (i : Nat) (f : Field), fs[i]? = some f → DataW.trod enc Tryz.prog w base spare held n f.type ((cs.drop f.offset).take (Tryz.prog.cellsOf f.type)) = xs[i]?) (i : Nat) (f : Field) (hi : fs[i]? = some f) :
    DataW.trod enc Tryz.prog w base spare held n f.type ((cs.drop i).take 1) = xs[i]? := by
  obtain ⟨o, k⟩ := hone_of hone i f hi
  have := hf i f hi
  rw [o, k] at this
  exact this

/-- one tear -/
theorem open_tear {cs : List Value} {x : DataW H × List MemPlace} (h : DataW.trod enc Tryz.prog w base spare held fuel 82 cs = some x) :
    ∃ (k : Int) (tv : Value) (bs : List Int), cs = [.int .i64 k, tv] ∧ Bys w (Lower w.heap.size) tv bs ∧ bs.length ≤ maxLen ∧ ∀ z ∈ bs, 0 ≤ z ∧ z ≤ 255 := by
  obtain ⟨xs, n, _, _, hlen, hx, hf⟩ := DataW.trod_struct Tryz.underlying82 h
  rw [cells100] at hlen
  have h0 : DataW.trod enc Tryz.prog w base spare held n 3 ((cs.drop 0).take 1) = xs[0]? := field_at (by kernel_rfl) hf 0 _ rfl
  have h1 : DataW.trod enc Tryz.prog w base spare held n 33 ((cs.drop 1).take 1) = xs[1]? := field_at (by kernel_rfl) hf 1 _ rfl
  obtain ⟨c0, c1, rfl⟩ := len_two hlen
  obtain ⟨x0, x1, rfl⟩ := len_two (show xs.length = 2 from hx)
  have h0 : DataW.trod enc Tryz.prog w base spare held n 3 [c0] = some x0 := h0
  have h1 : DataW.trod enc Tryz.prog w base spare held n 33 [c1] = some x1 := h1
  obtain ⟨k, hk, _, _⟩ := DataW.trod_int Tryz.underlying3 h0
  obtain ⟨bs, hb, hl, h8⟩ := open_bytes h1
  injection hk with hk _
  exact ⟨k, c1, bs, by rw [hk], hb, hl, h8⟩

theorem open_tears {v : Value} {x : DataW H × List MemPlace} (h : DataW.trod enc Tryz.prog w base spare held fuel 42 [v] = some x) :
    ∃ ts, Tears w (Lower w.heap.size) v ts ∧ ts.length ≤ maxLen ∧ ∀ t ∈ ts, t.2.length ≤ maxLen ∧ ∀ z ∈ t.2, 0 ≤ z ∧ z ≤ 255 := by
  rcases open_slice Tryz.underlying42 h with ⟨hcs, _⟩ | ⟨a, len, cap, m, n, D, Pl, hcs, _, hl, hm, hmm, _, hi⟩
  · simp at hcs
    subst hcs
    exact ⟨[], ⟨none, 0, rfl, Nat.le_refl _, fun h => absurd h (by simp)⟩, Nat.zero_le _, by simp⟩
  · simp at hcs
    subst hcs
    have hlm : len ≤ m := by rw [hmm]; split <;> omega
    rw [cells100] at hi
    have hall : ∀ i, ∃ t : Int × List Int, i < len → (t.2.length ≤ maxLen ∧ ∀ z ∈ t.2, 0 ≤ z ∧ z ≤ 255) ∧ w.cell? (a.add (i * 2)) = some (.int .i64 t.1) ∧ ∃ tv, w.cell? (a.add (i * 2 + 1)) = some tv ∧ Bys w (Lower w.heap.size) tv t.2 := by
      intro i
      by_cases hil : i < len
      · obtain ⟨cs', hc, ht⟩ := hi i (by omega)
        obtain ⟨k, tv, bs, rfl, hb, hbl, hb8⟩ := open_tear ht
        obtain ⟨_, _, hat⟩ := World.cells?_some hc
        refine ⟨(k, bs), fun _ => ⟨⟨hbl, hb8⟩, ?_, tv, ?_, hb⟩⟩
        · have := hat 0 (by omega)
          rw [add_two] at this
          simpa using this
        · have := hat 1 (by omega)
          rw [add_two] at this
          simpa using this
      · exact ⟨(0, []), fun h => absurd h hil⟩
    obtain ⟨f, hf⟩ := Classical.axiomOfChoice hall
    have hlen : ((List.range len).map f).length = len := by simp
    have hget : ∀ k, k < len → ((List.range len).map f).getD k (0, []) = f k := fun k hk => by simp [List.getD, hk]
    refine ⟨(List.range len).map f, ⟨some a, cap, by rw [hlen], by rw [hlen]; exact hl, fun h0 => ?_⟩, by rw [hlen]; omega, fun t ht => ?_⟩
    · rw [hlen] at h0
      have ha := spot_none (hf 0 h0).2.1
      simp only [Nat.zero_mul] at ha
      have ha' : a = ⟨a.block, a.off, none⟩ := by simpa [Addr.add] using ha
      refine ⟨a.block, a.off, by rw [← ha'], ?_, fun k hk => ?_⟩
      · exact Ks.block_lt_of_cell (b := a.block) (o := a.off + 0 * 2) (cell_at ha' (hf 0 h0).2.1)
      · rw [hlen] at hk
        rw [hget k hk]
        obtain ⟨_, h1, tv, h2, h3⟩ := hf k hk
        exact ⟨cell_at ha' h1, tv, by have := cell_at ha' h2; rwa [← Nat.add_assoc] at this, h3⟩
    · obtain ⟨i, hi', rfl⟩ := List.mem_map.1 ht
      exact (hf i (List.mem_range.1 hi')).1
end
end Go.Proofs.YthlemcnbebfliaaGreatDoor
