/-
  WORDS FOR MEMORY, of no program: what a call may have changed; bytes that a slice holds; a block known whole.
-/
import Derived.Below
import Derived.Laws.OwnMore
import Derived.Deep.Draws
import Derived.Laws.Rows
import Derived.Maps.OwnSet
import Derived.Maps.Ext
import Derived.Lib.SlKeysI
import Derived.Lib.Hide
namespace Ks
open Go Go.RowKit

/-- w' comes of w: nothing has gone; what was there, and isn't of S, is as it was. -/
structure Keeps (S : Nat → Prop) (w w' : World) : Prop where
  os : w'.os = w.os
  tape : w'.tape = w.tape
  output : w'.output = w.output
  size : w.heap.size ≤ w'.heap.size
  block : ∀ k, k < w.heap.size → ¬ S k → w'.heap[k]? = w.heap[k]?

/-- nothing -/
def No : Nat → Prop := fun _ => False
/-- from a number on -/
def From (n : Nat) : Nat → Prop := fun b => n ≤ b
/-- both -/
def Or (F G : Nat → Prop) : Nat → Prop := fun b => F b ∨ G b

section
variable {S T : Nat → Prop} {w w' w'' : World}
theorem Keeps.refl (S : Nat → Prop) (w : World) : Keeps S w w := ⟨rfl, rfl, rfl, Nat.le_refl _, fun _ _ _ => rfl⟩
theorem Keeps.trans (h : Keeps S w w') (k : Keeps S w' w'') : Keeps S w w'' :=
  ⟨k.os.trans h.os, k.tape.trans h.tape, k.output.trans h.output, Nat.le_trans h.size k.size, fun i hi hs => (k.block i (Nat.lt_of_lt_of_le hi h.size) hs).trans (h.block i hi hs)⟩
/-- what the second one may change is of S, or new since the first began -/
theorem Keeps.then (h : Keeps S w w') (k : Keeps T w' w'') (hT : ∀ b, T b → S b ∨ w.heap.size ≤ b) : Keeps S w w'' :=
  ⟨k.os.trans h.os, k.tape.trans h.tape, k.output.trans h.output, Nat.le_trans h.size k.size, fun i hi hs => (k.block i (Nat.lt_of_lt_of_le hi h.size) (fun ht => by rcases hT i ht with h1 | h1; exact hs h1; omega)).trans (h.block i hi hs)⟩
theorem Keeps.mono (h : Keeps S w w') (hT : ∀ b, S b → T b) : Keeps T w w' := ⟨h.os, h.tape, h.output, h.size, fun k hk ht => h.block k hk (fun hs => ht (hT k hs))⟩
theorem Keeps.no (h : Keeps No w w') : Keeps T w w' := h.mono fun _ h => h.elim
theorem Keeps.of_drew (h : Keeps S w.drew w') : Keeps S w w' := ⟨h.os, h.tape, h.output, h.size, h.block⟩
theorem Keeps.drew (h : Keeps S w w') : Keeps S w w'.drew := ⟨h.os, h.tape, h.output, h.size, h.block⟩
theorem Keeps.drewN (h : Keeps S w w') (n : Nat) : Keeps S w (w'.drewN n) := ⟨h.os, h.tape, h.output, h.size, h.block⟩
theorem Keeps.alloc (h : Keeps S w w') (o : Obj) : Keeps S w (w'.alloc o) :=
  h.trans ⟨rfl, rfl, rfl, by simp, fun k hk _ => Below.heap_alloc _ _ _ hk⟩
theorem Keeps.set_ (h : Keeps S w w') {p : Addr} (hp : S p.block ∨ w.heap.size ≤ p.block) (u : Value) : Keeps S w (w'.setCell p u) :=
  h.then (T := fun b => b = p.block) ⟨rfl, rfl, rfl, by simp [World.setCell], fun k _ hk => Below.heap_setCell _ _ _ _ hk⟩ (fun b hb => by subst hb; exact hp)
theorem Keeps.of_grown {row : Option Nat} (h : w.grownBy w' row) : Keeps (fun b => row = some b) w w' := ⟨h.os, h.tape, h.output, h.size, fun k hk hs => h.block k hk (fun e => hs e.symm)⟩
theorem Keeps.grown {row : Option Nat} (h : Keeps S w w') (hg : w'.grownBy w'' row) (hr : ∀ b, row = some b → S b ∨ w.heap.size ≤ b) : Keeps S w w'' :=
  h.then (.of_grown hg) hr
theorem Keeps.of_below (h : Below w.heap.size w w') : Keeps No w w' := ⟨h.os, h.tape, h.output, h.size, fun k hk _ => h.block k hk⟩
theorem Keeps.below {N : Nat} (h : Keeps S w w') (hS : ∀ b, S b → N ≤ b) (hN : N ≤ w.heap.size) : Below N w w' :=
  ⟨h.os, h.tape, h.output, h.size, fun k hk => h.block k (by omega) (fun hs => by have := hS k hs; omega)⟩
theorem Keeps.cell (h : Keeps S w w') {b o : Nat} (hb : b < w.heap.size) (hs : ¬ S b) : w'.cell? ⟨b, o, none⟩ = w.cell? ⟨b, o, none⟩ :=
  World.cell?_of_block (w := w) (h.block b hb hs)
end

/-- a block that is known whole -/
def Blk (w : World) (g : Nat) (t : TypeId) (cs : Array Value) : Prop := w.heap[g]? = some (.cells cs t (0, 0))
section
variable {w w' : World} {g : Nat} {t : TypeId} {cs : Array Value}
theorem lt_of_heap {o : Obj} (h : w.heap[g]? = some o) : g < w.heap.size := (Array.getElem?_eq_some_iff.1 h).1
theorem Blk.lt (h : Blk w g t cs) : g < w.heap.size := lt_of_heap h
theorem Blk.cell (h : Blk w g t cs) (i : Nat) : w.cell? ⟨g, i, none⟩ = cs[i]? := cell_of_row w g i cs t (0, 0) h
theorem Blk.frozen (h : Blk w g t cs) (i : Nat) : w.frozen? ⟨g, i, none⟩ = false := by
  unfold Blk at h
  simp [World.frozen?, h]
theorem Blk.new (w : World) (t : TypeId) (cs : Array Value) : Blk (w.alloc (.cells cs t)) w.heap.size t cs := heap_alloc_new w _
theorem Blk.set_ (h : Blk w g t cs) (i : Nat) (u : Value) : Blk (w.setCell ⟨g, i, none⟩ u) g t (cs.setIfInBounds i u) := by
  unfold Blk at h ⊢
  simp [World.setCell, Array.getElem?_modify, h]
theorem Blk.of_eq (h : Blk w g t cs) (e : w'.heap[g]? = w.heap[g]?) : Blk w' g t cs := e.trans h
theorem Blk.ne_ {g' : Nat} {t' : TypeId} {cs' : Array Value} (h : Blk w g t cs) (h' : Blk w g' t' cs') (hne : t ≠ t') : g ≠ g' := by
  rintro rfl
  unfold Blk at h h'
  rw [h] at h'
  injection h' with h'
  injection h' with _ ht
  exact hne ht
end

/-- a slice of bytes: nil, or somewhere in blocks of F -/
def Bys (w : World) (F : Nat → Prop) (v : Value) (bs : List Int) : Prop :=
  ∃ A c, v = .slice A bs.length c ∧ bs.length ≤ c ∧ (0 < bs.length → ∃ b o, A = some ⟨b, o, none⟩ ∧ F b ∧ ∀ k, k < bs.length → w.cell? ⟨b, o + k, none⟩ = some (.int .u8 (bs.getD k 0)))

section
variable {w w' : World} {F G : Nat → Prop} {v : Value} {bs : List Int}
theorem Bys.nil (w : World) (F : Nat → Prop) : Bys w F (.slice none 0 0) [] := ⟨none, 0, rfl, Nat.le_refl _, fun h => absurd h (by simp)⟩
theorem Bys.form (h : Bys w F v bs) : ∃ A c, v = .slice A bs.length c := by
  obtain ⟨A, c, e, _⟩ := h
  exact ⟨A, c, e⟩
theorem Bys.keep (h : Bys w F v bs) (hk : ∀ b, F b → w'.heap[b]? = w.heap[b]?) : Bys w' F v bs := by
  obtain ⟨A, c, rfl, hc, h⟩ := h
  refine ⟨A, c, rfl, hc, fun h0 => ?_⟩
  obtain ⟨b, o, rfl, hF, hcell⟩ := h h0
  exact ⟨b, o, rfl, hF, fun k hk' => (World.cell?_of_block (w := w) (hk b hF)).trans (hcell k hk')⟩
theorem Bys.mono (h : Bys w F v bs) (hG : ∀ b, F b → G b) : Bys w G v bs := by
  obtain ⟨A, c, rfl, hc, h⟩ := h
  refine ⟨A, c, rfl, hc, fun h0 => ?_⟩
  obtain ⟨b, o, rfl, hF, hcell⟩ := h h0
  exact ⟨b, o, rfl, hG b hF, hcell⟩
theorem block_lt_of_cell {w : World} {b o : Nat} {v : Value} (h : w.cell? ⟨b, o, none⟩ = some v) : b < w.heap.size := World.block_lt_of_cell? w _ h
/-- the blocks of bytes are there -/
theorem Bys.there (h : Bys w F v bs) : Bys w (fun b => F b ∧ b < w.heap.size) v bs := by
  obtain ⟨A, c, rfl, hc, h⟩ := h
  refine ⟨A, c, rfl, hc, fun h0 => ?_⟩
  obtain ⟨b, o, rfl, hF, hcell⟩ := h h0
  exact ⟨b, o, rfl, ⟨hF, block_lt_of_cell (hcell 0 h0)⟩, hcell⟩
theorem Bys.keeps {S : Nat → Prop} (h : Bys w F v bs) (hk : Keeps S w w') (hS : ∀ b, F b → b < w.heap.size → ¬ S b) : Bys w' F v bs := by
  have := h.there.keep (w' := w') (fun b hb => hk.block b hb.2 (hS b hb.1 hb.2))
  exact this.mono fun b hb => hb.1
theorem Bys.of_own {base n : Nat} (h : w.ownsRow base 5 1 v n (bs.map (Value.int .u8))) : Bys w (fun b => base ≤ b ∧ v.ownBlock = some b) v bs := by
  have hl : bs.length = n := by have := h.1; simpa using this
  subst hl
  rcases h.2 with ⟨rfl, h0⟩ | ⟨g, cap, cur, rfl, hg, hh, h1, h2, h3, h4⟩
  · have : bs = [] := List.eq_nil_of_length_eq_zero h0
    subst this
    exact ⟨none, 0, rfl, Nat.le_refl _, fun h => absurd h (by simp)⟩
  · refine ⟨_, _, rfl, h1, fun h0 => ⟨g, 0, rfl, ⟨hg, rfl⟩, fun k hk => ?_⟩⟩
    have := h.cells (g := g) rfl k (.int .u8 (bs.getD k 0)) (by simp [List.getD, hk])
    rw [Go.WideShapes.add_plain] at this
    exact this

/-- blocks of F that hold bytes -/
def Byb (w : World) (F : Nat → Prop) : Nat → Prop := fun b => F b ∧ ∃ cs, w.heap[b]? = some (.cells cs 5 (0, 0))
/-- bytes in blocks of F that hold bytes -/
def Byt (w : World) (F : Nat → Prop) (v : Value) (bs : List Int) : Prop := Bys w (Byb w F) v bs
theorem Byb.keep {b : Nat} (h : Byb w F b) (he : w'.heap[b]? = w.heap[b]?) : Byb w' F b := by
  obtain ⟨h1, cs, h2⟩ := h
  exact ⟨h1, cs, he.trans h2⟩
theorem Byb.mono {b : Nat} (h : Byb w F b) (hG : ∀ b, F b → G b) : Byb w G b := ⟨hG b h.1, h.2⟩
theorem Byb.lt {b : Nat} (h : Byb w F b) : b < w.heap.size := by
  obtain ⟨_, cs, h2⟩ := h
  exact lt_of_heap h2
theorem Byt.keep (h : Byt w F v bs) (hk : ∀ b, Byb w F b → w'.heap[b]? = w.heap[b]?) : Byt w' F v bs := by
  obtain ⟨A, c, rfl, hc, h⟩ := h
  refine ⟨A, c, rfl, hc, fun h0 => ?_⟩
  obtain ⟨b, o, rfl, hF, hcell⟩ := h h0
  exact ⟨b, o, rfl, hF.keep (hk b hF), fun k hk' => (World.cell?_of_block (w := w) (hk b hF)).trans (hcell k hk')⟩
theorem Byt.keeps {S : Nat → Prop} (h : Byt w F v bs) (hk : Keeps S w w') (hS : ∀ b, Byb w F b → ¬ S b) : Byt w' F v bs :=
  h.keep fun b hb => hk.block b hb.lt (hS b hb)
theorem Byt.mono (h : Byt w F v bs) (hG : ∀ b, F b → G b) : Byt w G v bs := Bys.mono h fun _ hb => hb.mono hG
theorem Byt.bys (h : Byt w F v bs) : Bys w F v bs := Bys.mono h fun _ hb => hb.1
theorem Byt.of_own {base n : Nat} (h : w.ownsRow base 5 1 v n (bs.map (Value.int .u8))) : Byt w (fun b => base ≤ b ∧ v.ownBlock = some b) v bs := by
  obtain ⟨A, c, rfl, hc, hx⟩ := Bys.of_own h
  refine ⟨A, c, rfl, hc, fun h0 => ?_⟩
  obtain ⟨b, o, rfl, hF, hcell⟩ := hx h0
  refine ⟨b, o, rfl, ⟨hF, ?_⟩, hcell⟩
  rcases h.2 with ⟨h1, h2⟩ | ⟨g, cap, cur, h1, hg, hh, _⟩
  · cases h1
  · injection h1 with h1
    injection h1 with h1
    injection h1 with h1
    subst h1
    exact ⟨cur, hh⟩
end
end Ks
