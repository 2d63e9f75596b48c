/-
  A FLASH IN MEMORY: its block, its bytes' block, and the closures of a sequence's next step.
-/
import Derived.Test.YtojdbmkbcjaikaaFMath
import Derived.Test.YtojdbmkbcjaikaaBKeep
namespace Go.Proofs.Ytojdbmkbcjaikaa
open Go.RowKit
set_option maxRecDepth 20000

abbrev ptrV (a : Nat) : Value := .pointer (some ⟨a, 0, none⟩)
abbrev cmdV : Value := .func (.func 51) #[] #[]
abbrev progV : Value := .func (.func 59) #[] #[]
abbrev eraseV : Value := .func (.func 60) #[] #[]
abbrev exactV (a b c : Nat) : Value := .func (.func 62) #[] #[ptrV a, ptrV b, ptrV c]
/-- a step that goes on with one write alone -/
def Exact (w : World) (low val : Int) (P : Value → Prop) (V : Value) : Prop :=
  ∃ a b c V', V = exactV a b c ∧ Blk w a 5 #[.int .u8 low] ∧ Blk w b 5 #[.int .u8 val] ∧ Blk w c 65 #[V'] ∧ P V'
def KeyOf (w : World) (B V : Value) : Prop := Exact w 85 170 (Exact w 170 85 (· = B)) V
def StepAt (w : World) (k : Nat) (V : Value) : Prop :=
  if k = 0 then KeyOf w cmdV V else if k = 1 then Exact w 170 85 (· = cmdV) V else if k = 2 then V = cmdV else if k = 3 then V = progV
  else if k = 4 then KeyOf w eraseV V else if k = 5 then Exact w 170 85 (· = eraseV) V else V = eraseV
/-- blocks that no closure's cells lie in -/
def Plain (w : World) (S : Nat → Prop) : Prop := ∀ b, S b → ∀ x : Value, ¬ Blk w b 5 #[x] ∧ ¬ Blk w b 65 #[x]
section
variable {w w' : World} {S : Nat → Prop} {low val : Int} {P Q : Value → Prop} {V B : Value}
theorem Exact.keep (h : Exact w low val P V) (hk : Keeps S w w') (hS : Plain w S) (hP : ∀ v, P v → Q v) : Exact w' low val Q V := by
  obtain ⟨a, b, c, V', e, h1, h2, h3, h4⟩ := h
  exact ⟨a, b, c, V', e, h1.of_eq (hk.block a h1.lt fun hs => (hS a hs _).1 h1), h2.of_eq (hk.block b h2.lt fun hs => (hS b hs _).1 h2), h3.of_eq (hk.block c h3.lt fun hs => (hS c hs _).2 h3), hP _ h4⟩
theorem KeyOf.keep (h : KeyOf w B V) (hk : Keeps S w w') (hS : Plain w S) : KeyOf w' B V := Exact.keep h hk hS fun _ hv => Exact.keep hv hk hS fun _ h => h
theorem StepAt.keep {k : Nat} (h : StepAt w k V) (hk : Keeps S w w') (hS : Plain w S) : StepAt w' k V := by
  unfold StepAt at h ⊢
  by_cases h0 : k = 0
  · rw [if_pos h0] at h ⊢; exact KeyOf.keep h hk hS
  rw [if_neg h0] at h ⊢
  by_cases h1 : k = 1
  · rw [if_pos h1] at h ⊢; exact Exact.keep h hk hS fun _ h => h
  rw [if_neg h1] at h ⊢
  by_cases h2 : k = 2
  · rw [if_pos h2] at h ⊢; exact h
  rw [if_neg h2] at h ⊢
  by_cases h3 : k = 3
  · rw [if_pos h3] at h ⊢; exact h
  rw [if_neg h3] at h ⊢
  by_cases h4 : k = 4
  · rw [if_pos h4] at h ⊢; exact KeyOf.keep h hk hS
  rw [if_neg h4] at h ⊢
  by_cases h5 : k = 5
  · rw [if_pos h5] at h ⊢; exact Exact.keep h hk hS fun _ h => h
  rw [if_neg h5] at h ⊢
  exact h
end
/-- what a step may be -/
theorem StepAt.cases {w : World} {k : Nat} {V : Value} (h : StepAt w k V) (hk : k ≤ 6) :
    (k = 2 ∧ V = cmdV) ∨ (k = 3 ∧ V = progV) ∨ (k = 6 ∧ V = eraseV) ∨
    ((k = 0 ∨ k = 1 ∨ k = 4 ∨ k = 5) ∧ ∃ x y z fn fi cs, V = exactV x y z ∧ Blk w x 5 #[.int .u8 (Flash.lowOf k)] ∧ Blk w y 5 #[.int .u8 (Flash.valOf k)] ∧ Blk w z 65 #[.func fn fi cs] ∧ StepAt w (k + 1) (.func fn fi cs)) := by
  have : k = 0 ∨ k = 1 ∨ k = 2 ∨ k = 3 ∨ k = 4 ∨ k = 5 ∨ k = 6 := by omega
  rcases this with rfl | rfl | rfl | rfl | rfl | rfl | rfl
  · obtain ⟨x, y, z, V', e, h1, h2, h3, h4⟩ := (show KeyOf w cmdV V from h)
    obtain ⟨x', y', z', V'', e', _⟩ := id h4
    subst e'
    exact .inr (.inr (.inr ⟨.inl rfl, x, y, z, _, _, _, e, h1, h2, h3, h4⟩))
  · obtain ⟨x, y, z, V', e, h1, h2, h3, h4⟩ := (show Exact w 170 85 (· = cmdV) V from h)
    subst h4
    exact .inr (.inr (.inr ⟨.inr (.inl rfl), x, y, z, _, _, _, e, h1, h2, h3, rfl⟩))
  · exact .inl ⟨rfl, h⟩
  · exact .inr (.inl ⟨rfl, h⟩)
  · obtain ⟨x, y, z, V', e, h1, h2, h3, h4⟩ := (show KeyOf w eraseV V from h)
    obtain ⟨x', y', z', V'', e', _⟩ := id h4
    subst e'
    exact .inr (.inr (.inr ⟨.inr (.inr (.inl rfl)), x, y, z, _, _, _, e, h1, h2, h3, h4⟩))
  · obtain ⟨x, y, z, V', e, h1, h2, h3, h4⟩ := (show Exact w 170 85 (· = eraseV) V from h)
    subst h4
    exact .inr (.inr (.inr ⟨.inr (.inr (.inr rfl)), x, y, z, _, _, _, e, h1, h2, h3, rfl⟩))
  · exact .inr (.inr (.inl ⟨rfl, h⟩))
theorem StepAt.func {w : World} {k : Nat} {V : Value} (h : StepAt w k V) (hk : k ≤ 6) : ∃ fn fi cs, V = .func fn fi cs := by
  rcases h.cases hk with ⟨_, rfl⟩ | ⟨_, rfl⟩ | ⟨_, rfl⟩ | ⟨_, x, y, z, fn, fi, cs, rfl, _⟩
  · exact ⟨_, _, _, rfl⟩
  · exact ⟨_, _, _, rfl⟩
  · exact ⟨_, _, _, rfl⟩
  · exact ⟨_, _, _, rfl⟩
def cellsOf (d cap : Nat) (nx : Value) (s : Flash) : Array Value :=
  #[.slice (some ⟨d, 0, none⟩) s.data.length cap, nx, .bool s.named, .int .i64 s.left, .int .i64 s.wk, .int .i64 s.wf, .int .i64 s.wm, .int .u8 s.wv, .int .u8 s.turn]
/-- a chip in block p, its bytes in block d, nx its step -/
structure Held (w : World) (p d cap : Nat) (nx : Value) (s : Flash) : Prop where
  blk : Blk w p 68 (cellsOf d cap nx s)
  data : OwnK .u8 5 0 w (.slice (some ⟨d, 0, none⟩) s.data.length cap) s.data
  big : 2 ≤ s.data.length
def ChipAt (w : World) (p d cap : Nat) (s : Flash) : Prop := ∃ nx, Held w p d cap nx s ∧ StepAt w s.k nx
/-- its blocks -/
def Its (p d : Nat) : Nat → Prop := fun b => b = p ∨ b = d
/-- what a call leaves -/
def Went (p d cap : Nat) (s : Flash) (w w' : World) : Prop := ChipAt w' p d cap s ∧ Keeps (Its p d) w w'
/-- a call without a result -/
def Did (p d cap : Nat) (s : Flash) (w : World) (e : Ending) (w' : World) : Prop := e = .returned (.tuple #[]) ∧ Went p d cap s w w'
/-- a step answers the one behind it -/
def Nexts (p d cap : Nat) (nx : Value) (s : Flash) (w : World) (e : Ending) (w' : World) : Prop := ∃ V, e = .returned V ∧ StepAt w' s.k V ∧ Held w' p d cap nx s ∧ Keeps (Its p d) w w'
section
variable {w w' w'' : World} {p d cap : Nat} {nx nx' : Value} {s s' : Flash} {S : Nat → Prop}
theorem OwnK.same {k : IntKind} {t base : Nat} {v : Value} {l : List Int} (h : OwnK k t base w v l) (he : ∀ g, v.ownBlock = some g → w'.heap[g]? = w.heap[g]?) : OwnK k t base w' v l := by
  refine ⟨h.1, ?_⟩
  rcases h.2 with ⟨rfl, h0⟩ | ⟨g, c, cur, rfl, hb, hg, r⟩
  · exact .inl ⟨rfl, h0⟩
  · exact .inr ⟨g, c, cur, rfl, hb, (he g rfl).trans hg, r⟩
/-- a row of two numbers or more is no closure's cell -/
theorem OwnK.big {k : IntKind} {t base : Nat} {v : Value} {l : List Int} (h : OwnK k t base w v l) (hl : 2 ≤ l.length) {g : Nat} (hg : v.ownBlock = some g) : ∃ cur, Blk w g t cur ∧ 2 ≤ cur.size := by
  rcases h.2 with ⟨rfl, h0⟩ | ⟨g', c, cur, rfl, hb, hh, hn, hm, hs, _⟩
  · omega
  · simp [Value.ownBlock] at hg
    subst hg
    exact ⟨cur, hh, by rw [hs]; omega⟩
theorem row_plain {k : IntKind} {t base : Nat} {v : Value} {l : List Int} (h : OwnK k t base w v l) (hl : 2 ≤ l.length) : Plain w (fun b => v.ownBlock = some b) := by
  intro b hb x
  obtain ⟨cur, hc, hs⟩ := h.big hl hb
  unfold Blk at hc
  constructor <;>
  · intro h1
    unfold Blk at h1
    rw [hc] at h1
    injection h1 with h1
    injection h1 with h1
    rw [h1] at hs
    simp at hs
theorem Held.plain (h : Held w p d cap nx s) : Plain w (Its p d) := by
  intro b hb x
  rcases hb with rfl | rfl
  · exact ⟨fun h1 => Blk.ne_ h.blk h1 (by decide) rfl, fun h1 => Blk.ne_ h.blk h1 (by decide) rfl⟩
  · exact row_plain h.data h.big b rfl x
theorem Held.d_lt (h : Held w p d cap nx s) : d < w.heap.size := (h.data.lt rfl).2
theorem Held.ne_ (h : Held w p d cap nx s) : d ≠ p := by
  obtain ⟨cur, hc, _⟩ := h.data.big h.big (g := d) rfl
  exact Blk.ne_ hc h.blk (by decide)
theorem Held.keep (h : Held w p d cap nx s) (hk : Keeps S w w') (hp : ¬ S p) (hd : ¬ S d) : Held w' p d cap nx s :=
  { blk := h.blk.of_eq (hk.block p h.blk.lt hp), data := h.data.same fun g hg => by simp [Value.ownBlock] at hg; subst hg; exact hk.block _ h.d_lt hd, big := h.big }
theorem Held.below (h : Held w p d cap nx s) (hb : Below w.heap.size w w') : Held w' p d cap nx s := h.keep (Keeps.of_below hb) (fun h => h) (fun h => h)
theorem StepAt.below {k : Nat} {V : Value} (h : StepAt w k V) (hb : Below w.heap.size w w') : StepAt w' k V := h.keep (Keeps.of_below hb) fun _ h => h.elim
theorem ChipAt.keep (h : ChipAt w p d cap s) (hk : Keeps S w w') (hp : ¬ S p) (hd : ¬ S d) (hS : Plain w S) : ChipAt w' p d cap s := by
  obtain ⟨nx, h1, h2⟩ := h
  exact ⟨nx, h1.keep hk hp hd, h2.keep hk hS⟩
theorem ChipAt.below (h : ChipAt w p d cap s) (hb : Below w.heap.size w w') : ChipAt w' p d cap s := h.keep (Keeps.of_below hb) (fun h => h) (fun h => h) fun _ h => h.elim
theorem ChipAt.lt (h : ChipAt w p d cap s) : p < w.heap.size ∧ d < w.heap.size := by
  obtain ⟨nx, h1, _⟩ := h
  exact ⟨h1.blk.lt, h1.d_lt⟩
theorem ChipAt.plain (h : ChipAt w p d cap s) : Plain w (Its p d) := by
  obtain ⟨nx, h1, _⟩ := h
  exact h1.plain
theorem ChipAt.went (h : ChipAt w p d cap s) : Went p d cap s w w := ⟨h, Keeps.refl _ _⟩
theorem Went.then_ (h : Went p d cap s w w') (k : Went p d cap s' w' w'') : Went p d cap s' w w'' := ⟨k.1, h.2.trans k.2⟩
theorem Went.calm (h : Went p d cap s w w') (hb : Below w'.heap.size w' w'') : Went p d cap s w w'' := ⟨h.1.below hb, h.2.trans (Keeps.of_below hb).no⟩
theorem Went.after (hb : Below w.heap.size w w') (h : Went p d cap s w' w'') : Went p d cap s w w'' := ⟨h.1, (Keeps.of_below hb).no.trans h.2⟩
theorem below_drew (w : World) : Below w.heap.size w w.drew := ⟨rfl, rfl, rfl, Nat.le_refl _, fun _ _ => rfl⟩
theorem Went.drew (h : Went p d cap s w w') : Went p d cap s w w'.drew := h.calm (below_drew _)
/-- cells of the chip's own block are written, one behind the other -/
theorem Held.sets (h : Held w p d cap nx s) (xs : List (Nat × Value)) (hd : s'.data = s.data)
    (hcs : xs.foldl (fun cs x => cs.setIfInBounds x.1 x.2) (cellsOf d cap nx s) = cellsOf d cap nx' s') :
    Held (xs.foldl (fun w x => w.setCell ⟨p, x.1, none⟩ x.2) w) p d cap nx' s' ∧ Keeps (Its p d) w (xs.foldl (fun w x => w.setCell ⟨p, x.1, none⟩ x.2) w) := by
  have hx : ∀ (xs : List (Nat × Value)) (w1 : World) (cs : Array Value), Blk w1 p 68 cs → Keeps (fun b => b = p) w w1 →
      Blk (xs.foldl (fun w x => w.setCell ⟨p, x.1, none⟩ x.2) w1) p 68 (xs.foldl (fun cs x => cs.setIfInBounds x.1 x.2) cs) ∧ Keeps (fun b => b = p) w (xs.foldl (fun w x => w.setCell ⟨p, x.1, none⟩ x.2) w1) := by
    intro xs
    induction xs with
    | nil => exact fun w1 cs h1 h2 => ⟨h1, h2⟩
    | cons x xs ih => exact fun w1 cs h1 h2 => ih _ _ (h1.set_ x.1 x.2) (h2.set_ (p := ⟨p, x.1, none⟩) (.inl rfl) x.2)
  obtain ⟨hb, hk⟩ := hx xs w _ h.blk (Keeps.refl _ w)
  rw [hcs] at hb
  refine ⟨⟨hb, ?_, by rw [hd]; exact h.big⟩, hk.mono fun b e => .inl e⟩
  rw [hd]
  exact h.data.same fun g hg => by
    simp [Value.ownBlock] at hg
    subst hg
    exact hk.block _ h.d_lt h.ne_
end
end Go.Proofs.Ytojdbmkbcjaikaa
