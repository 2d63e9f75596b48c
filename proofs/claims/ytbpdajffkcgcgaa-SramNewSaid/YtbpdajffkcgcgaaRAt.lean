/-
  AN SRAM: as a value, and in memory: its block (the latch, its bytes' slice), and its bytes' block.
-/
import Derived.Test.YtbpdajffkcgcgaaBKeep
namespace Go.Proofs.Ytbpdajffkcgcgaa
open Go.RowKit
set_option maxRecDepth 20000

/-- an sram as a value -/
structure Ram where
  op : Bool
  data : List Int
namespace Ram
/-- the place that an address stands for -/
def at_ (s : Ram) (a : Int) : Nat := (max a 0).toNat % s.data.length
def write (s : Ram) (a v : Int) : Ram := if s.op = true then { s with data := s.data.set (s.at_ a) v } else s
def latch (s : Ram) (v : Int) : Ram := { s with op := v == 165 }
def tell (s : Ram) (a : Int) : Int := s.data.getD (s.at_ a) 0
structure Ok (s : Ram) : Prop where
  len : 1 ≤ s.data.length ∧ s.data.length ≤ 8192
  byte : ∀ v ∈ s.data, 0 ≤ v ∧ v ≤ 255
theorem at_lt {s : Ram} (h : s.Ok) (a : Int) : s.at_ a < s.data.length := Nat.mod_lt _ (by have := h.len; omega)
theorem getD_in {l : List Int} (h : ∀ v ∈ l, 0 ≤ v ∧ v ≤ 255) (i : Nat) : 0 ≤ l.getD i 0 ∧ l.getD i 0 ≤ 255 := by
  by_cases hi : i < l.length
  · exact h _ (by simp [List.getD, hi])
  · simp [List.getD, List.getElem?_eq_none (Nat.le_of_not_lt hi)]
theorem write_len (s : Ram) (a v : Int) : (s.write a v).data.length = s.data.length := by
  unfold write
  split <;> simp
theorem write_op (s : Ram) (a v : Int) : (s.write a v).op = s.op := by
  unfold write
  split <;> rfl
theorem Ok.write {s : Ram} (h : s.Ok) (a : Int) {v : Int} (hv : 0 ≤ v ∧ v ≤ 255) : (s.write a v).Ok := by
  refine ⟨by rw [write_len]; exact h.len, ?_⟩
  unfold Ram.write
  split
  · intro x hx
    rcases List.mem_or_eq_of_mem_set hx with h1 | h1
    · exact h.byte x h1
    · rw [h1]; exact hv
  · exact h.byte
theorem Ok.latch {s : Ram} (h : s.Ok) (v : Int) : (s.latch v).Ok := ⟨h.len, h.byte⟩
end Ram
abbrev ptrV (a : Nat) : Value := .pointer (some ⟨a, 0, none⟩)
def cellsOf (d cap : Nat) (s : Ram) : Array Value := #[.bool s.op, .slice (some ⟨d, 0, none⟩) s.data.length cap]
/-- a chip in block p, its bytes in block d -/
structure ChipAt (w : World) (p d cap : Nat) (s : Ram) : Prop where
  blk : Blk w p 32 (cellsOf d cap s)
  data : OwnK .u8 5 0 w (.slice (some ⟨d, 0, none⟩) s.data.length cap) s.data
  big : 1 ≤ s.data.length
/-- its blocks -/
def Its (p d : Nat) : Nat → Prop := fun b => b = p ∨ b = d
/-- what a call leaves -/
def Went (p d cap : Nat) (s : Ram) (w w' : World) : Prop := ChipAt w' p d cap s ∧ Keeps (Its p d) w w'
/-- a call without a result -/
def Did (p d cap : Nat) (s : Ram) (w : World) (e : Ending) (w' : World) : Prop := e = .returned (.tuple #[]) ∧ Went p d cap s w w'
section
variable {w w' w'' : World} {p d cap : Nat} {s s' : Ram} {S : Nat → Prop}
theorem OwnK.same {k : IntKind} {t base : Nat} {v : Value} {l : List Int} (h : OwnK k t base w v l) (he : ∀ g, v.ownBlock = some g → w'.heap[g]? = w.heap[g]?) : OwnK k t base w' v l := by
  refine ⟨h.1, ?_⟩
  rcases h.2 with ⟨rfl, h0⟩ | ⟨g, c, cur, rfl, hb, hg, r⟩
  · exact .inl ⟨rfl, h0⟩
  · exact .inr ⟨g, c, cur, rfl, hb, (he g rfl).trans hg, r⟩
/-- a row that is there lies in a block of its kind -/
theorem OwnK.block {k : IntKind} {t base : Nat} {v : Value} {l : List Int} (h : OwnK k t base w v l) {g : Nat} (hg : v.ownBlock = some g) : ∃ cur, Blk w g t cur := by
  rcases h.2 with ⟨rfl, h0⟩ | ⟨g', c, cur, rfl, hb, hh, hn, hm, hs, _⟩
  · simp [Value.ownBlock] at hg
  · simp [Value.ownBlock] at hg
    subst hg
    exact ⟨cur, hh⟩
theorem OwnK.at_ {k : IntKind} {t base g n c : Nat} {w : World} {l : List Int} (h : OwnK k t base w (.slice (some ⟨g, 0, none⟩) n c) l) (i : Nat) (hi : i < l.length) : w.cell? ⟨g, i, none⟩ = some (.int k (l.getD i 0)) ∧ w.frozen? ⟨g, i, none⟩ = false := by
  obtain ⟨A', c', e, _, hm⟩ := h.mine
  injection e with e1 e2 e3
  obtain ⟨b, e4, _, _, hc⟩ := hm.2 (by omega)
  rw [← e1] at e4
  injection e4 with e4
  injection e4 with e4
  subst e4
  exact hc i hi
theorem OwnK.put {k : IntKind} {t base d n c : Nat} {w : World} {l : List Int} (h : OwnK k t base w (.slice (some ⟨d, 0, none⟩) n c) l) (hn : n = l.length) (i : Nat) (v : Int) :
    OwnK k t base (w.setCell ⟨d, i, none⟩ (.int k v)) (.slice (some ⟨d, 0, none⟩) n c) (l.set i v) := by
  subst hn
  have := (World.ownsRow.stored (w := w) h i (.int k v)).1
  unfold OwnK
  rw [List.length_set, List.map_set]
  exact this
theorem ChipAt.d_lt (h : ChipAt w p d cap s) : d < w.heap.size := (h.data.lt rfl).2
theorem ChipAt.ne_ (h : ChipAt w p d cap s) : d ≠ p := by
  obtain ⟨cur, hc⟩ := h.data.block (g := d) rfl
  exact Blk.ne_ hc h.blk (by decide)
theorem ChipAt.keep (h : ChipAt w p d cap s) (hk : Keeps S w w') (hp : ¬ S p) (hd : ¬ S d) : ChipAt w' p d cap s :=
  { blk := h.blk.of_eq (hk.block p h.blk.lt hp), data := h.data.same fun g hg => by simp [Value.ownBlock] at hg; subst hg; exact hk.block _ h.d_lt hd, big := h.big }
theorem ChipAt.below (h : ChipAt w p d cap s) (hb : Below w.heap.size w w') : ChipAt w' p d cap s := h.keep (Keeps.of_below hb) (fun h => h) (fun h => h)
theorem ChipAt.lt (h : ChipAt w p d cap s) : p < w.heap.size ∧ d < w.heap.size := ⟨h.blk.lt, h.d_lt⟩
theorem ChipAt.went (h : ChipAt w p d cap s) : Went p d cap s w w := ⟨h, Keeps.refl _ _⟩
theorem Went.then_ (h : Went p d cap s w w') (k : Went p d cap s' w' w'') : Went p d cap s' w w'' := ⟨k.1, h.2.trans k.2⟩
theorem Went.calm (h : Went p d cap s w w') (hb : Below w'.heap.size w' w'') : Went p d cap s w w'' := ⟨h.1.below hb, h.2.trans (Keeps.of_below hb).no⟩
theorem Went.after (hb : Below w.heap.size w w') (h : Went p d cap s w' w'') : Went p d cap s w w'' := ⟨h.1, (Keeps.of_below hb).no.trans h.2⟩
theorem below_drew (w : World) : Below w.heap.size w w.drew := ⟨rfl, rfl, rfl, Nat.le_refl _, fun _ _ => rfl⟩
theorem Went.drew (h : Went p d cap s w w') : Went p d cap s w w'.drew := h.calm (below_drew _)
theorem Went.drewN (h : Went p d cap s w w') (n : Nat) : Went p d cap s w (w'.drewN n) := h.calm (below_drewN (Below.refl _ _) n)
theorem Went.far {N : Nat} (h : Went p d cap s w w') (hp : N ≤ p) (hd : N ≤ d) (hN : N ≤ w.heap.size) : Below N w w' :=
  h.2.below (fun b hb => by rcases hb with rfl | rfl <;> assumption) hN
/-- the latch is written -/
theorem ChipAt.latch (h : ChipAt w p d cap s) (v : Int) : Went p d cap (s.latch v) w (w.setCell ⟨p, 0, none⟩ (.bool (v == 165))) := by
  have hk : Keeps (fun b => b = p) w (w.setCell ⟨p, 0, none⟩ (.bool (v == 165))) := (Keeps.refl (fun b => b = p) w).set_ (p := ⟨p, 0, none⟩) (.inl rfl) _
  refine ⟨⟨h.blk.set_ 0 _, h.data.same fun g hg => ?_, h.big⟩, hk.mono fun b e => .inl e⟩
  simp [Value.ownBlock] at hg
  subst hg
  exact hk.block _ h.d_lt h.ne_
/-- a byte is written -/
theorem ChipAt.put (h : ChipAt w p d cap s) (i : Nat) (v : Int) : Went p d cap { s with data := s.data.set i v } w (w.setCell ⟨d, i, none⟩ (.int .u8 v)) := by
  have hk : Keeps (fun b => b = d) w (w.setCell ⟨d, i, none⟩ (.int .u8 v)) := (Keeps.refl (fun b => b = d) w).set_ (p := ⟨d, i, none⟩) (.inl rfl) _
  refine ⟨⟨?_, ?_, by simpa using h.big⟩, hk.mono fun b e => .inr e⟩
  · have := h.blk.of_eq (hk.block p h.blk.lt (fun e => h.ne_ e.symm))
    simpa [cellsOf] using this
  · have := h.data.put rfl i v
    simpa using this
end
end Go.Proofs.Ytbpdajffkcgcgaa
