/-
  BRIDGES between disk's words for memory and head's and image's; a disk of bytes within bounds; reads and writes in a row.
-/
import Derived.Test.YthlemcnbebfliaaGreatDoorHRest
import Derived.Test.YthlemcnbebfliaaGreatDoorILists
import Derived.Test.YthlemcnbebfliaaGreatDoorSSpan
import Derived.Test.YthlemcnbebfliaaGreatDoorDWrite
import Derived.Test.YthlemcnbebfliaaGreatDoorDRead
namespace Go.Proofs.YthlemcnbebfliaaGreatDoor
open Ks Go.RowKit
set_option maxRecDepth 20000

theorem tab_keeps {S : Nat → Prop} {w w' : World} (h : Tab w) (hk : Keeps S w w') (hS : ∀ b, S b → 2 ≤ b) : Tab w' :=
  tab_below h (hk.below (N := 2) hS (by have := tab_pos h; omega)) (by omega)
/-- bytes are bytes -/
def In8 (l : List Int) : Prop := ∀ v ∈ l, 0 ≤ v ∧ v ≤ 255
theorem bys_bytes {w : World} {F : Nat → Prop} {v : Value} {bs : List Int} {B : Nat} (h : Bys w F v bs) (hF : ∀ b, F b → b < w.heap.size → b < B) (h8 : In8 bs) : ∃ A c, v = .slice A bs.length c ∧ bs.length ≤ c ∧ Bytes w B A bs.length bs := by
  obtain ⟨A, c, rfl, hc, h⟩ := h
  refine ⟨A, c, rfl, hc, rfl, h8, fun h0 => ?_⟩
  obtain ⟨b, o, rfl, hFb, hcs⟩ := h h0
  exact ⟨b, o, rfl, hF b hFb (block_lt_of_cell (hcs 0 h0)), hcs⟩
theorem bys_of {w : World} {B n c : Nat} {A : Option Addr} {l : List Int} (h : Bytes w B A n l) (hc : n ≤ c) : Bys w (fun b => b < B) (.slice A n c) l := by
  obtain ⟨rfl, _, h⟩ := h
  refine ⟨A, c, rfl, hc, fun h0 => ?_⟩
  obtain ⟨b, o, rfl, hB, hcs⟩ := h h0
  exact ⟨b, o, rfl, hB, hcs⟩
theorem bys_row {w : World} {g n c : Nat} {l : List Int} (h : Row w g l) (hn : l.length = n) (hc : n ≤ c) : Bys w (fun b => b = g) (.slice (some ⟨g, 0, none⟩) n c) l := by
  subst hn
  exact ⟨_, c, rfl, hc, fun _ => ⟨g, 0, rfl, rfl, fun k hk => by rw [Nat.zero_add]; exact (h.cell k hk).1⟩⟩

/-- a disk of bytes, its counts at most m -/
structure Ok (m : Nat) (s : St) : Prop where
  l8 : ∀ l ∈ s.last, In8 l
  c8 : ∀ k bs, s.cach k = some bs → In8 bs
  ops : s.ops ≤ m
  wr : s.wr ≤ m
  cn : s.cn ≤ m
  pn : s.pn ≤ m
  len : s.last.length ≤ 4096
  size : s.size ≤ 4096
section
variable {m : Nat} {s : St}
theorem Ok.mono {m' : Nat} (h : Ok m s) (hm : m ≤ m') : Ok m' s := ⟨h.l8, h.c8, Nat.le_trans h.ops hm, Nat.le_trans h.wr hm, Nat.le_trans h.cn hm, Nat.le_trans h.pn hm, h.len, h.size⟩
theorem Ok.tick (h : Ok m s) : Ok (m + 1) s.tick := ⟨h.l8, h.c8, Nat.succ_le_succ h.ops, Nat.le_succ_of_le h.wr, Nat.le_succ_of_le h.cn, Nat.le_succ_of_le h.pn, h.len, h.size⟩
theorem Ok.put (h : Ok m s) (i : Int) (bs : List Int) (hb : In8 bs) : Ok (m + 1) (s.put i bs) := by
  refine ⟨h.l8, fun k x hx => ?_, Nat.succ_le_succ h.ops, Nat.succ_le_succ h.wr, Nat.succ_le_succ h.cn, Nat.le_succ_of_le h.pn, h.len, h.size⟩
  by_cases hk : k = i
  · have : (some bs : Option (List Int)) = some x := by rw [← hx]; simp [St.put, hk]
    cases this
    exact hb
  · exact h.c8 k x (by rw [← hx]; simp [St.put, hk])
theorem Ok.write (h : Ok m s) (i : Int) (bs : List Int) (hb : In8 bs) : Ok (m + 1) (s.write i bs).1 := by
  unfold St.write
  split
  · exact h.tick
  split
  · exact h.tick
  split
  · exact h.tick
  split
  · exact h.tick
  · exact h.put i bs hb
theorem Ok.last8 (h : Ok m s) (k : Nat) : In8 (s.last.getD k []) := by
  by_cases hk : k < s.last.length
  · simp only [List.getD, List.getElem?_eq_getElem hk, Option.getD_some]
    exact h.l8 _ (List.getElem_mem hk)
  · simp only [List.getD, List.getElem?_eq_none (Nat.le_of_not_lt hk), Option.getD_none]
    intro v hv
    cases hv
theorem Ok.read (h : Ok m s) (i : Int) : In8 (Dsk.St.read s i).1 := by
  unfold Dsk.St.read
  split
  · intro v hv; cases hv
  split
  · intro v hv; cases hv
  · cases hc : s.cach i with
    | none => exact h.last8 _
    | some bs => exact h.c8 i bs hc
end
theorem read_len {P : Program} {w : World} {p : Nat} {F : Nat → Prop} {s : St} (h : DiskAt P w p F s) (i : Int) (h0 : (Dsk.St.read s i).2 = 0) : (Dsk.St.read s i).1.length = s.size := by
  obtain ⟨_, _, _, _, _, h⟩ := h
  unfold Dsk.St.read at h0 ⊢
  split at h0
  · cases h0
  split at h0
  · cases h0
  rename_i h1 h2
  rw [if_neg h1, if_neg h2]
  cases hc : s.cach i with
  | none => exact h.lens i.toNat (by omega)
  | some bs => exact (h.keys i bs hc).2.2
theorem put_size (s : St) (i : Int) (bs : List Int) : (s.write i bs).1.size = s.size ∧ (s.write i bs).1.last = s.last := by
  unfold St.write
  split
  · exact ⟨rfl, rfl⟩
  split
  · exact ⟨rfl, rfl⟩
  split
  · exact ⟨rfl, rfl⟩
  split
  · exact ⟨rfl, rfl⟩
  · exact ⟨rfl, rfl⟩

/-- sectors read in a row, as far as no error is told -/
def loads (s : St) (i : Int) : Nat → St × List (List Int) × Int
  | 0 => (s, [], 0)
  | k + 1 => if (loads s i k).2.2 = 0 then ((loads s i k).1.tick, (loads s i k).2.1 ++ [(Dsk.St.read (loads s i k).1 (i + k)).1], (Dsk.St.read (loads s i k).1 (i + k)).2) else loads s i k
/-- sectors written in a row, as far as no error is told -/
def stores (s : St) (i : Int) (L : List (List Int)) : Nat → St × Int
  | 0 => (s, 0)
  | k + 1 => if (stores s i L k).2 = 0 then (stores s i L k).1.write (i + k) (L.getD k []) else stores s i L k
theorem loads_succ (s : St) (i : Int) (k : Nat) (h : (loads s i k).2.2 = 0) : loads s i (k + 1) = ((loads s i k).1.tick, (loads s i k).2.1 ++ [(Dsk.St.read (loads s i k).1 (i + k)).1], (Dsk.St.read (loads s i k).1 (i + k)).2) := by
  rw [loads, if_pos h]
theorem loads_stop (s : St) (i : Int) (k n : Nat) (h : (loads s i k).2.2 ≠ 0) (hn : k ≤ n) : loads s i n = loads s i k := by
  induction n with
  | zero => obtain rfl : k = 0 := by omega
            rfl
  | succ n ih =>
    by_cases hk : k = n + 1
    · rw [hk]
    · have := ih (by omega)
      rw [loads, this, if_neg h]
theorem stores_succ (s : St) (i : Int) (L : List (List Int)) (k : Nat) (h : (stores s i L k).2 = 0) : stores s i L (k + 1) = (stores s i L k).1.write (i + k) (L.getD k []) := by
  rw [stores, if_pos h]
theorem stores_stop (s : St) (i : Int) (L : List (List Int)) (k n : Nat) (h : (stores s i L k).2 ≠ 0) (hn : k ≤ n) : stores s i L n = stores s i L k := by
  induction n with
  | zero => obtain rfl : k = 0 := by omega
            rfl
  | succ n ih =>
    by_cases hk : k = n + 1
    · rw [hk]
    · have := ih (by omega)
      rw [stores, this, if_neg h]
theorem loads_ok {m : Nat} {s : St} (h : Ok m s) (i : Int) (k : Nat) : Ok (m + k) (loads s i k).1 ∧ (loads s i k).1.size = s.size ∧ (loads s i k).1.last = s.last ∧ (loads s i k).1.cach = s.cach := by
  induction k with
  | zero => exact ⟨h, rfl, rfl, rfl⟩
  | succ k ih =>
    rw [loads]
    split
    · exact ⟨ih.1.tick, ih.2.1, ih.2.2.1, ih.2.2.2⟩
    · exact ⟨ih.1.mono (by omega), ih.2⟩
theorem loads_len (s : St) (i : Int) (k : Nat) (h : (loads s i k).2.2 = 0) : (loads s i k).2.1.length = k := by
  induction k with
  | zero => rfl
  | succ k ih =>
    by_cases h0 : (loads s i k).2.2 = 0
    · rw [loads_succ s i k h0]
      simp [ih h0]
    · rw [loads_stop s i k (k + 1) h0 (by omega)] at h
      exact absurd h h0
theorem loads_in8 {m : Nat} {s : St} (h : Ok m s) (i : Int) (k : Nat) : ∀ l ∈ (loads s i k).2.1, In8 l := by
  induction k with
  | zero => intro l hl; cases hl
  | succ k ih =>
    rw [loads]
    split
    · intro l hl
      rcases List.mem_append.1 hl with h1 | h1
      · exact ih l h1
      · rw [List.mem_singleton.1 h1]
        exact (loads_ok h i k).1.read _
    · exact ih
theorem stores_ok {m : Nat} {s : St} (h : Ok m s) (i : Int) (L : List (List Int)) (hL : ∀ k, In8 (L.getD k [])) (k : Nat) : Ok (m + k) (stores s i L k).1 ∧ (stores s i L k).1.size = s.size ∧ (stores s i L k).1.last = s.last := by
  induction k with
  | zero => exact ⟨h, rfl, rfl⟩
  | succ k ih =>
    rw [stores]
    split
    · obtain ⟨h1, h2⟩ := put_size (stores s i L k).1 (i + k) (L.getD k [])
      exact ⟨ih.1.write _ _ (hL k), h1.trans ih.2.1, h2.trans ih.2.2⟩
    · exact ⟨ih.1.mono (by omega), ih.2⟩
end Go.Proofs.YthlemcnbebfliaaGreatDoor
