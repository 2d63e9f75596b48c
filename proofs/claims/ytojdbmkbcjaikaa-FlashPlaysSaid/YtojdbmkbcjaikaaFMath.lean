/-
  A FLASH AS A VALUE: what a write, a tick, a read does to it.
-/
import Derived.Test.YtojdbmkbcjaikaaCBits
namespace Go.Proofs.Ytojdbmkbcjaikaa
open Go.RowKit
set_option maxRecDepth 20000

/-- a chip: k tells which step of a sequence comes next (0 a KEY's first, 1 its second, 2 the command, 3 the byte that is programmed, 4 and 5 the second KEY, 6 what is erased); wk, wf, wm, wv: what it is busy with -/
structure Flash where
  data : List Int
  k : Nat
  named : Bool
  left : Int
  wk : Int
  wf : Int
  wm : Int
  wv : Int
  turn : Int
namespace Flash
def size (s : Flash) : Int := s.data.length
def place (s : Flash) (a : Int) : Int := max a 0 % s.size
def ends (s : Flash) (v : Int) : Flash := { s with k := 0, named := if v = 240 then false else s.named }
def busy (s : Flash) (t kind a many v : Int) : Flash := { s with k := 0, named := false, left := t, wk := kind, wf := a, wm := many, wv := v, turn := 0 }
def lowOf (k : Nat) : Int := if k = 0 ∨ k = 4 then 85 else 170
def valOf (k : Nat) : Int := if k = 0 ∨ k = 4 then 170 else 85
def exact (s : Flash) (a v : Int) : Flash := if a % 256 = lowOf s.k ∧ v = valOf s.k then { s with k := s.k + 1 } else s.ends v
def command (s : Flash) (a v : Int) : Flash :=
  if a % 256 = 85 then
    if v = 160 then { s with k := 3 } else if v = 128 then { s with k := 4 } else if v = 144 then { s with k := 0, named := true } else s.ends v
  else s.ends v
def erase (s : Flash) (a v : Int) : Flash :=
  if v = 48 then s.busy 100 2 (a - a % 256) 256 0
  else if v = 16 ∧ a % 256 = 85 then s.busy 200 2 0 s.size 0
  else s.ends v
/-- a write of an address of its own -/
def put (s : Flash) (a v : Int) : Flash :=
  if s.k = 2 then s.command a v else if s.k = 3 then s.busy 10 1 a 1 v else if s.k = 6 then s.erase a v else s.exact a v
def write (s : Flash) (a v : Int) : Flash := if s.left = 0 then s.put (s.place a) v else s
def upd (s : Flash) (x : Int) : Int := if s.wk = 1 then bits .and .u8 x s.wv else 255
/-- what waits, done of its first j places -/
def doneTo (s : Flash) (j : Nat) : List Int := (List.range s.data.length).map fun i : Nat => if s.wf ≤ (i : Int) ∧ (i : Int) < s.wf + j then s.upd (s.data.getD i 0) else s.data.getD i 0
def finish (s : Flash) : Flash := { s with data := s.doneTo s.wm.toNat, wk := 0, wf := 0, wm := 0, wv := 0 }
def tick (s : Flash) : Flash := if s.left = 0 then s else if s.left - 1 = 0 then ({ s with left := s.left - 1 } : Flash).finish else { s with left := s.left - 1 }
def status (s : Flash) : Int := if s.wk = 1 ∧ s.wv < 128 then s.turn + 128 else s.turn
def tell (s : Flash) (a : Int) : Int :=
  if 0 < s.left then s.status
  else if s.named then (if s.place a % 2 = 0 then 191 else s.size / 256)
  else s.data.getD (s.place a).toNat 0
def read (s : Flash) : Flash := if 0 < s.left then { s with turn := 64 - s.turn } else s

structure Ok (s : Flash) : Prop where
  size : ∃ m : Nat, 1 ≤ m ∧ m ≤ 64 ∧ s.data.length = 256 * m
  byte : ∀ v ∈ s.data, 0 ≤ v ∧ v ≤ 255
  k : s.k ≤ 6
  left : 0 ≤ s.left ∧ s.left ≤ 200
  rest : s.left = 0 → s.wk = 0 ∧ s.wf = 0 ∧ s.wm = 0 ∧ s.wv = 0
  works : 0 < s.left → (s.wk = 1 ∧ s.wm = 1 ∨ s.wk = 2 ∧ s.wv = 0) ∧ 0 ≤ s.wf ∧ 0 < s.wm ∧ s.wf + s.wm ≤ s.data.length
  val : 0 ≤ s.wv ∧ s.wv ≤ 255
  turn : s.turn = 0 ∨ s.turn = 64

section
variable {s : Flash}
theorem Ok.len (h : s.Ok) : 256 ≤ s.data.length ∧ s.data.length ≤ 16384 := by
  obtain ⟨m, h1, h2, h3⟩ := h.size
  omega
theorem Ok.place (h : s.Ok) (a : Int) : 0 ≤ s.place a ∧ s.place a < s.data.length := by
  have := h.len
  unfold Flash.place Flash.size
  exact ⟨Int.emod_nonneg _ (by omega), Int.emod_lt_of_pos _ (by omega)⟩
theorem Ok.ends (h : s.Ok) (v : Int) : (s.ends v).Ok := { h with k := Nat.zero_le _ }
theorem Ok.busy (h : s.Ok) {t kind a many v : Int} (ht : 0 < t ∧ t ≤ 200) (hk : kind = 1 ∧ many = 1 ∨ kind = 2 ∧ v = 0) (ha : 0 ≤ a) (hm : 0 < many) (hx : a + many ≤ s.data.length) (hv : 0 ≤ v ∧ v ≤ 255) : (s.busy t kind a many v).Ok :=
  { size := h.size, byte := h.byte, k := Nat.zero_le _, left := ⟨Int.le_of_lt ht.1, ht.2⟩, rest := fun e => by have : t = 0 := e; omega, works := fun _ => ⟨hk, ha, hm, hx⟩, val := hv, turn := .inl rfl }
theorem Ok.put (h : s.Ok) {a v : Int} (ha : 0 ≤ a ∧ a < s.data.length) (hv : 0 ≤ v ∧ v ≤ 255) : (s.put a v).Ok := by
  have hk := h.k
  obtain ⟨m, h1, h2, h3⟩ := h.size
  unfold Flash.put
  split
  · unfold command
    repeat' split
    all_goals first | exact h.ends v | exact { h with k := by show 3 ≤ 6; omega } | exact { h with k := by show 4 ≤ 6; omega } | exact { h with k := by show 0 ≤ 6; omega }
  · split
    · exact h.busy (by omega) (.inl ⟨rfl, rfl⟩) ha.1 (by omega) (by omega) hv
    · split
      · unfold erase
        split
        · exact h.busy (by omega) (.inr ⟨rfl, rfl⟩) (by omega) (by omega) (by omega) (by omega)
        · split
          · exact h.busy (by omega) (.inr ⟨rfl, rfl⟩) (by omega) (by unfold Flash.size; omega) (by unfold Flash.size; omega) (by omega)
          · exact h.ends v
      · unfold exact
        split
        · exact { h with k := by show s.k + 1 ≤ 6; omega }
        · exact h.ends v
theorem Ok.write (h : s.Ok) (a : Int) {v : Int} (hv : 0 ≤ v ∧ v ≤ 255) : (s.write a v).Ok := by
  unfold Flash.write
  split
  · exact h.put (h.place a) hv
  · exact h
theorem doneTo_len (s : Flash) (j : Nat) : (s.doneTo j).length = s.data.length := by simp [doneTo]
theorem doneTo_get (s : Flash) (j i : Nat) (h : i < s.data.length) : (s.doneTo j).getD i 0 = if s.wf ≤ (i : Int) ∧ (i : Int) < s.wf + j then s.upd (s.data.getD i 0) else s.data.getD i 0 := by
  simp [doneTo, List.getD, h]
theorem getD_in {l : List Int} (h : ∀ v ∈ l, 0 ≤ v ∧ v ≤ 255) (i : Nat) : 0 ≤ l.getD i 0 ∧ l.getD i 0 ≤ 255 := by
  by_cases hi : i < l.length
  · rw [show l.getD i 0 = l[i] by simp [List.getD, hi]]
    exact h _ (List.getElem_mem hi)
  · rw [show l.getD i 0 = 0 by simp [List.getD, Nat.le_of_not_lt hi]]
    omega
theorem Ok.upd (h : s.Ok) {x : Int} (hx : 0 ≤ x ∧ x ≤ 255) : 0 ≤ s.upd x ∧ s.upd x ≤ 255 := by
  unfold Flash.upd
  split
  · exact band_in hx h.val
  · omega
theorem Ok.doneTo_in (h : s.Ok) (j : Nat) : ∀ v ∈ s.doneTo j, 0 ≤ v ∧ v ≤ 255 := by
  intro v hv
  obtain ⟨i, _, rfl⟩ := List.mem_map.1 hv
  split
  · exact h.upd (getD_in h.byte _)
  · exact getD_in h.byte _
theorem doneTo_zero (s : Flash) : s.doneTo 0 = s.data := by
  refine ext_getD (doneTo_len s 0).symm fun j hj => ?_
  rw [doneTo_len] at hj
  rw [doneTo_get _ _ _ hj, if_neg (by omega)]
theorem doneTo_next (s : Flash) (f j : Nat) (hf : s.wf = f) (h : f + j < s.data.length) : (s.doneTo j).set (f + j) (s.upd ((s.doneTo j).getD (f + j) 0)) = s.doneTo (j + 1) := by
  refine ext_getD (by rw [doneTo_len, List.length_set, doneTo_len]) fun i hi => ?_
  rw [List.length_set, doneTo_len] at hi
  rw [doneTo_get _ _ _ hi]
  by_cases e : f + j = i
  · subst e
    rw [if_pos (by omega), show ((s.doneTo j).set (f + j) (s.upd ((s.doneTo j).getD (f + j) 0))).getD (f + j) 0 = s.upd ((s.doneTo j).getD (f + j) 0) by simp [List.getD, doneTo_len, h], doneTo_get _ _ _ h, if_neg (by omega)]
  · rw [show ((s.doneTo j).set (f + j) (s.upd ((s.doneTo j).getD (f + j) 0))).getD i 0 = (s.doneTo j).getD i 0 by simp [List.getD, e], doneTo_get _ _ _ hi]
    by_cases h1 : s.wf ≤ (i : Int) ∧ (i : Int) < s.wf + j
    · rw [if_pos h1, if_pos (by omega)]
    · rw [if_neg h1, if_neg (by omega)]
theorem Ok.finish (h : s.Ok) (h0 : s.left = 0) : s.finish.Ok :=
  { size := by obtain ⟨m, a, b, c⟩ := h.size; exact ⟨m, a, b, (doneTo_len s _).trans c⟩, byte := h.doneTo_in _, k := h.k, left := h.left, rest := fun _ => ⟨rfl, rfl, rfl, rfl⟩, works := fun e => by have : 0 < s.left := e; omega, val := ⟨Int.le_refl _, (by decide : (0 : Int) ≤ 255)⟩, turn := h.turn }
theorem Ok.tick (h : s.Ok) : s.tick.Ok := by
  unfold Flash.tick
  have hl := h.left
  split
  · exact h
  · split
    · exact { size := by obtain ⟨m, a, b, c⟩ := h.size; exact ⟨m, a, b, (doneTo_len _ _).trans c⟩, byte := by exact h.doneTo_in _, k := h.k, left := ⟨by show 0 ≤ s.left - 1; omega, by show s.left - 1 ≤ 200; omega⟩, rest := fun _ => ⟨rfl, rfl, rfl, rfl⟩, works := fun e => by have : 0 < s.left - 1 := e; omega, val := ⟨Int.le_refl _, (by decide : (0 : Int) ≤ 255)⟩, turn := h.turn }
    · exact { h with left := ⟨by show 0 ≤ s.left - 1; omega, by show s.left - 1 ≤ 200; omega⟩, rest := fun e => by have : s.left - 1 = 0 := e; omega, works := fun _ => h.works (by omega) }
theorem Ok.read (h : s.Ok) : s.read.Ok := by
  unfold Flash.read
  split
  · exact { h with turn := by show 64 - s.turn = 0 ∨ 64 - s.turn = 64; have := h.turn; omega }
  · exact h
theorem Ok.status (h : s.Ok) : 0 ≤ s.status ∧ s.status ≤ 255 := by
  unfold Flash.status
  have := h.turn
  split <;> omega
theorem Ok.tell (h : s.Ok) (a : Int) : 0 ≤ s.tell a ∧ s.tell a ≤ 255 := by
  obtain ⟨m, h1, h2, h3⟩ := h.size
  unfold Flash.tell
  split
  · exact h.status
  · split
    · split
      · omega
      · unfold Flash.size
        rw [h3]
        omega
    · exact getD_in h.byte _
end
end Flash
/-- a new one -/
def fresh (b : List Int) : Flash := ⟨b, 0, false, 0, 0, 0, 0, 0, 0⟩
theorem fresh_ok {b : List Int} {m : Nat} (h1 : 1 ≤ m) (h2 : m ≤ 64) (h3 : b.length = 256 * m) (hb : ∀ v ∈ b, 0 ≤ v ∧ v ≤ 255) : (fresh b).Ok :=
  { size := ⟨m, h1, h2, h3⟩, byte := hb, k := Nat.zero_le _, left := ⟨Int.le_refl _, (by decide : (0 : Int) ≤ 200)⟩, rest := fun _ => ⟨rfl, rfl, rfl, rfl⟩, works := fun e => absurd e (by decide : ¬ (0 : Int) < 0), val := ⟨Int.le_refl _, (by decide : (0 : Int) ≤ 255)⟩, turn := .inl rfl }
end Go.Proofs.Ytojdbmkbcjaikaa
