/-
  AN EEPROM AS A VALUE: what a step does to it.
-/
import Derived.Test.YtfcdlnpfneinlaaDoorEGeo
import Derived.Test.YtfcdlnpfneinlaaDoorWMath
import Derived.Test.YtfcdlnpfneinlaaDoorCMath
namespace Go.Proofs.YtfcdlnpfneinlaaDoor
open Go.RowKit
set_option maxRecDepth 20000

/-- a chip: nx tells what it does next (0 nothing, 1 the device's byte, 2 an address's, 3 a data byte, 4 it acknowledges, 5 it sends, 6 it waits for the master's), bh what is behind an acknowledgement; coll, wait: places and values in the order in which they came; join: both may be one map. -/
structure Chip where
  kind : Int
  data : List Int
  lev : Lev
  pulls : Bool
  nx : Nat
  bh : Nat
  shift : Int
  count : Int
  block : Int
  address : Int
  missing : Int
  pointer : Int
  coll : List (Int × Int)
  wait : List (Int × Int)
  left : Int
  join : Bool
namespace Chip

def size (s : Chip) : Int := s.data.length
def write (s : Chip) : Chip :=
  if s.left = 0 then s
  else if 0 < s.left - 1 then { s with left := s.left - 1 }
  else { s with left := s.left - 1, data := pairsL s.data s.wait, wait := [] }
def turn (s : Chip) (n : Nat) : Chip := { s with nx := n, pulls := false, count := 0, coll := [], join := false }
def rest (s : Chip) : Chip := s.turn 0
def ack (s : Chip) (b : Nat) : Chip := { s with pulls := true, nx := 4, bh := b }
def hear (s : Chip) (e : Int) (line : Bool) : Chip :=
  if e = 3 then { s with shift := (2 * s.shift + if line then 1 else 0) % 256, count := s.count + 1 }
  else if e = 4 ∧ s.count = 8 then { s with count := 0 } else s
def whole (s : Chip) (e : Int) : Bool := decide (e = 4 ∧ s.count = 8)
def meant (s : Chip) (b : Int) : Bool := decide (b / 16 = 10) && (decide (b / 2 % 8 < 2 ^ (gcol s.kind 3).toNat) && decide (s.left = 0))
def device (s : Chip) (e : Int) (line : Bool) : Chip :=
  if s.whole e then
    if s.meant s.shift then
      if s.shift % 2 = 0 then ({ s with count := 0, block := s.shift / 2 % 8, address := 0, missing := gcol s.kind 2 } : Chip).ack 2
      else ({ s with count := 0, block := s.shift / 2 % 8, pointer := if 0 < gcol s.kind 3 then s.pointer % 256 + (s.shift / 2 % 8) * 256 else s.pointer } : Chip).ack 5
    else ({ s with count := 0 } : Chip).rest
  else s.hear e line
def addr (s : Chip) (e : Int) (line : Bool) : Chip :=
  if s.whole e then
    if 0 < s.missing - 1 then ({ s with count := 0, address := s.address * 256 + s.shift, missing := s.missing - 1 } : Chip).ack 2
    else ({ s with count := 0, address := s.address * 256 + s.shift, missing := s.missing - 1, pointer := (s.address * 256 + s.shift + s.block * 256) % s.size } : Chip).ack 3
  else s.hear e line
def page (s : Chip) : Int := gcol s.kind 1
def collect (s : Chip) (b : Int) : Chip := { s with coll := s.coll ++ [(s.pointer, b)], pointer := s.pointer - s.pointer % s.page + (s.pointer + 1) % s.page }
/-- a Stop behind whole bytes -/
def stops (s : Chip) (e : Int) (wp : Bool) : Bool := decide (e = 2) && (decide (s.count = 1) && (!s.coll.isEmpty && !wp))
def dat (s : Chip) (e : Int) (line wp : Bool) : Chip :=
  if s.stops e wp then { s with wait := s.coll, left := 50, join := true }
  else if s.whole e then (({ s with count := 0 } : Chip).collect s.shift).ack 3
  else s.hear e line
def send (s : Chip) (e : Int) : Chip :=
  if e = 4 then
    if s.count = 8 then { s with pulls := false, count := 0, nx := 6 }
    else if s.count = 0 then { s with shift := 2 * (s.data.getD s.pointer.toNat 0) % 256, pointer := (s.pointer + 1) % s.size, pulls := decide (s.data.getD s.pointer.toNat 0 < 128), count := 1 }
    else { s with shift := 2 * s.shift % 256, pulls := decide (s.shift < 128), count := s.count + 1 }
  else s
def await (s : Chip) (e : Int) (line : Bool) : Chip :=
  if e = 3 then (if line then s.rest else s)
  else if e = 4 then ({ s with nx := 5 } : Chip).send e else s
def acked (s : Chip) (e : Int) (line wp : Bool) : Chip :=
  if e = 4 then
    if s.bh = 2 then ({ s with pulls := false, nx := 2 } : Chip).addr e line
    else if s.bh = 3 then ({ s with pulls := false, nx := 3 } : Chip).dat e line wp
    else ({ s with pulls := false, nx := 5 } : Chip).send e
  else s
def run (s : Chip) (e : Int) (line wp : Bool) : Chip :=
  if s.nx = 1 then s.device e line
  else if s.nx = 2 then s.addr e line
  else if s.nx = 3 then s.dat e line wp
  else if s.nx = 4 then s.acked e line wp
  else if s.nx = 5 then s.send e
  else if s.nx = 6 then s.await e line
  else s
/-- an event, by which something is done -/
def event (s : Chip) (e : Int) (line wp : Bool) : Chip :=
  if e = 1 then s.turn 1
  else if e = 2 then (s.run e line wp).rest
  else if e = 3 ∨ e = 4 then s.run e line wp
  else s
def step (s : Chip) (scl sda wp : Bool) : Chip :=
  let s1 := s.write
  let line := sda && !s1.pulls
  ({ s1 with lev := (scl, line) } : Chip).event (tell s1.lev (scl, line)) line wp
def out (s : Chip) (sda : Bool) : Bool := sda && !s.pulls

/-- what holds of a chip behind at most n steps -/
structure Ok (n : Int) (s : Chip) : Prop where
  kind : 1 ≤ s.kind ∧ s.kind ≤ 10
  size : (s.data.length : Int) = gcol s.kind 0
  byte : ∀ v ∈ s.data, 0 ≤ v ∧ v ≤ 255
  ptr : 0 ≤ s.pointer ∧ s.pointer < s.size
  shift : 0 ≤ s.shift ∧ s.shift ≤ 255
  count : 0 ≤ s.count ∧ s.count ≤ n
  block : 0 ≤ s.block ∧ s.block ≤ 7
  addr : 0 ≤ s.address ∧ s.address ≤ 65535
  hears : s.nx = 2 ∨ s.nx = 4 ∧ s.bh = 2 → s.address ≤ 255 ∧ (s.missing = 1 ∨ s.missing = 2 ∧ s.address = 0)
  miss : 0 ≤ s.missing ∧ s.missing ≤ 2
  coll : ∀ x ∈ s.coll, (0 ≤ x.1 ∧ x.1 < s.size) ∧ 0 ≤ x.2 ∧ x.2 ≤ 255
  wait : ∀ x ∈ s.wait, (0 ≤ x.1 ∧ x.1 < s.size) ∧ 0 ≤ x.2 ∧ x.2 ≤ 255
  colls : (s.coll.length : Int) ≤ n
  waits : (s.wait.length : Int) ≤ n
  left : 0 ≤ s.left ∧ s.left ≤ 50
  busy : 0 < s.left ↔ s.wait ≠ []
  nx : s.nx ≤ 6
  bh : s.nx = 4 → s.bh = 2 ∨ s.bh = 3 ∨ s.bh = 5

end Chip
theorem kinds {k : Int} (h : 1 ≤ k ∧ k ≤ 10) : (gcol k 0, gcol k 1, gcol k 2, gcol k 3) ∈ [((128 : Int), (8 : Int), (1 : Int), (0 : Int)), (256, 8, 1, 0), (512, 16, 1, 1), (1024, 16, 1, 2), (2048, 16, 1, 3), (4096, 32, 2, 0), (8192, 32, 2, 0), (16384, 64, 2, 0), (32768, 64, 2, 0), (65536, 128, 2, 0)] := by
  obtain ⟨h0, h1⟩ := h
  have : k = 1 ∨ k = 2 ∨ k = 3 ∨ k = 4 ∨ k = 5 ∨ k = 6 ∨ k = 7 ∨ k = 8 ∨ k = 9 ∨ k = 10 := by omega
  rcases this with rfl | rfl | rfl | rfl | rfl | rfl | rfl | rfl | rfl | rfl <;> decide
theorem kind_size {k : Int} (h : 1 ≤ k ∧ k ≤ 10) : 128 ≤ gcol k 0 ∧ gcol k 0 ≤ 65536 ∧ 8 ≤ gcol k 1 ∧ gcol k 1 ≤ 128 ∧ 1 ≤ gcol k 2 ∧ gcol k 2 ≤ 2 ∧ 0 ≤ gcol k 3 ∧ gcol k 3 ≤ 3 := by
  have h := kinds h
  simp only [List.mem_cons, Prod.mk.injEq, List.not_mem_nil, or_false] at h
  omega
theorem kind_page {k x : Int} (h : 1 ≤ k ∧ k ≤ 10) (h0 : 0 ≤ x) (h1 : x < gcol k 0) : 0 ≤ x - x % gcol k 1 + (x + 1) % gcol k 1 ∧ x - x % gcol k 1 + (x + 1) % gcol k 1 < gcol k 0 := by
  have h := kinds h
  simp only [List.mem_cons, Prod.mk.injEq, List.not_mem_nil, or_false] at h
  rcases h with ⟨e0, e1, _, _⟩ | ⟨e0, e1, _, _⟩ | ⟨e0, e1, _, _⟩ | ⟨e0, e1, _, _⟩ | ⟨e0, e1, _, _⟩ | ⟨e0, e1, _, _⟩ | ⟨e0, e1, _, _⟩ | ⟨e0, e1, _, _⟩ | ⟨e0, e1, _, _⟩ | ⟨e0, e1, _, _⟩ <;> rw [e1] <;> rw [e0] at h1 ⊢ <;> omega
theorem kind_block {k x b : Int} (h : 1 ≤ k ∧ k ≤ 10) (h0 : 0 < gcol k 3) (hb0 : 0 ≤ b) (hb : b < 2 ^ (gcol k 3).toNat) : 0 ≤ x % 256 + b * 256 ∧ x % 256 + b * 256 < gcol k 0 := by
  have h := kinds h
  simp only [List.mem_cons, Prod.mk.injEq, List.not_mem_nil, or_false] at h
  rcases h with ⟨e0, _, _, e1⟩ | ⟨e0, _, _, e1⟩ | ⟨e0, _, _, e1⟩ | ⟨e0, _, _, e1⟩ | ⟨e0, _, _, e1⟩ | ⟨e0, _, _, e1⟩ | ⟨e0, _, _, e1⟩ | ⟨e0, _, _, e1⟩ | ⟨e0, _, _, e1⟩ | ⟨e0, _, _, e1⟩ <;> rw [e1] at h0 hb <;> rw [e0] <;> simp at h0 hb <;> omega
namespace Chip
section
variable {s : Chip} {n e : Int}
theorem Ok.pos (h : Ok n s) : 128 ≤ s.size ∧ s.size ≤ 65536 := by
  have := kind_size h.kind
  have := h.size
  unfold Chip.size
  omega
theorem Ok.mono (h : Ok n s) {m : Int} (hm : n ≤ m) : Ok m s :=
  { h with count := ⟨h.count.1, Int.le_trans h.count.2 hm⟩, colls := Int.le_trans h.colls hm, waits := Int.le_trans h.waits hm }
theorem Ok.turn (h : Ok n s) (k : Nat) (hk : k = 0 ∨ k = 1 ∨ k = 3 ∨ k = 5 ∨ k = 6) (hn : 0 ≤ n) : Ok n (s.turn k) :=
  { h with count := ⟨Int.le_refl _, hn⟩, hears := fun e => by simp [Chip.turn] at e; omega, coll := fun x hx => by simp [Chip.turn] at hx, colls := hn, nx := by show k ≤ 6; omega, bh := fun e => by simp [Chip.turn] at e; omega }
theorem Ok.write (h : Ok n s) : Ok n s.write := by
  unfold Chip.write
  split
  · exact h
  · rename_i h0
    split
    · exact { h with left := by have := h.left; simp only; omega, busy := ⟨fun _ => h.busy.1 (by have := h.left; omega), fun _ => by assumption⟩ }
    · have hl : ((pairsL s.data s.wait).length : Int) = s.data.length := by rw [pairsL_len]
      have hs : Chip.size { s with left := s.left - 1, data := pairsL s.data s.wait, wait := [] } = s.size := hl
      exact { h with
        size := hl.trans h.size
        byte := pairsL_in _ h.byte fun x hx => (h.wait x hx).2
        ptr := by rw [hs]; exact h.ptr
        coll := fun x hx => by rw [hs]; exact h.coll x hx
        wait := fun x hx => by simp at hx
        waits := by have := h.count; simp only [List.length_nil]; omega
        left := by have := h.left; simp only; omega
        busy := ⟨fun e => by rename_i h1; exact absurd e h1, fun e => absurd rfl e⟩ }
theorem Ok.hear (h : Ok n s) (e : Int) (line : Bool) : Ok (n + 1) (s.hear e line) := by
  have hn := h.mono (show n ≤ n + 1 by omega)
  unfold Chip.hear
  split
  · exact { hn with shift := by simp only; omega, count := by have := h.count; simp only; omega }
  · split
    · exact { hn with count := by have := h.count; simp only; omega }
    · exact hn
theorem Ok.whole0 (h : Ok n s) (_ : s.whole e = true) : Ok n { s with count := 0 } :=
  { h with count := by have := h.count; simp only; omega }
theorem Ok.ack (h : Ok n s) (b : Nat) (hb : b = 2 ∨ b = 3 ∨ b = 5) (hh : b = 2 → s.address ≤ 255 ∧ (s.missing = 1 ∨ s.missing = 2 ∧ s.address = 0)) : Ok n (s.ack b) :=
  { h with hears := fun e => by simp [Chip.ack] at e; exact hh e, nx := by show (4 : Nat) ≤ 6; omega, bh := fun _ => hb }
theorem meant_block {b : Int} (h : s.meant b = true) : b / 2 % 8 < 2 ^ (gcol s.kind 3).toNat := by
  unfold Chip.meant at h
  simp only [Bool.and_eq_true, decide_eq_true_eq] at h
  exact h.2.1
theorem Ok.device (h : Ok n s) (hn : 0 ≤ n) (e : Int) (line : Bool) : Ok (n + 1) (s.device e line) := by
  unfold Chip.device
  have hm := h.mono (show n ≤ n + 1 by omega)
  have hk := kind_size h.kind
  split
  · split
    · rename_i h1 h2
      split
      · have hz : (0 : Int) ≤ 255 ∧ (gcol s.kind 2 = 1 ∨ gcol s.kind 2 = 2 ∧ (0 : Int) = 0) := by omega
        refine Ok.ack ?_ 2 (.inl rfl) (fun _ => hz)
        exact { hm with count := ⟨Int.le_refl _, by show (0 : Int) ≤ n + 1; omega⟩, block := by simp only; omega, addr := by simp only; omega, miss := by simp only; omega, hears := fun _ => hz }
      · refine Ok.ack ?_ 5 (.inr (.inr rfl)) (fun e => by cases e)
        refine { hm with count := ⟨Int.le_refl _, by show (0 : Int) ≤ n + 1; omega⟩, block := by simp only; omega, ptr := ?_ }
        show 0 ≤ (if 0 < gcol s.kind 3 then s.pointer % 256 + (s.shift / 2 % 8) * 256 else s.pointer) ∧ (if 0 < gcol s.kind 3 then s.pointer % 256 + (s.shift / 2 % 8) * 256 else s.pointer) < s.size
        split
        · rename_i h3
          have := kind_block (x := s.pointer) h.kind h3 (show 0 ≤ s.shift / 2 % 8 by omega) (meant_block h2)
          have := h.size
          unfold Chip.size
          omega
        · exact h.ptr
    · rename_i h1 _
      exact (hm.whole0 h1).turn 0 (.inl rfl) (by omega)
  · exact h.hear e line
theorem Ok.addr_ (h : Ok n s) (hn : 0 ≤ n) (hx : s.nx = 2) (e : Int) (line : Bool) : Ok (n + 1) (s.addr e line) := by
  unfold Chip.addr
  have hm := h.mono (show n ≤ n + 1 by omega)
  have hs := h.pos
  have hh := h.hears (.inl hx)
  have ha := h.addr
  have hb := h.shift
  split
  · split
    · have hz : s.address * 256 + s.shift ≤ 255 ∧ (s.missing - 1 = 1 ∨ s.missing - 1 = 2 ∧ s.address * 256 + s.shift = 0) := by omega
      refine Ok.ack ?_ 2 (.inl rfl) (fun _ => hz)
      exact { hm with count := ⟨Int.le_refl _, by show (0 : Int) ≤ n + 1; omega⟩, addr := by show 0 ≤ s.address * 256 + s.shift ∧ s.address * 256 + s.shift ≤ 65535; omega, miss := by show 0 ≤ s.missing - 1 ∧ s.missing - 1 ≤ 2; omega, hears := fun _ => hz }
    · have hq : 0 ≤ (s.address * 256 + s.shift + s.block * 256) % s.size ∧ (s.address * 256 + s.shift + s.block * 256) % s.size < s.size := ⟨Int.emod_nonneg _ (by omega), Int.emod_lt_of_pos _ (by omega)⟩
      exact { hm with count := ⟨Int.le_refl _, by show (0 : Int) ≤ n + 1; omega⟩, addr := by show 0 ≤ s.address * 256 + s.shift ∧ s.address * 256 + s.shift ≤ 65535; omega, miss := by show 0 ≤ s.missing - 1 ∧ s.missing - 1 ≤ 2; omega, ptr := hq, hears := fun e => by simp [Chip.ack] at e, nx := by show (4 : Nat) ≤ 6; omega, bh := fun _ => .inr (.inl rfl) }
  · exact h.hear e line
theorem Ok.collect (h : Ok n s) : Ok (n + 1) (s.collect s.shift) := by
  have hm := h.mono (show n ≤ n + 1 by omega)
  have hp := kind_page h.kind h.ptr.1 (by rw [← h.size]; exact h.ptr.2)
  refine { hm with ptr := ?_, coll := fun x hx => ?_, colls := ?_ }
  · have := h.size
    unfold Chip.collect Chip.size Chip.page
    simp only
    omega
  · unfold Chip.collect at hx
    simp only [List.mem_append, List.mem_singleton] at hx
    rcases hx with hx | rfl
    · exact h.coll x hx
    · exact ⟨h.ptr, h.shift⟩
  · have := h.colls
    simp only [Chip.collect, List.length_append, List.length_singleton]
    omega
theorem Ok.dat (h : Ok n s) (e : Int) (line wp : Bool) : Ok (n + 1) (s.dat e line wp) := by
  unfold Chip.dat
  have hm := h.mono (show n ≤ n + 1 by omega)
  split
  · rename_i hst
    have hne : s.coll ≠ [] := by
      simp only [Chip.stops, Bool.and_eq_true, decide_eq_true_eq, Bool.not_eq_true', List.isEmpty_eq_false_iff] at hst
      exact hst.2.2.1
    exact { hm with wait := h.coll, waits := hm.colls, left := by simp only; omega, busy := ⟨fun _ => hne, fun _ => by show (0 : Int) < 50; omega⟩ }
  · split
    · rename_i h1
      have := (h.whole0 h1).collect
      exact this.ack 3 (.inr (.inl rfl)) (fun e => by cases e)
    · exact h.hear e line
theorem getD_in {l : List Int} (h : ∀ v ∈ l, 0 ≤ v ∧ v ≤ 255) (i : Nat) : 0 ≤ l.getD i 0 ∧ l.getD i 0 ≤ 255 := by
  by_cases hi : i < l.length
  · rw [show l.getD i 0 = l[i] by simp [List.getD, hi]]
    exact h _ (List.getElem_mem hi)
  · rw [show l.getD i 0 = 0 by simp [List.getD, Nat.le_of_not_lt hi]]
    omega
theorem Ok.send (h : Ok n s) (hn : 0 ≤ n) (e : Int) : Ok (n + 1) (s.send e) := by
  unfold Chip.send
  have hm := h.mono (show n ≤ n + 1 by omega)
  have hs := h.pos
  have hd := getD_in h.byte s.pointer.toNat
  have hc := h.count
  split
  · split
    · exact { hm with count := ⟨Int.le_refl _, by show (0 : Int) ≤ n + 1; omega⟩, hears := fun e => by simp at e, nx := by show (6 : Nat) ≤ 6; omega, bh := fun e => by simp at e }
    · split
      · exact { hm with shift := by simp only; omega, ptr := ⟨Int.emod_nonneg _ (by omega), Int.emod_lt_of_pos _ (by omega)⟩, count := by simp only; omega }
      · exact { hm with shift := by simp only; omega, count := by simp only; omega }
  · exact hm
theorem Ok.await (h : Ok n s) (hn : 0 ≤ n) (e : Int) (line : Bool) : Ok (n + 1) (s.await e line) := by
  unfold Chip.await
  have hm := h.mono (show n ≤ n + 1 by omega)
  split
  · split
    · exact hm.turn 0 (.inl rfl) (by omega)
    · exact hm
  · split
    · have h5 : Ok n { s with nx := 5 } := { h with hears := fun e => by simp at e, nx := by show (5 : Nat) ≤ 6; omega, bh := fun e => by simp at e }
      exact h5.send hn e
    · exact hm
theorem Ok.acked (h : Ok n s) (hn : 0 ≤ n) (hx : s.nx = 4) (e : Int) (line wp : Bool) : Ok (n + 1) (s.acked e line wp) := by
  unfold Chip.acked
  split
  · split
    · rename_i hb
      have h2 : Ok n { s with pulls := false, nx := 2 } := { h with hears := fun _ => h.hears (.inr ⟨hx, hb⟩), nx := by show (2 : Nat) ≤ 6; omega, bh := fun e => by simp at e }
      exact h2.addr_ hn rfl e line
    · split
      · have h3 : Ok n { s with pulls := false, nx := 3 } := { h with hears := fun e => by simp at e, nx := by show (3 : Nat) ≤ 6; omega, bh := fun e => by simp at e }
        exact h3.dat e line wp
      · have h5 : Ok n { s with pulls := false, nx := 5 } := { h with hears := fun e => by simp at e, nx := by show (5 : Nat) ≤ 6; omega, bh := fun e => by simp at e }
        exact h5.send hn e
  · exact h.mono (by omega)
theorem Ok.run (h : Ok n s) (hn : 0 ≤ n) (e : Int) (line wp : Bool) : Ok (n + 1) (s.run e line wp) := by
  unfold Chip.run
  split
  · exact h.device hn e line
  · split
    · rename_i hx; exact h.addr_ hn hx e line
    · split
      · exact h.dat e line wp
      · split
        · rename_i hx; exact h.acked hn hx e line wp
        · split
          · exact h.send hn e
          · split
            · exact h.await hn e line
            · exact h.mono (by omega)
theorem Ok.event (h : Ok n s) (hn : 0 ≤ n) (e : Int) (line wp : Bool) : Ok (n + 1) (s.event e line wp) := by
  have hm := h.mono (show n ≤ n + 1 by omega)
  unfold Chip.event
  split
  · exact hm.turn 1 (.inr (.inl rfl)) (by omega)
  · split
    · exact (h.run hn e line wp).turn 0 (.inl rfl) (by omega)
    · split
      · exact h.run hn e line wp
      · exact hm
theorem Ok.step (h : Ok n s) (hn : 0 ≤ n) (scl sda wp : Bool) : Ok (n + 1) (s.step scl sda wp) :=
  Ok.event (s := { s.write with lev := (scl, sda && !s.write.pulls) }) { h.write with } hn _ _ _

theorem whole_stop (s : Chip) (h : e ≠ 4) : s.whole e = false := by simp [Chip.whole, h]
theorem hear_join (s : Chip) (e : Int) (line : Bool) : (s.hear e line).join = s.join := by unfold Chip.hear; split; rfl; split <;> rfl
theorem device_join (s : Chip) (e : Int) (line : Bool) (hj : s.join = false) : (s.device e line).join = false := by
  unfold Chip.device
  split
  · split
    · split <;> exact hj
    · rfl
  · rw [hear_join]; exact hj
theorem addr_join (s : Chip) (e : Int) (line : Bool) (hj : s.join = false) : (s.addr e line).join = false := by
  unfold Chip.addr
  split
  · split <;> exact hj
  · rw [hear_join]; exact hj
theorem stops_not (s : Chip) (wp : Bool) (he : e ≠ 2) : s.stops e wp = false := by simp [Chip.stops, he]
theorem dat_join (s : Chip) (e : Int) (line wp : Bool) (he : e ≠ 2) (hj : s.join = false) : (s.dat e line wp).join = false := by
  unfold Chip.dat
  rw [stops_not s wp he]
  simp only [Bool.false_eq_true, if_false]
  split
  · exact hj
  · rw [hear_join]; exact hj
theorem send_join (s : Chip) (e : Int) (hj : s.join = false) : (s.send e).join = false := by
  unfold Chip.send
  split
  · split
    · exact hj
    · split <;> exact hj
  · exact hj
theorem run_join (s : Chip) (e : Int) (line wp : Bool) (he : e ≠ 2) (hj : s.join = false) : (s.run e line wp).join = false := by
  unfold Chip.run
  split
  · exact device_join s e line hj
  · split
    · exact addr_join s e line hj
    · split
      · exact dat_join s e line wp he hj
      · split
        · unfold Chip.acked
          split
          · split
            · exact addr_join _ e line hj
            · split
              · exact dat_join _ e line wp he hj
              · exact send_join _ e hj
          · exact hj
        · split
          · exact send_join _ e hj
          · split
            · unfold Chip.await
              split
              · split
                · rfl
                · exact hj
              · split
                · exact send_join _ e hj
                · exact hj
            · exact hj
theorem event_join (s : Chip) (e : Int) (line wp : Bool) (hj : s.join = false) : (s.event e line wp).join = false := by
  unfold Chip.event
  split
  · rfl
  · split
    · rfl
    · split
      · rename_i h2 _
        exact run_join s e line wp h2 hj
      · exact hj
theorem write_join (s : Chip) : s.write.join = s.join := by unfold Chip.write; split; rfl; split <;> rfl
theorem step_join (s : Chip) (scl sda wp : Bool) (hj : s.join = false) : (s.step scl sda wp).join = false := event_join _ _ _ _ ((write_join s).trans hj)
end
end Chip
end Go.Proofs.YtfcdlnpfneinlaaDoor
