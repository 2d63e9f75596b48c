/-
  BYTES THAT ARE ACKNOWLEDGED (values alone).
-/
import Derived.Test.YtfcdlnpfneinlaaDoorEBits
namespace Go.Proofs.YtfcdlnpfneinlaaDoor
open Go.RowKit
set_option maxRecDepth 20000

theorem run_acked3 (t : Chip) (h : t.nx = 4) (line wp : Bool) : t.run 3 line wp = t := by
  unfold Chip.run
  rw [if_neg (by omega), if_neg (by omega), if_neg (by omega), if_pos h]
  unfold Chip.acked
  rw [if_neg (by omega)]
theorem run_acked4 (t : Chip) (k : Nat) (h : t.nx = 4) (hk : t.bh = k) (hk23 : k = 2 ∨ k = 3) (hc : t.count ≠ 8) (line wp : Bool) : t.run 4 line wp = { t with pulls := false, nx := k } := by
  have hw : ∀ m, Chip.whole { t with pulls := false, nx := m } 4 = false := fun m => by simp [Chip.whole, hc]
  have hh : ∀ m, Chip.hear { t with pulls := false, nx := m } 4 line = { t with pulls := false, nx := m } := fun m => by simp [Chip.hear, hc]
  unfold Chip.run
  rw [if_neg (by omega), if_neg (by omega), if_neg (by omega), if_pos h]
  unfold Chip.acked
  rw [if_pos rfl]
  rcases hk23 with e | e <;> subst e
  · rw [if_pos hk]
    unfold Chip.addr
    rw [hw]
    exact hh 2
  · rw [if_neg (by omega), if_pos hk]
    unfold Chip.dat
    rw [Chip.stops_not _ wp (by omega), hw]
    exact hh 3
theorem putLv_take (b : Int) : (putLv b true).take 26 = bitsTo b 8 ++ [(false, true), (true, true)] := by
  unfold putLv
  rw [List.take_append, bitsTo_len]
  rw [List.take_of_length_le (by rw [bitsTo_len]; omega)]
  rfl
/-- the acknowledgement's clock, ahead of its Fall -/
theorem ack_two (t : Chip) (hn : t.nx = 4) (hp : t.pulls = true) (hl : t.left = 0) (hc : t.lev.1 = false) (wp : Bool) : t.steps wp [(false, true), (true, true)] = { t with lev := (true, false) } := by
  show (t.step false true wp).step true true wp = _
  have hx : (true && !t.pulls) = false := by rw [hp]; rfl
  rw [step_low t true wp hl hc, hx]
  rw [step_rise { t with lev := (false, false) } true wp hl rfl]
  show Chip.run { t with lev := (true, true && !t.pulls) } 3 (true && !t.pulls) wp = _
  rw [hx]
  exact run_acked3 { t with lev := (true, false) } hn _ _
/-- a byte that is heard, and acknowledged -/
theorem put_ack (s t : Chip) (v : Int) (k : Nat) (h : s.listens) (hp : s.pulls = false) (hl : s.left = 0) (hc : s.lev.1 = false) (hn : s.count = 0) (h0 : 0 ≤ v) (h1 : v ≤ 255)
    (ht : ({ s with shift := v, count := 8, lev := (false, bitAt v 0) } : Chip).run 4 (bitAt v 0) false = t) (t4 : t.nx = 4) (tk : t.bh = k) (k23 : k = 2 ∨ k = 3) (tp : t.pulls = true) (tl : t.left = 0) (tc : t.lev.1 = false) (tn : t.count = 0) :
    s.acks v = 1 ∧ s.put v = { t with pulls := false, nx := k, lev := (false, false) } := by
  have hb := bits_hear s v h hp hl hc hn h0 h1 false
  rw [ht] at hb
  constructor
  · unfold Chip.acks
    rw [putLv_take, steps_append, hb, ack_two t t4 tp tl tc false]
    show (if t.pulls = true then (1 : Int) else 0) = 1
    rw [if_pos tp]
  · unfold Chip.put putLv
    rw [steps_append, hb, show clockL true = [(false, true), (true, true)] ++ [(false, true)] from rfl, steps_append, ack_two t t4 tp tl tc false]
    show ({ t with lev := (true, false) } : Chip).step false true false = _
    rw [step_fall { t with lev := (true, false) } true false tl rfl]
    show Chip.run { t with lev := (false, true && !t.pulls) } 4 (true && !t.pulls) false = _
    have hx : (true && !t.pulls) = false := by rw [tp]; rfl
    rw [hx]
    exact run_acked4 { t with lev := (false, false) } k t4 tk k23 (by show t.count ≠ 8; omega) _ _

/-- it stands ahead of a byte -/
structure Rd (m : Nat) (k : Int) (D : List Int) (ptr : Int) (cl : List (Int × Int)) (s : Chip) : Prop where
  nx : s.nx = m
  count : s.count = 0
  pulls : s.pulls = false
  left : s.left = 0
  clk : s.lev.1 = false
  kind : s.kind = k
  data : s.data = D
  ptr : s.pointer = ptr
  coll : s.coll = cl
  wait : s.wait = []
  join : s.join = false
section
variable {k : Int} {D : List Int} {ptr : Int} {cl : List (Int × Int)} {s : Chip}
theorem Rd.device (h : Rd 1 k D ptr cl s) (v : Int) (h0 : 0 ≤ v) (h1 : v ≤ 255) (hm : v / 16 = 10) (hb : v / 2 % 8 < 2 ^ (gcol k 3).toNat) (he : v % 2 = 0) :
    s.acks v = 1 ∧ Rd 2 k D ptr cl (s.put v) ∧ (s.put v).block = v / 2 % 8 ∧ (s.put v).address = 0 ∧ (s.put v).missing = gcol k 2 := by
  have ht : ({ s with shift := v, count := 8, lev := (false, bitAt v 0) } : Chip).run 4 (bitAt v 0) false = ({ s with shift := v, count := 0, lev := (false, bitAt v 0), block := v / 2 % 8, address := 0, missing := gcol s.kind 2 } : Chip).ack 2 := by
    unfold Chip.run
    rw [if_pos h.nx]
    unfold Chip.device
    rw [show Chip.whole { s with shift := v, count := 8, lev := (false, bitAt v 0) } 4 = true by simp [Chip.whole], if_pos rfl]
    rw [show Chip.meant { s with shift := v, count := 8, lev := (false, bitAt v 0) } v = true by simp [Chip.meant, hm, h.kind, hb, h.left], if_pos rfl]
    rw [if_pos he]
  obtain ⟨a, b⟩ := put_ack s _ v 2 (.inl h.nx) h.pulls h.left h.clk h.count h0 h1 ht rfl rfl (.inl rfl) rfl h.left rfl rfl
  rw [b]
  exact ⟨a, ⟨rfl, rfl, rfl, h.left, rfl, h.kind, h.data, h.ptr, h.coll, h.wait, h.join⟩, rfl, rfl, by show gcol s.kind 2 = _; rw [h.kind]⟩
theorem Rd.addr2 (h : Rd 2 k D ptr cl s) (v : Int) (h0 : 0 ≤ v) (h1 : v ≤ 255) (hm : s.missing = 2) :
    s.acks v = 1 ∧ Rd 2 k D ptr cl (s.put v) ∧ (s.put v).block = s.block ∧ (s.put v).address = s.address * 256 + v ∧ (s.put v).missing = 1 := by
  have ht : ({ s with shift := v, count := 8, lev := (false, bitAt v 0) } : Chip).run 4 (bitAt v 0) false = ({ s with shift := v, count := 0, lev := (false, bitAt v 0), address := s.address * 256 + v, missing := 1 } : Chip).ack 2 := by
    unfold Chip.run
    rw [if_neg (by rw [h.nx]; omega), if_pos h.nx]
    unfold Chip.addr
    rw [show Chip.whole { s with shift := v, count := 8, lev := (false, bitAt v 0) } 4 = true by simp [Chip.whole], if_pos rfl]
    simp only [hm]
    rfl
  obtain ⟨a, b⟩ := put_ack s _ v 2 (.inr (.inl h.nx)) h.pulls h.left h.clk h.count h0 h1 ht rfl rfl (.inl rfl) rfl h.left rfl rfl
  rw [b]
  exact ⟨a, ⟨rfl, rfl, rfl, h.left, rfl, h.kind, h.data, h.ptr, h.coll, h.wait, h.join⟩, rfl, rfl, rfl⟩
theorem Rd.addr1 (h : Rd 2 k D ptr cl s) (v : Int) (h0 : 0 ≤ v) (h1 : v ≤ 255) (hm : s.missing = 1) :
    s.acks v = 1 ∧ Rd 3 k D ((s.address * 256 + v + s.block * 256) % D.length) cl (s.put v) := by
  have ht : ({ s with shift := v, count := 8, lev := (false, bitAt v 0) } : Chip).run 4 (bitAt v 0) false = ({ s with shift := v, count := 0, lev := (false, bitAt v 0), address := s.address * 256 + v, missing := 0, pointer := (s.address * 256 + v + s.block * 256) % s.size } : Chip).ack 3 := by
    unfold Chip.run
    rw [if_neg (by rw [h.nx]; omega), if_pos h.nx]
    unfold Chip.addr
    rw [show Chip.whole { s with shift := v, count := 8, lev := (false, bitAt v 0) } 4 = true by simp [Chip.whole], if_pos rfl]
    simp only [hm]
    rfl
  obtain ⟨a, b⟩ := put_ack s _ v 3 (.inr (.inl h.nx)) h.pulls h.left h.clk h.count h0 h1 ht rfl rfl (.inr rfl) rfl h.left rfl rfl
  rw [b]
  exact ⟨a, ⟨rfl, rfl, rfl, h.left, rfl, h.kind, h.data, by show (s.address * 256 + v + s.block * 256) % s.size = _; unfold Chip.size; rw [h.data], h.coll, h.wait, h.join⟩⟩
/-- the next place in a page -/
def nextP (k ptr : Int) : Int := ptr - ptr % gcol k 1 + (ptr + 1) % gcol k 1
theorem Rd.dat (h : Rd 3 k D ptr cl s) (v : Int) (h0 : 0 ≤ v) (h1 : v ≤ 255) : s.acks v = 1 ∧ Rd 3 k D (nextP k ptr) (cl ++ [(ptr, v)]) (s.put v) := by
  have ht : ({ s with shift := v, count := 8, lev := (false, bitAt v 0) } : Chip).run 4 (bitAt v 0) false = (Chip.collect { s with shift := v, count := 0, lev := (false, bitAt v 0) } v).ack 3 := by
    unfold Chip.run
    rw [if_neg (by rw [h.nx]; omega), if_neg (by rw [h.nx]; omega), if_pos h.nx]
    unfold Chip.dat
    rw [Chip.stops_not _ false (by omega), show Chip.whole { s with shift := v, count := 8, lev := (false, bitAt v 0) } 4 = true by simp [Chip.whole]]
    rfl
  obtain ⟨a, b⟩ := put_ack s _ v 3 (.inr (.inr h.nx)) h.pulls h.left h.clk h.count h0 h1 ht rfl rfl (.inr rfl) rfl h.left rfl rfl
  rw [b]
  refine ⟨a, ⟨rfl, rfl, rfl, h.left, rfl, h.kind, h.data, ?_, ?_, h.wait, h.join⟩⟩
  · show s.pointer - s.pointer % gcol s.kind 1 + (s.pointer + 1) % gcol s.kind 1 = _
    rw [h.kind, h.ptr]
    rfl
  · show s.coll ++ [(s.pointer, v)] = _
    rw [h.coll, h.ptr]
end
end Go.Proofs.YtfcdlnpfneinlaaDoor
