/-
  BYTES THAT ARE SENT (values alone).
-/
import Derived.Test.YtfcdlnpfneinlaaDoorEWritesV
import Derived.Test.YtfcdlnpfneinlaaDoorEGetB
namespace Go.Proofs.YtfcdlnpfneinlaaDoor
open Go.RowKit
set_option maxRecDepth 20000

theorem run_send3 (t : Chip) (h : t.nx = 5) (line wp : Bool) : t.run 3 line wp = t := by
  unfold Chip.run
  rw [if_neg (by omega), if_neg (by omega), if_neg (by omega), if_neg (by omega), if_pos h]
  unfold Chip.send
  rw [if_neg (by omega)]
theorem run_send4 (t : Chip) (h : t.nx = 5) (line wp : Bool) : t.run 4 line wp = t.send 4 := by
  unfold Chip.run
  rw [if_neg (by omega), if_neg (by omega), if_neg (by omega), if_neg (by omega), if_pos h]
theorem run_wait3 (t : Chip) (h : t.nx = 6) (line wp : Bool) : t.run 3 line wp = if line then t.rest else t := by
  unfold Chip.run
  rw [if_neg (by omega), if_neg (by omega), if_neg (by omega), if_neg (by omega), if_neg (by omega), if_pos h]
  unfold Chip.await
  rw [if_pos rfl]
theorem run_wait4 (t : Chip) (h : t.nx = 6) (line wp : Bool) : t.run 4 line wp = ({ t with nx := 5 } : Chip).send 4 := by
  unfold Chip.run
  rw [if_neg (by omega), if_neg (by omega), if_neg (by omega), if_neg (by omega), if_neg (by omega), if_pos h]
  unfold Chip.await
  rw [if_neg (by omega), if_pos rfl]
/-- it sends the byte b, its j-th bit is on the line; behind it comes place q -/
structure Sn (j : Nat) (b : Int) (k : Int) (D : List Int) (q : Int) (s : Chip) : Prop where
  nx : s.nx = 5
  count : s.count = j + 1
  pulls : s.pulls = decide ((2 ^ j * b) % 256 < 128)
  shift : s.shift = (2 ^ (j + 1) * b) % 256
  left : s.left = 0
  clk : s.lev.1 = false
  kind : s.kind = k
  data : s.data = D
  ptr : s.pointer = q
  coll : s.coll = []
  wait : s.wait = []
  join : s.join = false
/-- it waits for the master -/
structure Aw (k : Int) (D : List Int) (q : Int) (s : Chip) : Prop where
  nx : s.nx = 6
  count : s.count = 0
  pulls : s.pulls = false
  left : s.left = 0
  clk : s.lev.1 = false
  kind : s.kind = k
  data : s.data = D
  ptr : s.pointer = q
  coll : s.coll = []
  wait : s.wait = []
  join : s.join = false
/-- it has gone to rest, the clock low -/
structure Lo (k : Int) (D : List Int) (q : Int) (s : Chip) : Prop where
  nx : s.nx = 0
  count : s.count = 0
  pulls : s.pulls = false
  left : s.left = 0
  clk : s.lev.1 = false
  kind : s.kind = k
  data : s.data = D
  ptr : s.pointer = q
  coll : s.coll = []
  wait : s.wait = []
  join : s.join = false
theorem two_send (s : Chip) (h : s.nx = 5) (hl : s.left = 0) (hc : s.lev.1 = false) (wp : Bool) : s.steps wp [(false, true), (true, true)] = { s with lev := (true, true && !s.pulls) } := by
  show (s.step false true wp).step true true wp = _
  rw [step_low s true wp hl hc, step_rise { s with lev := (false, true && !s.pulls) } true wp hl rfl]
  exact run_send3 { s with lev := (true, true && !s.pulls) } h _ _
theorem clock_send (s : Chip) (h : s.nx = 5) (hl : s.left = 0) (hc : s.lev.1 = false) (wp : Bool) : s.steps wp (clockL true) = ({ s with lev := (false, true && !s.pulls) } : Chip).send 4 := by
  rw [show clockL true = [(false, true), (true, true)] ++ [(false, true)] from rfl, steps_append, two_send s h hl hc]
  show ({ s with lev := (true, true && !s.pulls) } : Chip).step false true wp = _
  rw [step_fall { s with lev := (true, true && !s.pulls) } true wp hl rfl]
  exact run_send4 { s with lev := (false, true && !s.pulls) } h _ _
section
variable {k : Int} {D : List Int} {q b : Int} {s : Chip} {j : Nat}
theorem Sn.next (h : Sn j b k D q s) (hj : j < 7) (wp : Bool) : Sn (j + 1) b k D q (s.steps wp (clockL true)) := by
  rw [clock_send s h.nx h.left h.clk]
  have e : Chip.send { s with lev := (false, true && !s.pulls) } 4 = { s with lev := (false, true && !s.pulls), shift := 2 * s.shift % 256, pulls := decide (s.shift < 128), count := s.count + 1 } := by
    unfold Chip.send
    rw [if_pos rfl, if_neg (by show ¬ s.count = 8; rw [h.count]; omega), if_neg (by show ¬ s.count = 0; rw [h.count]; omega)]
  rw [e]
  refine ⟨h.nx, by show s.count + 1 = _; rw [h.count]; omega, by show decide (s.shift < 128) = _; rw [h.shift], ?_, h.left, rfl, h.kind, h.data, h.ptr, h.coll, h.wait, h.join⟩
  show 2 * s.shift % 256 = _
  rw [h.shift, Int.pow_succ 2 (j + 1)]
  generalize (2 : Int) ^ (j + 1) = x
  rw [show x * 2 * b = 2 * (x * b) by rw [Int.mul_comm x 2, Int.mul_assoc]]
  generalize x * b = y
  omega
theorem Sn.last (h : Sn 7 b k D q s) (wp : Bool) : Aw k D q (s.steps wp (clockL true)) := by
  rw [clock_send s h.nx h.left h.clk]
  have e : Chip.send { s with lev := (false, true && !s.pulls) } 4 = { s with lev := (false, true && !s.pulls), pulls := false, count := 0, nx := 6 } := by
    unfold Chip.send
    rw [if_pos rfl, if_pos (by show s.count = 8; rw [h.count]; rfl)]
  rw [e]
  exact ⟨rfl, rfl, rfl, h.left, rfl, h.kind, h.data, h.ptr, h.coll, h.wait, h.join⟩
/-- a byte's first bit is laid -/
theorem send_first (s : Chip) (h : s.nx = 5) (hc : s.count = 0) (hl : s.left = 0) (hk : s.lev.1 = false) (ek : s.kind = k) (ed : s.data = D) (ep : s.pointer = q) (h0 : ∀ v ∈ D, 0 ≤ v ∧ v ≤ 255) (ecoll : s.coll = []) (ewait : s.wait = []) (ej : s.join = false) :
    Sn 0 (D.getD q.toNat 0) k D ((q + 1) % (D.length : Int)) (s.send 4) := by
  have hb := Chip.getD_in h0 q.toNat
  have e : s.send 4 = { s with shift := 2 * (D.getD q.toNat 0) % 256, pointer := (q + 1) % (D.length : Int), pulls := decide (D.getD q.toNat 0 < 128), count := 1 } := by
    unfold Chip.send
    rw [if_pos rfl, if_neg (by omega), if_pos hc]
    unfold Chip.size
    rw [ed, ep]
  rw [e]
  generalize D.getD q.toNat 0 = x at hb
  refine ⟨h, rfl, ?_, ?_, hl, hk, ek, ed, rfl, ecoll, ewait, ej⟩
  · show decide (x < 128) = decide ((2 ^ 0 * x) % 256 < 128)
    rw [show (2 : Int) ^ 0 * x = x by simp, Int.emod_eq_of_lt hb.1 (by omega)]
  · show 2 * x % 256 = (2 ^ 1 * x) % 256
    rfl
theorem Aw.ack (h : Aw k D q s) (h0 : ∀ v ∈ D, 0 ≤ v ∧ v ≤ 255) (wp : Bool) : Sn 0 (D.getD q.toNat 0) k D ((q + 1) % (D.length : Int)) (s.steps wp (clockL false)) := by
  have e : s.steps wp (clockL false) = ({ s with lev := (false, false), nx := 5 } : Chip).send 4 := by
    show ((s.step false false wp).step true false wp).step false false wp = _
    rw [step_low s false wp h.left h.clk, show (false && !s.pulls) = false from rfl]
    rw [step_rise { s with lev := (false, false) } false wp h.left rfl]
    show (Chip.run { s with lev := (true, false) } 3 false wp).step false false wp = _
    rw [run_wait3 { s with lev := (true, false) } h.nx, if_neg (by simp)]
    rw [step_fall { s with lev := (true, false) } false wp h.left rfl]
    exact run_wait4 { s with lev := (false, false) } h.nx _ _
  rw [e]
  exact send_first { s with lev := (false, false), nx := 5 } rfl h.count h.left rfl h.kind h.data h.ptr h0 h.coll h.wait h.join
theorem Aw.no (h : Aw k D q s) (wp : Bool) : Lo k D q (s.steps wp (clockL true)) := by
  have e : s.steps wp (clockL true) = Chip.rest { s with lev := (false, true) } := by
    show ((s.step false true wp).step true true wp).step false true wp = _
    have hx : (true && !s.pulls) = true := by rw [h.pulls]; rfl
    rw [step_low s true wp h.left h.clk, hx]
    rw [step_rise { s with lev := (false, true) } true wp h.left rfl]
    show (Chip.run { s with lev := (true, true && !s.pulls) } 3 (true && !s.pulls) wp).step false true wp = _
    rw [hx, run_wait3 { s with lev := (true, true) } h.nx, if_pos rfl]
    rw [step_fall (Chip.rest { s with lev := (true, true) }) true wp h.left rfl]
    exact run_idle (Chip.rest { s with lev := (false, true) }) rfl _ _ _
  rw [e]
  exact ⟨rfl, rfl, rfl, h.left, rfl, h.kind, h.data, h.ptr, rfl, h.wait, rfl⟩
theorem Lo.end_ (h : Lo k D q s) (wp : Bool) : Id k D q (s.steps wp endL) := by
  have e : s.steps wp endL = Chip.rest { s with lev := (true, true) } := by
    show ((s.step false false wp).step true false wp).step true true wp = _
    rw [step_low s false wp h.left h.clk, show (false && !s.pulls) = false from rfl]
    rw [step_rise { s with lev := (false, false) } false wp h.left rfl]
    show (Chip.run { s with lev := (true, false) } 3 false wp).step true true wp = _
    rw [run_idle { s with lev := (true, false) } h.nx]
    rw [step_stop { s with lev := (true, false) } wp h.left h.pulls rfl]
    show (Chip.run { s with lev := (true, true) } 2 true wp).rest = _
    rw [run_idle { s with lev := (true, true) } h.nx]
  rw [e]
  exact ⟨rfl, rfl, rfl, h.left, rfl, h.kind, h.data, h.ptr, rfl, h.wait, rfl⟩

/-- so many bits' clocks, the line let go -/
def clocks (j : Nat) : List Lev := (List.replicate j (clockL true)).flatten
theorem clocks_next (j : Nat) : clocks (j + 1) = clocks j ++ clockL true := by
  unfold clocks
  rw [List.replicate_succ', List.flatten_append]
  simp
theorem Sn.along (h : Sn 0 b k D q s) (j : Nat) (hj : j ≤ 7) : Sn j b k D q (s.steps false (clocks j)) := by
  induction j with
  | zero => exact h
  | succ j ih =>
    rw [clocks_next, steps_append]
    exact (ih (by omega)).next (by omega) false
theorem get_take (a : Bool) : ∀ j, j < 8 → (putLv 255 a).take (3 * j + 2) = clocks j ++ [(false, true), (true, true)] := by
  cases a <;> decide
theorem get_all (a : Bool) : putLv 255 a = clocks 8 ++ clockL a := by
  cases a <;> decide
theorem bit_of (h : Sn 0 b k D q s) (a : Bool) (j : Nat) (hj : j < 8) : (s.steps false ((putLv 255 a).take (3 * j + 1 + 1))).pulls = decide ((2 ^ j * b) % 256 < 128) := by
  have hs := h.along j (by omega)
  rw [get_take a j hj, steps_append, two_send _ hs.nx hs.left hs.clk]
  exact hs.pulls
theorem getN_three (s : Chip) (l : List Lev) (j : Nat) (hj : j < 8) : getN s l (3 * j + 1 + 1 + 1) = 2 * getN s l (3 * j) + (if (s.steps false (l.take (3 * j + 1 + 1))).pulls then 0 else 1) := by
  rw [getN, if_neg (by omega), getN, if_pos (by omega), getN, if_neg (by omega)]
/-- what is read is what was sent -/
theorem Sn.gets (h : Sn 0 b k D q s) (h0 : 0 ≤ b) (h1 : b ≤ 255) (a : Bool) : s.gets a = b := by
  unfold Chip.gets
  generalize hl : putLv 255 (!a) = l
  have e := fun j hj => getN_three s l j hj
  have f : ∀ j, j < 8 → (s.steps false (l.take (3 * j + 1 + 1))).pulls = decide ((2 ^ j * b) % 256 < 128) := fun j hj => by rw [← hl]; exact bit_of h _ j hj
  rw [getN, if_neg (by omega), getN, if_neg (by omega), getN, if_neg (by omega)]
  have g0 : getN s l 0 = 0 := rfl
  have g1 : getN s l 3 = b / 128 := by
    rw [e 0 (by omega), f 0 (by omega), g0, show (2 : Int) ^ 0 = 1 from rfl]
    by_cases c : 1 * b % 256 < 128 <;> simp only [c, decide_true, decide_false, if_true, Bool.false_eq_true, if_false] <;> omega
  have g2 : getN s l 6 = b / 64 := by
    rw [e 1 (by omega), f 1 (by omega), g1, show (2 : Int) ^ 1 = 2 from rfl]
    by_cases c : 2 * b % 256 < 128 <;> simp only [c, decide_true, decide_false, if_true, Bool.false_eq_true, if_false] <;> omega
  have g3 : getN s l 9 = b / 32 := by
    rw [e 2 (by omega), f 2 (by omega), g2, show (2 : Int) ^ 2 = 4 from rfl]
    by_cases c : 4 * b % 256 < 128 <;> simp only [c, decide_true, decide_false, if_true, Bool.false_eq_true, if_false] <;> omega
  have g4 : getN s l 12 = b / 16 := by
    rw [e 3 (by omega), f 3 (by omega), g3, show (2 : Int) ^ 3 = 8 from rfl]
    by_cases c : 8 * b % 256 < 128 <;> simp only [c, decide_true, decide_false, if_true, Bool.false_eq_true, if_false] <;> omega
  have g5 : getN s l 15 = b / 8 := by
    rw [e 4 (by omega), f 4 (by omega), g4, show (2 : Int) ^ 4 = 16 from rfl]
    by_cases c : 16 * b % 256 < 128 <;> simp only [c, decide_true, decide_false, if_true, Bool.false_eq_true, if_false] <;> omega
  have g6 : getN s l 18 = b / 4 := by
    rw [e 5 (by omega), f 5 (by omega), g5, show (2 : Int) ^ 5 = 32 from rfl]
    by_cases c : 32 * b % 256 < 128 <;> simp only [c, decide_true, decide_false, if_true, Bool.false_eq_true, if_false] <;> omega
  have g7 : getN s l 21 = b / 2 := by
    rw [e 6 (by omega), f 6 (by omega), g6, show (2 : Int) ^ 6 = 64 from rfl]
    by_cases c : 64 * b % 256 < 128 <;> simp only [c, decide_true, decide_false, if_true, Bool.false_eq_true, if_false] <;> omega
  rw [e 7 (by omega), f 7 (by omega), g7, show (2 : Int) ^ 7 = 128 from rfl]
  by_cases c : 128 * b % 256 < 128 <;> simp only [c, decide_true, decide_false, if_true, Bool.false_eq_true, if_false] <;> omega
theorem Sn.get_ (h : Sn 0 b k D q s) (a : Bool) : ∃ t, Aw k D q t ∧ s.get a = t.steps false (clockL (!a)) := by
  refine ⟨(s.steps false (clocks 7)).steps false (clockL true), (h.along 7 (by omega)).last false, ?_⟩
  unfold Chip.get
  rw [get_all, steps_append, clocks_next 7, steps_append]
theorem Sn.more (h : Sn 0 b k D q s) (h0 : ∀ v ∈ D, 0 ≤ v ∧ v ≤ 255) : Sn 0 (D.getD q.toNat 0) k D ((q + 1) % (D.length : Int)) (s.get true) := by
  obtain ⟨t, ht, e⟩ := h.get_ true
  rw [e]
  exact ht.ack h0 false
theorem Sn.done (h : Sn 0 b k D q s) : Lo k D q (s.get false) := by
  obtain ⟨t, ht, e⟩ := h.get_ false
  rw [e]
  exact ht.no false
/-- it is asked for its bytes -/
theorem Rd.ask {z : Int} (h : Rd 1 k D z [] s) (v : Int) (h0 : 0 ≤ v) (h1 : v ≤ 255) (hm : v / 16 = 10) (hb : v / 2 % 8 < 2 ^ (gcol k 3).toNat) (he : v % 2 = 1) (hp : 0 < gcol k 3 → z % 256 + v / 2 % 8 * 256 = z) (hD : ∀ v ∈ D, 0 ≤ v ∧ v ≤ 255) :
    s.acks v = 1 ∧ Sn 0 (D.getD z.toNat 0) k D ((z + 1) % (D.length : Int)) (s.put v) := by
  obtain ⟨t, ht⟩ : ∃ t, ({ s with shift := v, count := 0, lev := (false, bitAt v 0), block := v / 2 % 8, pointer := z } : Chip).ack 5 = t := ⟨_, rfl⟩
  have hr : ({ s with shift := v, count := 8, lev := (false, bitAt v 0) } : Chip).run 4 (bitAt v 0) false = t := by
    rw [← ht]
    unfold Chip.run
    rw [if_pos h.nx]
    unfold Chip.device
    rw [show Chip.whole { s with shift := v, count := 8, lev := (false, bitAt v 0) } 4 = true by simp [Chip.whole], if_pos rfl]
    rw [show Chip.meant { s with shift := v, count := 8, lev := (false, bitAt v 0) } v = true by simp [Chip.meant, hm, h.kind, hb, h.left], if_pos rfl]
    rw [if_neg (by show ¬ v % 2 = 0; omega)]
    have e : (if 0 < gcol s.kind 3 then s.pointer % 256 + v / 2 % 8 * 256 else s.pointer) = z := by
      rw [h.kind, h.ptr]
      split
      · exact hp (by assumption)
      · rfl
    simp only [e]
  have t4 : t.nx = 4 := by rw [← ht]; rfl
  have t5 : t.bh = 5 := by rw [← ht]; rfl
  have tp : t.pulls = true := by rw [← ht]; rfl
  have tl : t.left = 0 := by rw [← ht]; exact h.left
  have tc : t.lev.1 = false := by rw [← ht]; rfl
  have tn : t.count = 0 := by rw [← ht]; rfl
  have td : t.data = D := by rw [← ht]; exact h.data
  have tq : t.pointer = z := by rw [← ht]; rfl
  have tk : t.kind = k := by rw [← ht]; exact h.kind
  have tco : t.coll = [] := by rw [← ht]; exact h.coll
  have tw : t.wait = [] := by rw [← ht]; exact h.wait
  have tj : t.join = false := by rw [← ht]; exact h.join
  clear ht
  have hbt := bits_hear s v (.inl h.nx) h.pulls h.left h.clk h.count h0 h1 false
  rw [hr] at hbt
  constructor
  · unfold Chip.acks
    rw [putLv_take, steps_append, hbt, ack_two t t4 tp tl tc false]
    show (if t.pulls = true then (1 : Int) else 0) = 1
    rw [if_pos tp]
  · have e : s.put v = ({ t with lev := (false, false), pulls := false, nx := 5 } : Chip).send 4 := by
      unfold Chip.put putLv
      rw [steps_append, hbt, show clockL true = [(false, true), (true, true)] ++ [(false, true)] from rfl, steps_append, ack_two t t4 tp tl tc false]
      show ({ t with lev := (true, false) } : Chip).step false true false = _
      rw [step_fall { t with lev := (true, false) } true false tl rfl]
      show Chip.run { t with lev := (false, true && !t.pulls) } 4 (true && !t.pulls) false = _
      have hx : (true && !t.pulls) = false := by rw [tp]; rfl
      rw [hx]
      unfold Chip.run
      rw [if_neg (by show ¬ t.nx = 1; omega), if_neg (by show ¬ t.nx = 2; omega), if_neg (by show ¬ t.nx = 3; omega), if_pos t4]
      unfold Chip.acked
      rw [if_pos rfl, if_neg (by show ¬ t.bh = 2; omega), if_neg (by show ¬ t.bh = 3; omega)]
    rw [e]
    exact send_first { t with lev := (false, false), pulls := false, nx := 5 } rfl tn tl rfl tk td tq hD tco tw tj
end
end Go.Proofs.YtfcdlnpfneinlaaDoor
