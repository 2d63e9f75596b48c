/-
  A START, AN ADDRESS, A STOP (values alone).
-/
import Derived.Test.YtfcdlnpfneinlaaDoorEBytes
namespace Go.Proofs.YtfcdlnpfneinlaaDoor
open Go.RowKit
set_option maxRecDepth 20000

theorem write_done (s : Chip) (hl : s.left = 0) : s.write = s := by unfold Chip.write; rw [if_pos hl]
theorem step_start (s : Chip) (wp : Bool) (hl : s.left = 0) (hc : s.lev = (true, true)) : s.step true false wp = ({ s with lev := (true, false) } : Chip).turn 1 := by
  unfold Chip.step
  simp only [write_done s hl, hc, Bool.false_and]
  exact event1 _ _ _
/-- it does nothing -/
structure Id (k : Int) (D : List Int) (ptr : Int) (s : Chip) : Prop where
  nx : s.nx = 0
  count : s.count = 0
  pulls : s.pulls = false
  left : s.left = 0
  lev : s.lev = (true, true)
  kind : s.kind = k
  data : s.data = D
  ptr : s.pointer = ptr
  coll : s.coll = []
  wait : s.wait = []
  join : s.join = false
theorem run_idle (s : Chip) (h : s.nx = 0) (e : Int) (line wp : Bool) : s.run e line wp = s := by
  unfold Chip.run
  rw [if_neg (by omega), if_neg (by omega), if_neg (by omega), if_neg (by omega), if_neg (by omega), if_neg (by omega)]
section
variable {k : Int} {D : List Int} {ptr : Int} {cl : List (Int × Int)} {s : Chip}
theorem Id.begin (h : Id k D ptr s) (wp : Bool) : Rd 1 k D ptr [] (s.steps wp beginL) := by
  have e : s.steps wp beginL = Chip.turn { s with lev := (false, false) } 1 := by
    show (((s.step false true wp).step true true wp).step true false wp).step false false wp = _
    have hx : (true && !s.pulls) = true := by rw [h.pulls]; rfl
    rw [step_fall s true wp h.left (by rw [h.lev]), hx, run_idle { s with lev := (false, true) } h.nx]
    rw [step_rise { s with lev := (false, true) } true wp h.left rfl]
    show ((Chip.run { s with lev := (true, true && !s.pulls) } 3 (true && !s.pulls) wp).step true false wp).step false false wp = _
    rw [hx, run_idle { s with lev := (true, true) } h.nx, step_start { s with lev := (true, true) } wp h.left rfl]
    rw [step_fall (Chip.turn { s with lev := (true, false) } 1) false wp h.left rfl]
    exact run4 (Chip.turn { s with lev := (false, false) } 1) (.inl rfl) (by show (0 : Int) ≠ 8; omega) _ _
  rw [e]
  exact ⟨rfl, rfl, rfl, h.left, rfl, h.kind, h.data, h.ptr, rfl, h.wait, rfl⟩
theorem Rd.begin (h : Rd 3 k D ptr cl s) (wp : Bool) : Rd 1 k D ptr [] (s.steps wp beginL) := by
  have e : ∃ x : Int, s.steps wp beginL = Chip.turn { s with lev := (false, false), shift := x, count := 1 } 1 := by
    refine ⟨(2 * s.shift + 1) % 256, ?_⟩
    show (((s.step false true wp).step true true wp).step true false wp).step false false wp = _
    have hx : (true && !s.pulls) = true := by rw [h.pulls]; rfl
    rw [step_low s true wp h.left h.clk, hx]
    rw [step_rise { s with lev := (false, true) } true wp h.left rfl]
    show ((Chip.run { s with lev := (true, true && !s.pulls) } 3 (true && !s.pulls) wp).step true false wp).step false false wp = _
    rw [hx, run3 { s with lev := (true, true) } (.inr (.inr h.nx)) true wp]
    rw [step_start { s with lev := (true, true), shift := (2 * s.shift + if true then 1 else 0) % 256, count := s.count + 1 } wp h.left rfl]
    rw [step_fall (Chip.turn { s with lev := (true, false), shift := (2 * s.shift + if true then 1 else 0) % 256, count := s.count + 1 } 1) false wp h.left rfl]
    have := run4 (Chip.turn { s with lev := (false, false), shift := (2 * s.shift + 1) % 256, count := 1 } 1) (.inl rfl) (by show (0 : Int) ≠ 8; omega) (false && !false) wp
    exact this
  obtain ⟨x, e⟩ := e
  rw [e]
  exact ⟨rfl, rfl, rfl, h.left, rfl, h.kind, h.data, h.ptr, rfl, h.wait, rfl⟩
theorem kind_aim {k : Int} (h : 1 ≤ k ∧ k ≤ 10) {z : Int} (h0 : 0 ≤ z) (h1 : z < gcol k 0) :
    (gcol k 2 = 2 ∧ aimB k z = 160 ∧ (0 : Int) < 2 ^ (gcol k 3).toNat) ∨
    (gcol k 2 = 1 ∧ ∃ b, 0 ≤ b ∧ b ≤ 7 ∧ aimB k z = 160 + 2 * b ∧ b < 2 ^ (gcol k 3).toNat ∧ (z % 256 + b * 256) = z) := by
  have h := kinds h
  simp only [List.mem_cons, Prod.mk.injEq, List.not_mem_nil, or_false] at h
  unfold aimB
  rcases h with ⟨e0, _, e2, e1⟩ | ⟨e0, _, e2, e1⟩ | ⟨e0, _, e2, e1⟩ | ⟨e0, _, e2, e1⟩ | ⟨e0, _, e2, e1⟩ | ⟨e0, _, e2, e1⟩ | ⟨e0, _, e2, e1⟩ | ⟨e0, _, e2, e1⟩ | ⟨e0, _, e2, e1⟩ | ⟨e0, _, e2, e1⟩ <;> rw [e0] at h1 <;> rw [e2, e1]
  · exact .inr ⟨rfl, 0, by omega, by omega, by simp, by simp, by omega⟩
  · exact .inr ⟨rfl, 0, by omega, by omega, by simp, by simp, by omega⟩
  · exact .inr ⟨rfl, z / 256, by omega, by omega, by simp, by show z / 256 < 2; omega, by omega⟩
  · exact .inr ⟨rfl, z / 256, by omega, by omega, by simp, by show z / 256 < 4; omega, by omega⟩
  · exact .inr ⟨rfl, z / 256, by omega, by omega, by simp, by show z / 256 < 8; omega, by omega⟩
  all_goals exact .inl ⟨rfl, by simp, by simp⟩
theorem aim_rd (h : Rd 1 k D ptr cl (s.steps false beginL)) (hk : 1 ≤ k ∧ k ≤ 10) (hD : (D.length : Int) = gcol k 0) {z : Int} (h0 : 0 ≤ z) (h1 : z < gcol k 0) :
    Rd 3 k D z cl (s.aim k z) ∧ s.aimN k z = 1 + gcol k 2 := by
  have hks := kind_size hk
  have hz : z < 65536 := by omega
  rcases kind_aim hk h0 h1 with ⟨e2, eb, hb⟩ | ⟨e2, b, hb0, hb7, eb, hb, hzb⟩
  · have d := h.device 160 (by omega) (by omega) (by decide) (by simpa using hb) (by decide)
    obtain ⟨a1, r1, b1, d1, m1⟩ := d
    rw [e2] at m1
    obtain ⟨a2, r2, b2, d2, m2⟩ := r1.addr2 (z / 256) (by omega) (by omega) m1
    obtain ⟨a3, r3⟩ := r2.addr1 (z % 256) (by omega) (by omega) m2
    rw [d2, d1, b2, b1, hD] at r3
    have hp : ((0 * 256 + z / 256) * 256 + z % 256 + 160 / 2 % 8 * 256) % gcol k 0 = z := by
      rw [show (0 * 256 + z / 256) * 256 + z % 256 + 160 / 2 % 8 * 256 = z by omega]
      exact Int.emod_eq_of_lt h0 h1
    rw [hp] at r3
    unfold Chip.aim Chip.aimN Chip.aim1
    rw [eb, if_pos e2, if_pos e2, e2]
    refine ⟨r3, ?_⟩
    rw [a1, a2, a3]
    rfl
  · have hv : (160 + 2 * b) / 2 % 8 = b := by omega
    have d := h.device (160 + 2 * b) (by omega) (by omega) (by omega) (by rw [hv]; exact hb) (by omega)
    obtain ⟨a1, r1, b1, d1, m1⟩ := d
    rw [e2] at m1
    obtain ⟨a3, r3⟩ := r1.addr1 (z % 256) (by omega) (by omega) m1
    rw [d1, b1, hD, hv] at r3
    have hp : (0 * 256 + z % 256 + b * 256) % gcol k 0 = z := by
      rw [show 0 * 256 + z % 256 + b * 256 = z by omega]
      exact Int.emod_eq_of_lt h0 h1
    rw [hp] at r3
    unfold Chip.aim Chip.aimN Chip.aim1
    rw [eb, if_neg (by omega), if_neg (by omega), e2]
    refine ⟨r3, ?_⟩
    rw [a1, a3]
    rfl
/-- it is busy for so long -/
structure Bz (t : Int) (k : Int) (D : List Int) (ptr : Int) (cl : List (Int × Int)) (s : Chip) : Prop where
  nx : s.nx = 0
  count : s.count = 0
  pulls : s.pulls = false
  left : s.left = t
  lev : s.lev = (true, true)
  kind : s.kind = k
  data : s.data = D
  ptr : s.pointer = ptr
  coll : s.coll = []
  wait : s.wait = cl
  join : s.join = false
theorem step_stop (s : Chip) (wp : Bool) (hl : s.left = 0) (hp : s.pulls = false) (hc : s.lev = (true, false)) : s.step true true wp = (({ s with lev := (true, true) } : Chip).run 2 true wp).rest := by
  have hx : (true && !s.pulls) = true := by rw [hp]; rfl
  unfold Chip.step
  simp only [write_done s hl, hc, hx]
  exact event2 _ _ _
theorem Rd.end_ (h : Rd 3 k D ptr cl s) (wp : Bool) : ∃ x : Int, s.steps wp endL = (Chip.run { s with lev := (true, true), shift := x, count := 1 } 2 true wp).rest := by
  refine ⟨(2 * s.shift + 0) % 256, ?_⟩
  show ((s.step false false wp).step true false wp).step true true wp = _
  rw [step_low s false wp h.left h.clk, show (false && !s.pulls) = false from rfl]
  rw [step_rise { s with lev := (false, false) } false wp h.left rfl]
  show (Chip.run { s with lev := (true, false) } 3 false wp).step true true wp = _
  rw [run3 { s with lev := (true, false) } (.inr (.inr h.nx)) false wp]
  rw [step_stop { s with lev := (true, false), shift := (2 * s.shift + if false then 1 else 0) % 256, count := s.count + 1 } wp h.left h.pulls rfl]
  show (Chip.run { s with lev := (true, true), shift := (2 * s.shift + 0) % 256, count := s.count + 1 } 2 true wp).rest = _
  rw [h.count]
  rfl
theorem Rd.stop_yes (h : Rd 3 k D ptr cl s) (hcl : cl ≠ []) : Bz 50 k D ptr cl (s.steps false endL) := by
  obtain ⟨x, e⟩ := h.end_ false
  have hr : Chip.run { s with lev := (true, true), shift := x, count := 1 } 2 true false = { s with lev := (true, true), shift := x, count := 1, wait := s.coll, left := 50, join := true } := by
    unfold Chip.run
    rw [if_neg (by rw [h.nx]; omega), if_neg (by rw [h.nx]; omega), if_pos h.nx]
    unfold Chip.dat
    rw [if_pos (by simp [Chip.stops, h.coll, hcl])]
  rw [e, hr]
  exact ⟨rfl, rfl, rfl, rfl, rfl, h.kind, h.data, h.ptr, rfl, h.coll, rfl⟩
theorem Rd.stop_no (h : Rd 3 k D ptr cl s) : Id k D ptr (s.steps true endL) := by
  obtain ⟨x, e⟩ := h.end_ true
  have hr : Chip.run { s with lev := (true, true), shift := x, count := 1 } 2 true true = { s with lev := (true, true), shift := x, count := 1 } := by
    unfold Chip.run
    rw [if_neg (by rw [h.nx]; omega), if_neg (by rw [h.nx]; omega), if_pos h.nx]
    unfold Chip.dat
    rw [if_neg (by simp [Chip.stops]), if_neg (by simp [Chip.whole])]
    simp [Chip.hear]
  rw [e, hr]
  exact ⟨rfl, rfl, rfl, h.left, rfl, h.kind, h.data, h.ptr, rfl, h.wait, rfl⟩
theorem step_rest (s : Chip) (wp : Bool) (hp : s.pulls = false) (hc : s.lev = (true, true)) : s.step true true wp = s.write := by
  have hp' : s.write.pulls = false := by unfold Chip.write; split; exact hp; split <;> exact hp
  have hl' : s.write.lev = (true, true) := by unfold Chip.write; split; exact hc; split <;> exact hc
  have hx : (true && !s.write.pulls) = true := by rw [hp']; rfl
  unfold Chip.step
  simp only [hl', hx]
  rw [show tell (true, true) (true, true) = 0 from rfl, event0, ← hl']
theorem Bz.idle (h : Bz 50 k D ptr cl s) (j : Nat) (hj : j ≤ 49) : Bz (50 - j) k D ptr cl (s.idles j) := by
  induction j with
  | zero => exact h
  | succ j ih =>
    have i := ih (by omega)
    have hw : (s.idles j).write = { s.idles j with left := (s.idles j).left - 1 } := by
      unfold Chip.write
      rw [if_neg (by rw [i.left]; omega), if_pos (by rw [i.left]; omega)]
    rw [Chip.idles, step_rest _ _ i.pulls i.lev, hw]
    exact ⟨i.nx, i.count, i.pulls, by show (s.idles j).left - 1 = _; rw [i.left]; omega, i.lev, i.kind, i.data, i.ptr, i.coll, i.wait, i.join⟩
theorem Bz.done (h : Bz 1 k D ptr cl s) : Id k (pairsL D cl) ptr (s.idles 1) := by
  have hw : s.write = { s with left := s.left - 1, data := pairsL s.data s.wait, wait := [] } := by
    unfold Chip.write
    rw [if_neg (by rw [h.left]; omega), if_neg (by rw [h.left]; omega)]
  show Id k (pairsL D cl) ptr (s.step true true false)
  rw [step_rest s false h.pulls h.lev, hw]
  exact ⟨h.nx, h.count, h.pulls, by show s.left - 1 = 0; rw [h.left]; rfl, h.lev, h.kind, by show pairsL s.data s.wait = _; rw [h.data, h.wait], h.ptr, h.coll, rfl, h.join⟩
/-- several data bytes -/
def putsL (s : Chip) (l : List Int) : Chip := l.foldl Chip.put s
def places (k z : Int) (l : List Int) : List (Int × Int) := (List.range l.length).map fun i : Nat => (z - z % gcol k 1 + (z % gcol k 1 + (i : Int)) % gcol k 1, l.getD i 0)
theorem putsL_snoc (s : Chip) (l : List Int) (x : Int) : putsL s (l ++ [x]) = (putsL s l).put x := by simp [putsL]
theorem places_snoc (k z : Int) (l : List Int) (x : Int) : places k z (l ++ [x]) = places k z l ++ [(z - z % gcol k 1 + (z % gcol k 1 + (l.length : Int)) % gcol k 1, x)] := by
  unfold places
  rw [List.length_append, List.length_singleton, List.range_succ, List.map_append]
  congr 1
  · apply List.map_congr_left
    intro i hi
    have := List.mem_range.1 hi
    simp [List.getD, List.getElem?_append_left this]
  · simp [List.getD]
theorem nextP_at {k z : Int} (_hp : 0 < gcol k 1) (i : Int) : nextP k (z - z % gcol k 1 + (z % gcol k 1 + i) % gcol k 1) = z - z % gcol k 1 + (z % gcol k 1 + (i + 1)) % gcol k 1 := by
  unfold nextP
  generalize gcol k 1 = p at *
  have h1 : (z - z % p + (z % p + i) % p) % p = (z % p + i) % p := by
    rw [show z - z % p = p * (z / p) by have := Int.emod_add_mul_ediv z p; omega, Int.add_comm, Int.add_mul_emod_self_left, Int.emod_emod_of_dvd _ (Int.dvd_refl p)]
  have h2 : (z - z % p + (z % p + i) % p + 1) % p = (z % p + (i + 1)) % p := by
    rw [Int.add_assoc, show z - z % p = p * (z / p) by have := Int.emod_add_mul_ediv z p; omega, Int.add_comm, Int.add_mul_emod_self_left, Int.emod_add_emod, Int.add_assoc]
  rw [h1, h2]
  omega
theorem Rd.puts (h : Rd 3 k D ptr [] s) (hp : 0 < gcol k 1) (l : List Int) (hl : ∀ v ∈ l, 0 ≤ v ∧ v ≤ 255) : Rd 3 k D (ptr - ptr % gcol k 1 + (ptr % gcol k 1 + (l.length : Int)) % gcol k 1) (places k ptr l) (putsL s l) := by
  induction l using snoc_rec with
  | h0 =>
    have : ptr - ptr % gcol k 1 + (ptr % gcol k 1 + ((([] : List Int).length : Nat) : Int)) % gcol k 1 = ptr := by
      simp only [List.length_nil]
      rw [show ptr % gcol k 1 + ((0 : Nat) : Int) = ptr % gcol k 1 by omega, Int.emod_emod_of_dvd _ (Int.dvd_refl _)]
      omega
    rw [this]
    exact h
  | h1 l x ih =>
    have i := ih fun v hv => hl v (List.mem_append_left _ hv)
    have hx := hl x (by simp)
    have d := (i.dat x hx.1 hx.2).2
    rw [putsL_snoc, places_snoc]
    rw [nextP_at hp] at d
    rw [List.length_append, List.length_singleton]
    exact d
theorem Rd.puts_ack (h : Rd 3 k D ptr [] s) (hp : 0 < gcol k 1) (l : List Int) (x : Int) (hl : ∀ v ∈ l, 0 ≤ v ∧ v ≤ 255) (hx : 0 ≤ x ∧ x ≤ 255) : (putsL s l).acks x = 1 := ((h.puts hp l hl).dat x hx.1 hx.2).1
end
end Go.Proofs.YtfcdlnpfneinlaaDoor
