/-
  WHAT BYTES ON THE LINES DO TO A CHIP (values alone).
-/
import Derived.Test.YtfcdlnpfneinlaaDoorELaw
import Derived.Test.YtfcdlnpfneinlaaDoorEAim
namespace Go.Proofs.YtfcdlnpfneinlaaDoor
open Go.RowKit
set_option maxRecDepth 20000

theorem step_low (s : Chip) (d wp : Bool) (hl : s.left = 0) (hc : s.lev.1 = false) : s.step false d wp = { s with lev := (false, d && !s.pulls) } := by
  have hw : s.write = s := by unfold Chip.write; rw [if_pos hl]
  have ht : ∀ x, tell s.lev (false, x) = 0 := fun x => by unfold tell; rw [hc]; simp
  unfold Chip.step
  simp only [hw, ht, event0]
theorem step_rise (s : Chip) (d wp : Bool) (hl : s.left = 0) (hc : s.lev.1 = false) : s.step true d wp = ({ s with lev := (true, d && !s.pulls) } : Chip).run 3 (d && !s.pulls) wp := by
  have hw : s.write = s := by unfold Chip.write; rw [if_pos hl]
  have ht : ∀ x, tell s.lev (true, x) = 3 := fun x => by unfold tell; rw [hc]; simp
  unfold Chip.step
  simp only [hw, ht, event3]
theorem step_fall (s : Chip) (d wp : Bool) (hl : s.left = 0) (hc : s.lev.1 = true) : s.step false d wp = ({ s with lev := (false, d && !s.pulls) } : Chip).run 4 (d && !s.pulls) wp := by
  have hw : s.write = s := by unfold Chip.write; rw [if_pos hl]
  have ht : ∀ x, tell s.lev (false, x) = 4 := fun x => by unfold tell; rw [hc]; simp
  unfold Chip.step
  simp only [hw, ht, event4]
/-- it listens -/
def Chip.listens (s : Chip) : Prop := s.nx = 1 ∨ s.nx = 2 ∨ s.nx = 3
theorem run3 (s : Chip) (h : s.listens) (line wp : Bool) : s.run 3 line wp = { s with shift := (2 * s.shift + if line then 1 else 0) % 256, count := s.count + 1 } := by
  have hw : s.whole 3 = false := by simp [Chip.whole]
  have hh : s.hear 3 line = { s with shift := (2 * s.shift + if line then 1 else 0) % 256, count := s.count + 1 } := by simp [Chip.hear]
  unfold Chip.run
  rcases h with h | h | h
  · rw [if_pos h]; unfold Chip.device; rw [hw]; exact hh
  · rw [if_neg (by omega), if_pos h]; unfold Chip.addr; rw [hw]; exact hh
  · rw [if_neg (by omega), if_neg (by omega), if_pos h]; unfold Chip.dat; rw [Chip.stops_not s wp (by omega), hw]; exact hh
theorem run4 (s : Chip) (h : s.listens) (hc : s.count ≠ 8) (line wp : Bool) : s.run 4 line wp = s := by
  have hw : s.whole 4 = false := by simp [Chip.whole, hc]
  have hh : s.hear 4 line = s := by simp [Chip.hear, hc]
  unfold Chip.run
  rcases h with h | h | h
  · rw [if_pos h]; unfold Chip.device; rw [hw]; exact hh
  · rw [if_neg (by omega), if_pos h]; unfold Chip.addr; rw [hw]; exact hh
  · rw [if_neg (by omega), if_neg (by omega), if_pos h]; unfold Chip.dat; rw [Chip.stops_not s wp (by omega), hw]; exact hh
/-- a bit is heard -/
def Chip.heard (s : Chip) (b : Bool) : Chip := { s with shift := (2 * s.shift + if b then 1 else 0) % 256, count := s.count + 1, lev := (false, b) }
theorem clock_hear (s : Chip) (b wp : Bool) (h : s.listens) (hp : s.pulls = false) (hl : s.left = 0) (hc : s.lev.1 = false) : s.steps wp (clockL b) = (s.heard b).run 4 b wp := by
  show ((s.step false b wp).step true b wp).step false b wp = _
  have hb : (b && !s.pulls) = b := by rw [hp]; simp
  rw [step_low s b wp hl hc, hb, step_rise { s with lev := (false, b) } b wp hl rfl]
  show (Chip.run { s with lev := (true, b && !s.pulls) } 3 (b && !s.pulls) wp).step false b wp = _
  rw [hb, run3 { s with lev := (true, b) } h b wp, step_fall { s with lev := (true, b), shift := (2 * s.shift + if b then 1 else 0) % 256, count := s.count + 1 } b wp hl rfl]
  show Chip.run { s with shift := _, count := _, lev := (false, b && !s.pulls) } 4 (b && !s.pulls) wp = _
  rw [hb]
  rfl
theorem heard_listens {s : Chip} {b : Bool} (h : s.listens) : (s.heard b).listens := h
theorem clock_hear7 (s : Chip) (b wp : Bool) (h : s.listens) (hp : s.pulls = false) (hl : s.left = 0) (hc : s.lev.1 = false) (hn : s.count ≠ 7) : s.steps wp (clockL b) = s.heard b := by
  rw [clock_hear s b wp h hp hl hc]
  exact run4 (s.heard b) h (by show s.count + 1 ≠ 8; omega) b wp
theorem eight (x v : Int) (h0 : 0 ≤ v) (h1 : v ≤ 255) :
    (2 * ((2 * ((2 * ((2 * ((2 * ((2 * ((2 * ((2 * x + v / 2 ^ 7 % 2) % 256) + v / 2 ^ 6 % 2) % 256) + v / 2 ^ 5 % 2) % 256) + v / 2 ^ 4 % 2) % 256) + v / 2 ^ 3 % 2) % 256) + v / 2 ^ 2 % 2) % 256) + v / 2 ^ 1 % 2) % 256) + v / 2 ^ 0 % 2) % 256 = v := by
  simp only [show (2 : Int) ^ 7 = 128 from rfl, show (2 : Int) ^ 6 = 64 from rfl, show (2 : Int) ^ 5 = 32 from rfl, show (2 : Int) ^ 4 = 16 from rfl, show (2 : Int) ^ 3 = 8 from rfl, show (2 : Int) ^ 2 = 4 from rfl, show (2 : Int) ^ 1 = 2 from rfl, show (2 : Int) ^ 0 = 1 from rfl]
  obtain ⟨x1, e1⟩ : ∃ y, (2 * x + v / 128 % 2) % 256 = y := ⟨_, rfl⟩
  rw [e1]
  have k1 : x1 % 2 = v / 128 := by omega
  clear e1
  obtain ⟨x2, e2⟩ : ∃ y, (2 * x1 + v / 64 % 2) % 256 = y := ⟨_, rfl⟩
  rw [e2]
  have k2 : x2 % 4 = v / 64 := by omega
  clear e2 k1
  obtain ⟨x3, e3⟩ : ∃ y, (2 * x2 + v / 32 % 2) % 256 = y := ⟨_, rfl⟩
  rw [e3]
  have k3 : x3 % 8 = v / 32 := by omega
  clear e3 k2
  obtain ⟨x4, e4⟩ : ∃ y, (2 * x3 + v / 16 % 2) % 256 = y := ⟨_, rfl⟩
  rw [e4]
  have k4 : x4 % 16 = v / 16 := by omega
  clear e4 k3
  obtain ⟨x5, e5⟩ : ∃ y, (2 * x4 + v / 8 % 2) % 256 = y := ⟨_, rfl⟩
  rw [e5]
  have k5 : x5 % 32 = v / 8 := by omega
  clear e5 k4
  obtain ⟨x6, e6⟩ : ∃ y, (2 * x5 + v / 4 % 2) % 256 = y := ⟨_, rfl⟩
  rw [e6]
  have k6 : x6 % 64 = v / 4 := by omega
  clear e6 k5
  obtain ⟨x7, e7⟩ : ∃ y, (2 * x6 + v / 2 % 2) % 256 = y := ⟨_, rfl⟩
  rw [e7]
  have k7 : x7 % 128 = v / 2 := by omega
  clear e7 k6
  omega
/-- eight bits ahead of the last Fall -/
theorem bits_hear (s : Chip) (v : Int) (h : s.listens) (hp : s.pulls = false) (hl : s.left = 0) (hc : s.lev.1 = false) (hn : s.count = 0) (h0 : 0 ≤ v) (h1 : v ≤ 255) (wp : Bool) :
    s.steps wp (bitsTo v 8) = ({ s with shift := v, count := 8, lev := (false, bitAt v 0) } : Chip).run 4 (bitAt v 0) wp := by
  have e : bitsTo v 8 = clockL (bitAt v 7) ++ clockL (bitAt v 6) ++ clockL (bitAt v 5) ++ clockL (bitAt v 4) ++ clockL (bitAt v 3) ++ clockL (bitAt v 2) ++ clockL (bitAt v 1) ++ clockL (bitAt v 0) := rfl
  rw [e]
  simp only [steps_append]
  rw [clock_hear7 s _ wp h hp hl hc (by omega)]
  rw [clock_hear7 (s.heard _) _ wp h hp hl rfl (by show s.count + 1 ≠ 7; omega)]
  rw [clock_hear7 ((s.heard _).heard _) _ wp h hp hl rfl (by show s.count + 1 + 1 ≠ 7; omega)]
  rw [clock_hear7 (((s.heard _).heard _).heard _) _ wp h hp hl rfl (by show s.count + 1 + 1 + 1 ≠ 7; omega)]
  rw [clock_hear7 ((((s.heard _).heard _).heard _).heard _) _ wp h hp hl rfl (by show s.count + 1 + 1 + 1 + 1 ≠ 7; omega)]
  rw [clock_hear7 (((((s.heard _).heard _).heard _).heard _).heard _) _ wp h hp hl rfl (by show s.count + 1 + 1 + 1 + 1 + 1 ≠ 7; omega)]
  rw [clock_hear7 ((((((s.heard _).heard _).heard _).heard _).heard _).heard _) _ wp h hp hl rfl (by show s.count + 1 + 1 + 1 + 1 + 1 + 1 ≠ 7; omega)]
  rw [clock_hear (((((((s.heard _).heard _).heard _).heard _).heard _).heard _).heard _) _ wp h hp hl rfl]
  congr 1
  have hb : ∀ k : Nat, (if bitAt v k then (1 : Int) else 0) = v / 2 ^ k % 2 := fun k => by
    unfold bitAt
    have : v / 2 ^ k % 2 = 0 ∨ v / 2 ^ k % 2 = 1 := by omega
    rcases this with h | h <;> rw [h] <;> rfl
  unfold Chip.heard
  simp only [hb]
  rw [show s.count + 1 + 1 + 1 + 1 + 1 + 1 + 1 + 1 = 8 by omega]
  congr 1
  exact eight s.shift v h0 h1
end Go.Proofs.YtfcdlnpfneinlaaDoor
