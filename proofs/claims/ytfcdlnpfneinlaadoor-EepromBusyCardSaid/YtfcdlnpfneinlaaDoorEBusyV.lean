/-
  WHILE A CHIP IS BUSY (values alone).
-/
import Derived.Test.YtfcdlnpfneinlaaDoorEAims
namespace Go.Proofs.YtfcdlnpfneinlaaDoor
open Go.RowKit
set_option maxRecDepth 20000

/-- a chip, busy for so long with so much -/
def Chip.mask (s : Chip) (t : Int) (W : List (Int × Int)) : Chip := { s with left := t, wait := W }
theorem mask_write (s : Chip) (t : Int) (W : List (Int × Int)) (h : 1 < t) : (s.mask t W).write = s.mask (t - 1) W := by
  unfold Chip.write
  rw [if_neg (by show ¬ t = 0; omega), if_pos (by show 0 < t - 1; omega)]
  rfl
theorem mask_event (s : Chip) (t : Int) (W : List (Int × Int)) (e : Int) (line wp : Bool) (hn : s.nx = 0 ∨ s.nx = 1) (hw : s.whole e = false) : (s.mask t W).event e line wp = (s.event e line wp).mask t W := by
  have hr : (s.mask t W).run e line wp = (s.run e line wp).mask t W := by
    rcases hn with hn | hn
    · rw [run_idle s hn, run_idle (s.mask t W) hn]
    · unfold Chip.run
      rw [if_pos hn, if_pos (show (s.mask t W).nx = 1 from hn)]
      unfold Chip.device
      rw [hw, show (s.mask t W).whole e = false from hw]
      simp only [Bool.false_eq_true, if_false]
      have hne : ¬ (e = 4 ∧ s.count = 8) := fun h => by simp [Chip.whole, h.1, h.2] at hw
      unfold Chip.hear
      split
      · rfl
      · rw [if_neg (show ¬ (e = 4 ∧ (s.mask t W).count = 8) from hne)]
  unfold Chip.event
  rw [hr]
  split
  · rfl
  · split
    · rfl
    · split <;> rfl
theorem mask_step (s : Chip) (t : Int) (W : List (Int × Int)) (scl sda wp : Bool) (h : 1 < t) (hl : s.left = 0) (hn : s.nx = 0 ∨ s.nx = 1) (hw : s.whole (tell s.lev (scl, sda && !s.pulls)) = false) : (s.mask t W).step scl sda wp = (s.step scl sda wp).mask (t - 1) W := by
  unfold Chip.step
  rw [mask_write s t W h, write_done s hl]
  exact mask_event { s with lev := (scl, sda && !s.pulls) } (t - 1) W _ _ wp hn hw
theorem whole_not4 (s : Chip) (e : Int) (h : e ≠ 4) : s.whole e = false := by simp [Chip.whole, h]
theorem whole_count (s : Chip) (e : Int) (h : s.count ≠ 8) : s.whole e = false := by simp [Chip.whole, h]
theorem mask_begin {k : Int} {D : List Int} {ptr : Int} {s : Chip} (h : Id k D ptr s) (t : Int) (W : List (Int × Int)) (ht : 5 ≤ t) (wp : Bool) : (s.mask t W).steps wp beginL = (s.steps wp beginL).mask (t - 4) W := by
  show ((((s.mask t W).step false true wp).step true true wp).step true false wp).step false false wp = _
  have hx : (true && !s.pulls) = true := by rw [h.pulls]; rfl
  have e1 : s.step false true wp = { s with lev := (false, true) } := by rw [step_fall s true wp h.left (by rw [h.lev]), hx, run_idle { s with lev := (false, true) } h.nx]
  have e2 : ({ s with lev := (false, true) } : Chip).step true true wp = { s with lev := (true, true) } := by
    rw [step_rise { s with lev := (false, true) } true wp h.left rfl]
    show Chip.run { s with lev := (true, true && !s.pulls) } 3 (true && !s.pulls) wp = _
    rw [hx, run_idle { s with lev := (true, true) } h.nx]
  have e3 : ({ s with lev := (true, true) } : Chip).step true false wp = Chip.turn { s with lev := (true, false) } 1 := step_start { s with lev := (true, true) } wp h.left rfl
  rw [mask_step s t W _ _ wp (by omega) h.left (.inl h.nx) (whole_count s _ (by rw [h.count]; omega)), e1]
  rw [mask_step { s with lev := (false, true) } (t - 1) W _ _ wp (by omega) h.left (.inl h.nx) (whole_count _ _ (by show s.count ≠ 8; rw [h.count]; omega)), e2]
  rw [mask_step { s with lev := (true, true) } (t - 1 - 1) W _ _ wp (by omega) h.left (.inl h.nx) (whole_count _ _ (by show s.count ≠ 8; rw [h.count]; omega)), e3]
  rw [mask_step (Chip.turn { s with lev := (true, false) } 1) (t - 1 - 1 - 1) W _ _ wp (by omega) h.left (.inr rfl) (whole_count _ _ (by show (0 : Int) ≠ 8; omega))]
  show _ = (((( s.step false true wp).step true true wp).step true false wp).step false false wp).mask (t - 4) W
  rw [e1, e2, e3, show t - 1 - 1 - 1 - 1 = t - 4 by omega]
theorem heard_two (s : Chip) (b wp : Bool) (h : s.nx = 1) (hp : s.pulls = false) (hl : s.left = 0) (hc : s.lev.1 = false) : s.step false b wp = { s with lev := (false, b) } ∧ ({ s with lev := (false, b) } : Chip).step true b wp = { s with lev := (true, b), shift := (2 * s.shift + if b then 1 else 0) % 256, count := s.count + 1 } := by
  have hb : (b && !s.pulls) = b := by rw [hp]; simp
  constructor
  · rw [step_low s b wp hl hc, hb]
  · rw [step_rise { s with lev := (false, b) } b wp hl rfl]
    show Chip.run { s with lev := (true, b && !s.pulls) } 3 (b && !s.pulls) wp = _
    rw [hb, run3 { s with lev := (true, b) } (.inl h) b wp]
theorem mask_two (s : Chip) (b wp : Bool) (h : s.nx = 1) (hp : s.pulls = false) (hl : s.left = 0) (hc : s.lev.1 = false) (hn : s.count ≤ 7) (t : Int) (W : List (Int × Int)) (ht : 3 ≤ t) :
    ((s.mask t W).step false b wp).step true b wp = Chip.mask { s with lev := (true, b), shift := (2 * s.shift + if b then 1 else 0) % 256, count := s.count + 1 } (t - 2) W := by
  obtain ⟨e1, e2⟩ := heard_two s b wp h hp hl hc
  rw [mask_step s t W _ _ wp (by omega) hl (.inr h) (whole_count _ _ (by omega)), e1]
  rw [mask_step { s with lev := (false, b) } (t - 1) W _ _ wp (by omega) hl (.inr h) (whole_count _ _ (by show s.count ≠ 8; omega)), e2, show t - 1 - 1 = t - 2 by omega]
theorem mask_clock (s : Chip) (b wp : Bool) (h : s.nx = 1) (hp : s.pulls = false) (hl : s.left = 0) (hc : s.lev.1 = false) (hn : s.count ≤ 6) (t : Int) (W : List (Int × Int)) (ht : 4 ≤ t) : (s.mask t W).steps wp (clockL b) = (s.heard b).mask (t - 3) W := by
  have hb : (b && !s.pulls) = b := by rw [hp]; simp
  show (((s.mask t W).step false b wp).step true b wp).step false b wp = _
  rw [mask_two s b wp h hp hl hc (by omega) t W (by omega)]
  rw [mask_step { s with lev := (true, b), shift := (2 * s.shift + if b then 1 else 0) % 256, count := s.count + 1 } (t - 2) W _ _ wp (by omega) hl (.inr h) (whole_count _ _ (by show s.count + 1 ≠ 8; omega))]
  rw [step_fall { s with lev := (true, b), shift := (2 * s.shift + if b then 1 else 0) % 256, count := s.count + 1 } b wp hl rfl]
  show Chip.mask (Chip.run { s with shift := _, count := _, lev := (false, b && !s.pulls) } 4 (b && !s.pulls) wp) _ W = _
  rw [hb, show t - 2 - 1 = t - 3 by omega]
  show Chip.mask (Chip.run (s.heard b) 4 b wp) _ W = _
  rw [run4 (s.heard b) (.inl h) (by show s.count + 1 ≠ 8; omega)]
/-- the device's byte, while it is busy: it isn't acknowledged, and nothing is changed -/
theorem mask_put {k : Int} {D : List Int} {ptr : Int} {s : Chip} (h : Rd 1 k D ptr [] s) (v : Int) (t : Int) (W : List (Int × Int)) (ht : 28 ≤ t) : (s.mask t W).acks v = 0 ∧ ((s.mask t W).put v).data = D := by
  have e : bitsTo v 8 = clockL (bitAt v 7) ++ clockL (bitAt v 6) ++ clockL (bitAt v 5) ++ clockL (bitAt v 4) ++ clockL (bitAt v 3) ++ clockL (bitAt v 2) ++ clockL (bitAt v 1) ++ [(false, bitAt v 0), (true, bitAt v 0)] ++ [(false, bitAt v 0)] := rfl
  have n0 := h.count
  obtain ⟨x, hx⟩ : ∃ x : Int, (s.mask t W).steps false (clockL (bitAt v 7) ++ clockL (bitAt v 6) ++ clockL (bitAt v 5) ++ clockL (bitAt v 4) ++ clockL (bitAt v 3) ++ clockL (bitAt v 2) ++ clockL (bitAt v 1) ++ [(false, bitAt v 0), (true, bitAt v 0)]) =
      Chip.mask { s with lev := (true, bitAt v 0), shift := x, count := 8 } (t - 23) W := by
    simp only [steps_append]
    rw [mask_clock s _ false h.nx h.pulls h.left h.clk (by omega) t W (by omega)]
    rw [mask_clock (s.heard _) _ false h.nx h.pulls h.left rfl (by show s.count + 1 ≤ 6; omega) _ W (by omega)]
    rw [mask_clock ((s.heard _).heard _) _ false h.nx h.pulls h.left rfl (by show s.count + 1 + 1 ≤ 6; omega) _ W (by omega)]
    rw [mask_clock (((s.heard _).heard _).heard _) _ false h.nx h.pulls h.left rfl (by show s.count + 1 + 1 + 1 ≤ 6; omega) _ W (by omega)]
    rw [mask_clock ((((s.heard _).heard _).heard _).heard _) _ false h.nx h.pulls h.left rfl (by show s.count + 1 + 1 + 1 + 1 ≤ 6; omega) _ W (by omega)]
    rw [mask_clock (((((s.heard _).heard _).heard _).heard _).heard _) _ false h.nx h.pulls h.left rfl (by show s.count + 1 + 1 + 1 + 1 + 1 ≤ 6; omega) _ W (by omega)]
    rw [mask_clock ((((((s.heard _).heard _).heard _).heard _).heard _).heard _) _ false h.nx h.pulls h.left rfl (by show s.count + 1 + 1 + 1 + 1 + 1 + 1 ≤ 6; omega) _ W (by omega)]
    obtain ⟨y, hy⟩ : ∃ y, ((((((s.heard (bitAt v 7)).heard (bitAt v 6)).heard (bitAt v 5)).heard (bitAt v 4)).heard (bitAt v 3)).heard (bitAt v 2)).heard (bitAt v 1) = { s with shift := y, count := 7, lev := (false, bitAt v 1) } := by
      have e1 : ((((((s.heard (bitAt v 7)).heard (bitAt v 6)).heard (bitAt v 5)).heard (bitAt v 4)).heard (bitAt v 3)).heard (bitAt v 2)).heard (bitAt v 1) = { s with shift := (((((((s.heard (bitAt v 7)).heard (bitAt v 6)).heard (bitAt v 5)).heard (bitAt v 4)).heard (bitAt v 3)).heard (bitAt v 2)).heard (bitAt v 1)).shift, count := s.count + 1 + 1 + 1 + 1 + 1 + 1 + 1, lev := (false, bitAt v 1) } := rfl
      rw [show s.count + 1 + 1 + 1 + 1 + 1 + 1 + 1 = 7 by omega] at e1
      exact ⟨_, e1⟩
    rw [hy]
    refine ⟨(2 * y + if bitAt v 0 then 1 else 0) % 256, (mask_two { s with shift := y, count := 7, lev := (false, bitAt v 1) } _ false h.nx h.pulls h.left rfl (by show (7 : Int) ≤ 7; omega) _ W (by omega)).trans ?_⟩
    rw [show t - 3 - 3 - 3 - 3 - 3 - 3 - 3 - 2 = t - 23 by omega]
    rfl
  -- the byte is judged
  have hj : (Chip.mask { s with lev := (true, bitAt v 0), shift := x, count := 8 } (t - 23) W).step false (bitAt v 0) false = Chip.mask (Chip.rest { s with lev := (false, bitAt v 0), shift := x, count := 0 }) (t - 24) W := by
    have hb : (bitAt v 0 && !s.pulls) = bitAt v 0 := by rw [h.pulls]; simp
    unfold Chip.step
    rw [mask_write _ _ _ (by omega), show t - 23 - 1 = t - 24 by omega]
    show Chip.event { Chip.mask { s with lev := _, shift := x, count := 8 } (t - 24) W with lev := (false, bitAt v 0 && !s.pulls) } (tell (true, bitAt v 0) (false, bitAt v 0 && !s.pulls)) (bitAt v 0 && !s.pulls) false = _
    rw [hb, show tell (true, bitAt v 0) (false, bitAt v 0) = 4 by simp [tell], event4]
    unfold Chip.run
    rw [if_pos (show Chip.nx { Chip.mask { s with lev := _, shift := x, count := 8 } (t - 24) W with lev := (false, bitAt v 0) } = 1 from h.nx)]
    unfold Chip.device
    rw [if_pos (by simp [Chip.whole, Chip.mask]), if_neg (by intro hm; simp [Chip.meant, Chip.mask] at hm; have h9 := of_decide_eq_true hm.2.2; omega)]
    rfl
  have hs : (s.mask t W).steps false (bitsTo v 8) = Chip.mask (Chip.rest { s with lev := (false, bitAt v 0), shift := x, count := 0 }) (t - 24) W := by
    rw [e, steps_append, hx]
    exact hj
  -- the clock behind it
  obtain ⟨r, hr⟩ : ∃ r, Chip.rest { s with lev := (false, bitAt v 0), shift := x, count := 0 } = r := ⟨_, rfl⟩
  rw [hr] at hs
  have r0 : r.nx = 0 := by rw [← hr]; rfl
  have rl : r.left = 0 := by rw [← hr]; exact h.left
  have rp : r.pulls = false := by rw [← hr]; rfl
  have rc : r.lev.1 = false := by rw [← hr]; rfl
  have rn : r.count = 0 := by rw [← hr]; rfl
  have rd : r.data = D := by rw [← hr]; exact h.data
  have hxx : (true && !r.pulls) = true := by rw [rp]; rfl
  have k1 : r.step false true false = { r with lev := (false, true) } := by rw [step_low r true false rl rc, hxx]
  have k2 : ({ r with lev := (false, true) } : Chip).step true true false = { r with lev := (true, true) } := by
    rw [step_rise { r with lev := (false, true) } true false rl rfl]
    show Chip.run { r with lev := (true, true && !r.pulls) } 3 (true && !r.pulls) false = _
    rw [hxx, run_idle { r with lev := (true, true) } r0]
  have k3 : ({ r with lev := (true, true) } : Chip).step false true false = { r with lev := (false, true) } := by
    rw [step_fall { r with lev := (true, true) } true false rl rfl]
    show Chip.run { r with lev := (false, true && !r.pulls) } 4 (true && !r.pulls) false = _
    rw [hxx, run_idle { r with lev := (false, true) } r0]
  have h26 : (r.mask (t - 24) W).steps false [(false, true), (true, true)] = Chip.mask { r with lev := (true, true) } (t - 26) W := by
    show ((r.mask (t - 24) W).step false true false).step true true false = _
    rw [mask_step r _ W _ _ false (by omega) rl (.inl r0) (whole_count _ _ (by omega)), k1, mask_step { r with lev := (false, true) } _ W _ _ false (by omega) rl (.inl r0) (whole_count _ _ (by show r.count ≠ 8; omega)), k2, show t - 24 - 1 - 1 = t - 26 by omega]
  constructor
  · unfold Chip.acks
    rw [putLv_take, steps_append, hs, h26]
    show (if r.pulls = true then (1 : Int) else 0) = 0
    rw [rp]
    rfl
  · unfold Chip.put putLv
    rw [steps_append, hs, show clockL true = [(false, true), (true, true)] ++ [(false, true)] from rfl, steps_append, h26]
    show ((Chip.mask { r with lev := (true, true) } (t - 26) W).step false true false).data = D
    rw [mask_step { r with lev := (true, true) } _ W _ _ false (by omega) rl (.inl r0) (whole_count _ _ (by show r.count ≠ 8; omega)), k3]
    exact rd
section
variable {k : Int} {D : List Int} {ptr : Int} {cl : List (Int × Int)} {s : Chip}
/-- a Stop behind a Start -/
theorem Rd.stop_dev (h : Rd 1 k D ptr cl s) (wp : Bool) : Id k D ptr (s.steps wp endL) := by
  have e : ∃ x : Int, s.steps wp endL = Chip.rest { s with lev := (true, true), shift := x, count := 1 } := by
    refine ⟨(2 * s.shift + 0) % 256, ?_⟩
    show ((s.step false false wp).step true false wp).step true true wp = _
    rw [step_low s false wp h.left h.clk, show (false && !s.pulls) = false from rfl]
    rw [step_rise { s with lev := (false, false) } false wp h.left rfl]
    show (Chip.run { s with lev := (true, false) } 3 false wp).step true true wp = _
    rw [run3 { s with lev := (true, false) } (.inl h.nx) false wp]
    rw [step_stop { s with lev := (true, false), shift := (2 * s.shift + if false then 1 else 0) % 256, count := s.count + 1 } wp h.left h.pulls rfl]
    show (Chip.run { s with lev := (true, true), shift := (2 * s.shift + 0) % 256, count := s.count + 1 } 2 true wp).rest = _
    rw [h.count]
    unfold Chip.run
    rw [if_pos h.nx]
    unfold Chip.device
    rw [if_neg (by simp [Chip.whole])]
    simp [Chip.hear]
  obtain ⟨x, e⟩ := e
  rw [e]
  exact ⟨rfl, rfl, rfl, h.left, rfl, h.kind, h.data, h.ptr, rfl, h.wait, rfl⟩
theorem Bz.mask (h : Bz 50 k D ptr cl s) : ∃ s', Id k D ptr s' ∧ s = s'.mask 50 cl := by
  refine ⟨{ s with left := 0, wait := [] }, ⟨h.nx, h.count, h.pulls, rfl, h.lev, h.kind, h.data, h.ptr, h.coll, rfl, h.join⟩, ?_⟩
  obtain ⟨a1, a2, a3, a4, a5, a6, a7, a8, a9, a10, a11, a12, a13, wt, lf, jn⟩ := s
  have h1 := h.wait
  have h2 := h.left
  simp only at h1 h2
  subst h1 h2
  rfl
end
end Go.Proofs.YtfcdlnpfneinlaaDoor
