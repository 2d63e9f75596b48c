/-
  THE WALKS OF keepsakelaw11.puts, ticks, AND OF THE DOCUMENT's Program, Erase, Whole.
-/
import Derived.Test.YtojdbmkbcjaikaaFWrite
import Derived.Test.YtojdbmkbcjaikaaFGet
import Derived.Test.YtojdbmkbcjaikaaFNew
import Derived.Test.YtojdbmkbcjaikaaFOpenL
namespace Go.Proofs.Ytojdbmkbcjaikaa
open Go.RowKit
set_option maxRecDepth 20000

def Flash.puts (s : Flash) (l : List Wr) : Flash := l.foldl (fun s x => s.write x.a x.v) s
def Flash.ticks (s : Flash) : Nat → Flash
  | 0 => s
  | n + 1 => (s.ticks n).tick
theorem puts_take (s : Flash) (l : List Wr) (k : Nat) (x : Wr) (h : l[k]? = some x) : s.puts (l.take (k + 1)) = (s.puts (l.take k)).write x.a x.v := by
  unfold Flash.puts
  rw [List.take_add_one, h]
  simp
theorem puts_ok {s : Flash} (l : List Wr) (h : s.Ok) : (s.puts l).Ok := by
  unfold Flash.puts
  induction l generalizing s with
  | nil => exact h
  | cons x l ih => exact ih (h.write x.a x.hv)
theorem ticks_ok {s : Flash} (n : Nat) (h : s.Ok) : (s.ticks n).Ok := by
  induction n with
  | zero => exact h
  | succ n ih => exact ih.tick
/-- no cell of a row lies in blocks -/
def Off (S : Nat → Prop) (A : Option Addr) (n : Nat) : Prop := ∀ b o, A = some ⟨b, o, none⟩ → 0 < n → ¬ S b
theorem Many.off {α : Type} {E : Enc α} {w w' : World} {B n : Nat} {A : Option Addr} {l : List α} {S : Nat → Prop} (h : Many E w B A n l) (hk : Keeps S w w') (hB : B ≤ w.heap.size) (hS : Off S A n) : Many E w' B A n l := by
  obtain ⟨h1, h2⟩ := h
  refine ⟨h1, fun hn => ?_⟩
  obtain ⟨b, o, e, hb, hc⟩ := h2 hn
  exact ⟨b, o, e, hb, fun i x hx j u hu => (hk.cell (b := b) (by omega) (hS b o e hn)).trans (hc i x hx j u hu)⟩
theorem Off.below {α : Type} {E : Enc α} {w : World} {B n p d : Nat} {A : Option Addr} {l : List α} (h : Many E w B A n l) (hp : B ≤ p) (hd : B ≤ d) : Off (Its p d) A n := by
  intro b o e hn hb
  obtain ⟨b', o', e', hb', _⟩ := h.2 hn
  rw [e] at e'
  injection e' with e'
  injection e' with e'
  rcases hb with rfl | rfl <;> omega
theorem Off.new {p d b o n : Nat} (hp : p < b) (hd : d < b) : Off (Its p d) (some ⟨b, o, none⟩) n := by
  intro b' o' e _ hb
  injection e with e
  injection e with e
  rcases hb with rfl | rfl <;> omega

set_option maxRecDepth 100000 in
set_option maxHeartbeats 4000000 in
theorem puts_any (w : World) (p d cap : Nat) (s : Flash) (A : Option Addr) (n c B : Nat) (l : List Wr) (h : ChipAt w p d cap s) (hok : s.Ok) (hl : Many wrE w B A n l) (hB : B ≤ w.heap.size) (hS : Off (Its p d) A n) (hn : n ≤ maxLen) :
    Calls Try.prog 29 #[.pointer (some ⟨p, 0, none⟩), .slice A n c] w (Did p d cap (s.puts l) w) := by
  have HC := Lib.hid h.went
  have HO := Lib.hid hok
  have HL := Lib.hid hl
  have HLL := Lib.hid hl.1
  have HS := Lib.hid hS
  unfold maxLen at hn
  clear h hok hl hS
  go_enter Try.func29, Try.ntmps29
  go_wp2_with fail
  go_loopw [4] (fun i wr => ∃ k : Nat, k ≤ n ∧ i = .int .i64 k ∧ Went p d cap (s.puts (l.take k)) w wr) (fun i _ => n - (intOf i).toNat)
  case atStart => exact ⟨0, Nat.zero_le _, rfl, HC.out⟩
  case round =>
    obtain ⟨k, hk, rfl, hz⟩ := hrel
    have Z := Lib.hid hz
    clear hz
    by_cases hlt : k < n
    · obtain ⟨x, hx⟩ : ∃ x, l[k]? = some x := ⟨l[k]'(by have := HLL.out; omega), by simp [show k < l.length by have := HLL.out; omega]⟩
      obtain ⟨b, o, rfl, hc⟩ := (HL.out.off Z.out.2 hB HS.out).cell (Below.refl B wr) k x hx
      have c0 := hc 0 _ rfl
      have c1 := hc 1 _ rfl
      simp only [wrE, Nat.add_zero] at c0 c1
      have HX := Lib.hid (puts_take s l k x hx)
      have HXV := Lib.hid x.hv
      have HO1 := Lib.hid (puts_ok (l.take k) HO.out)
      have Z1 := Lib.hid Z.out.drew
      have hk1 : (k : Int) < (n : Int) := by omega
      have hk0 : (0 : Int) ≤ (k : Int) := by omega
      generalize x.a = xa at *
      generalize x.v = xv at *
      clear hc hx
      go_wp2_with fail
      go_region_with (go_at_call 15; refine (write_any _ p d cap _ xa xv Z1.out.1 HO1.out HXV.out).mono ?_; rintro e' w3 ⟨rfl, hz⟩)
      all_goals
        have Z2 := Lib.hid (Z1.out.then_ hz)
        clear hz c0 c1
        go_wp2_with fail
        go_roundw
        case rel => exact ⟨k + 1, by omega, by go_num, by rw [HX.out]; exact Z2.out⟩
        case measure => simp [intOf]; omega
    · obtain rfl : k = n := by omega
      have HR := Lib.hid (show l.take k = l by rw [← HLL.out]; exact List.take_of_length_le (Nat.le_refl _))
      go_wp2_with fail
      go_end0
      rw [HR.out] at Z
      exact ⟨rfl, Z.out⟩
set_option maxHeartbeats 4000000 in
theorem ticks_any (w : World) (p d cap : Nat) (s : Flash) (n : Nat) (h : ChipAt w p d cap s) (hok : s.Ok) (hn : n ≤ 1000000) :
    Calls Try.prog 31 #[.pointer (some ⟨p, 0, none⟩), .int .i64 n] w (Did p d cap (s.ticks n) w) := by
  have HC := Lib.hid h.went
  have HO := Lib.hid hok
  clear h hok
  go_enter Try.func31, Try.ntmps31
  go_wp2_with fail
  go_loopw [4] (fun i wr => ∃ k : Nat, k ≤ n ∧ i = .int .i64 k ∧ Went p d cap (s.ticks k) w wr) (fun i _ => n - (intOf i).toNat)
  case atStart => exact ⟨0, Nat.zero_le _, rfl, HC.out⟩
  case round =>
    obtain ⟨k, hk, rfl, hz⟩ := hrel
    have Z := Lib.hid hz
    clear hz
    by_cases hlt : k < n
    · have hk1 : (k : Int) < (n : Int) := by omega
      have hk0 : (0 : Int) ≤ (k : Int) := by omega
      have HO1 := Lib.hid (ticks_ok k HO.out)
      go_wp2_with fail
      refine (tick_any _ p d cap _ Z.out.1 HO1.out).mono ?_
      rintro e' w3 ⟨rfl, hz⟩
      have Z2 := Lib.hid (Z.out.then_ hz)
      clear hz
      go_wp2_with fail
      go_roundw
      case rel => exact ⟨k + 1, by omega, by go_num, Z2.out⟩
      case measure => simp [intOf]; omega
    · obtain rfl : k = n := by omega
      go_wp2_with fail
      go_end0
      exact ⟨rfl, Z.out⟩

/-- a row of writes of the call's own, in a new block -/
def GivesW (w : World) (l : List Wr) (e : Ending) (w' : World) : Prop := ∃ b, e = .returned (.slice (some ⟨b, 0, none⟩) l.length l.length) ∧ w.heap.size ≤ b ∧ Many wrE w' w'.heap.size (some ⟨b, 0, none⟩) l.length l ∧ Below w.heap.size w w'
def wr (a v : Int) (ha : IsInt a) (hv : IsByte v) : Wr := ⟨a, v, ha, hv⟩
def key1 : Wr := ⟨85, 170, by decide, by decide⟩
def key2 : Wr := ⟨170, 85, by decide, by decide⟩
def cmd (v : Int) (hv : IsByte v) : Wr := ⟨85, v, by decide, hv⟩
def programW (a v : Int) (ha : IsInt a) (hv : IsByte v) : List Wr := [key1, key2, cmd 160 (by decide), ⟨a, v, ha, hv⟩]
def eraseW (a : Int) (ha : IsInt a) : List Wr := [key1, key2, cmd 128 (by decide), key1, key2, ⟨a, 48, ha, by decide⟩]
def wholeW : List Wr := [key1, key2, cmd 128 (by decide), key1, key2, cmd 16 (by decide)]
theorem program_put (w : World) (a v : Int) (ha : IsInt a) (hv : IsByte v) : Calls Try.prog 30 #[.int .i64 a, .int .u8 v] w (GivesW w (programW a v ha hv)) := by
  go_enter Try.func30, Try.ntmps30
  go_wp2_with fail
  go_ret
  exact ⟨w.heap.size, rfl, Nat.le_refl _, by rw [World.size_alloc]; exact many_new wrE w _ (programW a v ha hv) _ rfl, below_box w _⟩
theorem erase_put (w : World) (a : Int) (ha : IsInt a) : Calls Try.prog 32 #[.int .i64 a] w (GivesW w (eraseW a ha)) := by
  go_enter Try.func32, Try.ntmps32
  go_wp2_with fail
  go_ret
  exact ⟨w.heap.size, rfl, Nat.le_refl _, by rw [World.size_alloc]; exact many_new wrE w _ (eraseW a ha) _ rfl, below_box w _⟩
theorem whole_put (w : World) : Calls Try.prog 33 #[] w (GivesW w wholeW) := by
  go_enter Try.func33, Try.ntmps33
  go_wp2_with fail
  go_ret
  exact ⟨w.heap.size, rfl, Nat.le_refl _, by rw [World.size_alloc]; exact many_new wrE w _ wholeW _ rfl, below_box w _⟩
end Go.Proofs.Ytojdbmkbcjaikaa
