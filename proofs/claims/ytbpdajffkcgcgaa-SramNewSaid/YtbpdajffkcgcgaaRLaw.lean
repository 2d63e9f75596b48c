/-
  THE WALK OF keepsakelaw12.do.
-/
import Derived.Test.YtbpdajffkcgcgaaRNew
import Derived.Test.YtbpdajffkcgcgaaROpenL
namespace Go.Proofs.Ytbpdajffkcgcgaa
open Go.RowKit
set_option maxRecDepth 20000

def Ram.does (s : Ram) (x : Opn) : Ram := if x.k = 0 then s.write x.a x.v else if x.k = 1 then s.latch x.v else s
def Ram.plays (s : Ram) (l : List Opn) : Ram := l.foldl Ram.does s
theorem plays_take (s : Ram) (l : List Opn) (k : Nat) (x : Opn) (h : l[k]? = some x) : s.plays (l.take (k + 1)) = (s.plays (l.take k)).does x := by
  unfold Ram.plays
  rw [List.take_add_one, h]
  simp
theorem does_len (s : Ram) (x : Opn) : (s.does x).data.length = s.data.length := by
  unfold Ram.does
  split
  · exact Ram.write_len _ _ _
  · split <;> rfl
theorem plays_len (s : Ram) (l : List Opn) : (s.plays l).data.length = s.data.length := by
  unfold Ram.plays
  induction l generalizing s with
  | nil => rfl
  | cons x l ih => exact (ih (s.does x)).trans (does_len s x)
theorem does_ok {s : Ram} (x : Opn) (h : s.Ok) : (s.does x).Ok := by
  unfold Ram.does
  split
  · exact h.write x.a x.hv
  · split
    · exact h.latch x.v
    · exact h
theorem plays_ok {s : Ram} (l : List Opn) (h : s.Ok) : (s.plays l).Ok := by
  unfold Ram.plays
  induction l generalizing s with
  | nil => exact h
  | cons x l ih => exact ih (does_ok x h)
/-- no cell of a row lies in blocks -/
def Off (S : Nat → Prop) (A : Option Addr) (n : Nat) : Prop := ∀ b o, A = some ⟨b, o, none⟩ → 0 < n → ¬ S b
theorem Many.off {α : Type} {E : Enc α} {w w' : World} {B n : Nat} {A : Option Addr} {l : List α} {S : Nat → Prop} (h : Many E w B A n l) (hk : Keeps S w w') (hB : B ≤ w.heap.size) (hS : Off S A n) : Many E w' B A n l := by
  obtain ⟨h1, h2⟩ := h
  refine ⟨h1, fun hn => ?_⟩
  obtain ⟨b, o, e, hb, hc⟩ := h2 hn
  exact ⟨b, o, e, hb, fun i x hx j u hu => (hk.cell (b := b) (by omega) (hS b o e hn)).trans (hc i x hx j u hu)⟩
theorem Off.below {α : Type} {E : Enc α} {w : World} {B n p d : Nat} {A : Option Addr} {l : List α} (h : Many E w B A n l) (hp : B ≤ p) (hd : B ≤ d) : Off (Its p d) A n := by
  intro b o e hn hb
  obtain ⟨b', o', e', hb', _⟩ := h.2 hn
  rw [e] at e'
  injection e' with e'
  injection e' with e'
  rcases hb with rfl | rfl <;> omega
theorem Nums.off {k : IntKind} {w w' : World} {B n : Nat} {A : Option Addr} {l : List Int} {S : Nat → Prop} (h : Nums k w B A n l) (hk : Keeps S w w') (hB : B ≤ w.heap.size) (hS : Off S A n) : Nums k w' B A n l := by
  obtain ⟨h1, h2, h3⟩ := h
  refine ⟨h1, h2, fun hn => ?_⟩
  obtain ⟨b, o, e, hb, hc⟩ := h3 hn
  exact ⟨b, o, e, hb, fun i hi => (hk.cell (b := b) (by omega) (hS b o e hn)).trans (hc i hi)⟩
theorem Off.new {p d b o n : Nat} (hp : p < b) (hd : d < b) : Off (Its p d) (some ⟨b, o, none⟩) n := by
  intro b' o' e _ hb
  injection e with e
  injection e with e
  rcases hb with rfl | rfl <;> omega
set_option maxRecDepth 100000 in
set_option maxHeartbeats 4000000 in
theorem do_any (w : World) (p d cap : Nat) (s : Ram) (A : Option Addr) (n c B : Nat) (l : List Opn) (h : ChipAt w p d cap s) (hok : s.Ok) (hl : Many opE w B A n l) (hB : B ≤ w.heap.size) (hS : Off (Its p d) A n) (hn : n ≤ maxLen) :
    Calls Try.prog 22 #[.pointer (some ⟨p, 0, none⟩), .slice A n c] w (Did p d cap (s.plays l) w) := by
  have HC := Lib.hid h.went
  have HO := Lib.hid hok
  have HL := Lib.hid hl
  have HLL := Lib.hid hl.1
  have HS := Lib.hid hS
  unfold maxLen at hn
  clear h hok hl hS
  go_enter Try.func22, Try.ntmps22
  go_wp2_with fail
  go_loopw [4] (fun i wr => ∃ k : Nat, k ≤ n ∧ i = .int .i64 k ∧ Went p d cap (s.plays (l.take k)) w wr) (fun i _ => n - (intOf i).toNat)
  case atStart => exact ⟨0, Nat.zero_le _, rfl, HC.out⟩
  case round =>
    obtain ⟨k, hk, rfl, hz⟩ := hrel
    have Z := Lib.hid hz
    clear hz
    by_cases hlt : k < n
    · obtain ⟨x, hx⟩ : ∃ x, l[k]? = some x := ⟨l[k]'(by have := HLL.out; omega), by simp [show k < l.length by have := HLL.out; omega]⟩
      have HX := Lib.hid (plays_take s l k x hx)
      have HO1 := Lib.hid (plays_ok (l.take k) HO.out)
      obtain ⟨b, o, rfl, hc⟩ := HL.out.cell (Below.refl B w) k x hx
      have HCC := Lib.hid (show ∀ W', Keeps (Its p d) w W' → W'.cell? ⟨b, o + k * 3, none⟩ = some (.int .u8 x.k) ∧ W'.cell? ⟨b, o + k * 3 + 1, none⟩ = some (.int .i64 x.a) ∧ W'.cell? ⟨b, o + k * 3 + 2, none⟩ = some (.int .u8 x.v) from fun W' hk => by
        obtain ⟨b', o', e', hc'⟩ := (HL.out.off hk hB HS.out).cell (Below.refl B W') k x hx
        injection e' with e'
        injection e' with e1 e2
        subst e1 e2
        exact ⟨hc' 0 _ rfl, hc' 1 _ rfl, hc' 2 _ rfl⟩)
      obtain ⟨c0, c1, c2⟩ := HCC.out wr Z.out.2
      have HD := Lib.hid (show ∀ s : Ram, s.does x = if x.k = 0 then s.write x.a x.v else if x.k = 1 then s.latch x.v else s from fun _ => rfl)
      have Z1 := Lib.hid Z.out.drew
      have hk1 : (k : Int) < (n : Int) := by omega
      have hk0 : (0 : Int) ≤ (k : Int) := by omega
      clear hc hx
      generalize x.a = xa at *
      generalize x.v = xv at *
      generalize x.k = xk at *
      by_cases h0 : xk = 0
      · subst h0
        have u1 : ((0 : Int) == 1) = false := rfl
        go_wp2_with fail
        go_region_with (go_at_call 13; refine (write_any _ p d cap _ xa xv Z1.out.1 HO1.out).mono ?_; rintro e' w3 ⟨rfl, hz⟩)
        all_goals
          have Z2 := Lib.hid (Z1.out.then_ hz)
          obtain ⟨c0, c1, c2⟩ := HCC.out _ Z2.out.2
          clear hz
          go_wp2_with fail
          go_roundw
          case rel => exact ⟨k + 1, by omega, by go_num, by rw [HX.out, HD.out, if_pos trivial]; exact Z2.out⟩
          case measure => simp [intOf]; omega
      · have u0 : (xk == 0) = false := by simp [h0]
        by_cases h1 : xk = 1
        · subst h1
          go_wp2_with fail
          go_region_with (go_at_call 14; refine (latch_any _ p d cap _ xv Z1.out.1).mono ?_; rintro e' w3 ⟨rfl, hz⟩)
          all_goals
            have Z2 := Lib.hid (Z1.out.then_ hz)
            clear hz
            go_wp2_with fail
            go_roundw
            case rel => exact ⟨k + 1, by omega, by go_num, by rw [HX.out, HD.out, if_neg h0, if_pos trivial]; exact Z2.out⟩
            case measure => simp [intOf]; omega
        · have u1 : (xk == 1) = false := by simp [h1]
          go_wp2_with fail
          go_roundw
          case rel => exact ⟨k + 1, by omega, by go_num, by rw [HX.out, HD.out, if_neg h0, if_neg h1]; exact Z.out⟩
          case measure => simp [intOf]; omega
    · obtain rfl : k = n := by omega
      have HR := Lib.hid (show l.take k = l by rw [← HLL.out]; exact List.take_of_length_le (Nat.le_refl _))
      go_wp2_with fail
      go_end0
      rw [HR.out] at Z
      exact ⟨rfl, Z.out⟩
end Go.Proofs.Ytbpdajffkcgcgaa
