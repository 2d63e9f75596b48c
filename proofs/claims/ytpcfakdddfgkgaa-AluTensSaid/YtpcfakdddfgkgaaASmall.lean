/-
  THE WALKS OF alu's set, digit, tens, Nz, Cmp, Bit, up, down, Asl, Lsr, Rol, Ror, Sbx.
-/
import Derived.Test.YtpcfakdddfgkgaaAMath
import Derived.Test.YtpcfakdddfgkgaaBMem
import Derived.Handy
namespace Go.Proofs.Ytpcfakdddfgkgaa
open Go.RowKit
set_option maxRecDepth 20000

theorem andN (x y : Nat) (hx : x < 256) (hy : y < 256) : bits .and .u8 (x : Int) (y : Int) = ((x &&& y : Nat) : Int) := u8_and_nat x y hx hy
theorem wrap8 (n : Nat) : IntKind.u8.wrap (n : Int) = ((n % 256 : Nat) : Int) := by rw [IntKind.wrap_u8']; omega
theorem set_any (w : World) (p f : Nat) (on : Bool) (hp : p < 256) (hf : f ∈ FL) :
    Calls Try.prog 46 #[.int .u8 p, .int .u8 f, .bool on] w fun e w' => e = .returned (.int .u8 (sf p f on : Nat)) ∧ w = w' := by
  have hf' : f < 256 := (show ∀ f ∈ FL, f < 256 by decide) f hf
  have e1 := u8_or_nat p f hp hf'
  have e2 := u8_andNot_nat p f hp hf'
  rw [sf_or f hf p hp] at e1
  rw [sf_not f hf p hp] at e2
  go_enter Try.func46, Try.ntmps46
  cases on
  · go_wp2_with fail
    go_ret
    exact ⟨rfl, rfl⟩
  · go_wp2_with fail
    go_ret
    exact ⟨rfl, rfl⟩
theorem band (x y : Nat) (hx : x < 256) (hy : y < 256) : bits .and .u8 (x : Int) (y : Int) = ((x &&& y : Nat) : Int) := u8_and_nat x y hx hy
theorem guard128 (v : Nat) (hv : v < 256) : (bits .and .u8 (v : Int) 128 != 0) = decide (127 < v) := by
  have e := u8_and_nat v 128 hv (by omega)
  have h := and_128 v hv
  rw [show ((128 : Nat) : Int) = 128 from rfl] at e
  rw [e, bne, Bool.eq_iff_iff]
  simp only [Bool.not_eq_true', beq_eq_false_iff_ne, decide_eq_true_eq]
  omega
theorem guard64 (v : Nat) (hv : v < 256) : (bits .and .u8 (v : Int) 64 != 0) = decide (v / 64 % 2 = 1) := by
  have e := u8_and_nat v 64 hv (by omega)
  have h := and_64 v hv
  rw [show ((64 : Nat) : Int) = 64 from rfl] at e
  rw [e, bne, Bool.eq_iff_iff]
  simp only [Bool.not_eq_true', beq_eq_false_iff_ne, decide_eq_true_eq]
  omega
theorem guard8 (v : Nat) (hv : v < 256) : (bits .and .u8 (v : Int) 8 != 0) = dec v := by
  have e := u8_and_nat v 8 hv (by omega)
  have h := and_8 v hv
  rw [show ((8 : Nat) : Int) = 8 from rfl] at e
  rw [e, bne, Bool.eq_iff_iff, dec]
  simp only [Bool.not_eq_true', beq_eq_false_iff_ne, decide_eq_true_eq]
  omega
theorem guard1 (v : Nat) (hv : v < 256) : (bits .and .u8 (v : Int) 1 != 0) = decide (v % 2 = 1) := by
  have e := u8_and_nat v 1 hv (by omega)
  have h := and_1 v hv
  rw [show ((1 : Nat) : Int) = 1 from rfl] at e
  rw [e, bne, Bool.eq_iff_iff]
  simp only [Bool.not_eq_true', beq_eq_false_iff_ne, decide_eq_true_eq]
  omega
theorem mask1 (v : Nat) (hv : v < 256) : bits .and .u8 (v : Int) 1 = ((v % 2 : Nat) : Int) := by
  have e := u8_and_nat v 1 hv (by omega)
  rw [and_1 v hv] at e
  exact e
theorem nz_any (w : World) (p v : Nat) (hp : p < 256) (hv : v < 256) :
    Calls Try.prog 28 #[.int .u8 p, .int .u8 v] w fun e w' => e = .returned (.int .u8 (nz p v : Nat)) ∧ w = w' := by
  have e1 := guard128 v hv
  have h1 := sf_lt 128 (by decide) p hp (decide (127 < v))
  go_enter Try.func28, Try.ntmps28
  go_wp2_with fail
  refine (set_any w p 128 (decide (127 < v)) hp (by decide)).mono ?_
  rintro e w' ⟨rfl, rfl⟩
  go_wp2_with fail
  rw [show ((v : Int) == 0) = decide (v = 0) by rw [Bool.eq_iff_iff]; simp]
  refine (set_any w _ 2 (decide (v = 0)) h1 (by decide)).mono ?_
  rintro e w' ⟨rfl, rfl⟩
  go_wp2_with fail
  go_ret
  exact ⟨rfl, rfl⟩
theorem up_any (w : World) (m i p : Nat) (hm : m < 256) (hi : i < 2) (hp : p < 256) :
    Calls Try.prog 42 #[.int .u8 m, .int .u8 i, .int .u8 p] w fun e w' => e = .returned (.tuple #[.int .u8 (upV m i : Nat), .int .u8 (upP m i p : Nat)]) ∧ w = w' := by
  have e1 := guard128 m hm
  have h1 := sf_lt 1 (by decide) p hp (decide (127 < m))
  have h2 := upV_lt (m := m) hi
  have e2 : bits .or .u8 ((m : Int) * 2 % 256) i = (upV m i : Nat) := by
    have a := u8_or_nat (m % 128 * 2) i (by omega) (by omega)
    rw [or_low _ (by omega) _ hi] at a
    rw [show ((m : Int) * 2 % 256) = ((m % 128 * 2 : Nat) : Int) by omega, a]
    unfold upV; omega
  have HN := Lib.hid (nz_any w _ _ h1 h2)
  go_enter Try.func42, Try.ntmps42
  go_wp2_with fail
  refine (set_any w p 1 (decide (127 < m)) hp (by decide)).mono ?_
  rintro e w' ⟨rfl, rfl⟩
  go_wp2_with fail
  refine (HN.out).mono ?_
  rintro e w' ⟨rfl, rfl⟩
  go_wp2_with fail
  go_ret2
  exact ⟨rfl, rfl⟩
theorem down_any (w : World) (m i p : Nat) (hm : m < 256) (hi : i < 2) (hp : p < 256) :
    Calls Try.prog 43 #[.int .u8 m, .int .u8 i, .int .u8 p] w fun e w' => e = .returned (.tuple #[.int .u8 (downV m i : Nat), .int .u8 (downP m i p : Nat)]) ∧ w = w' := by
  have e1 := guard1 m hm
  have h1 := sf_lt 1 (by decide) p hp (decide (m % 2 = 1))
  have h2 := downV_lt hm hi
  have e2 : bits .or .u8 ((m : Int) / 2) ((i : Int) * 128) = (downV m i : Nat) := by
    have a := u8_or_nat (m / 2) (i * 128) (by omega) (by omega)
    rw [or_high _ (by omega) _ hi] at a
    rw [show ((m : Int) / 2) = ((m / 2 : Nat) : Int) by omega, show ((i : Int) * 128) = ((i * 128 : Nat) : Int) by omega, a]
    unfold downV; omega
  have HN := Lib.hid (nz_any w _ _ h1 h2)
  go_enter Try.func43, Try.ntmps43
  go_wp2_with fail
  refine (set_any w p 1 (decide (m % 2 = 1)) hp (by decide)).mono ?_
  rintro e w' ⟨rfl, rfl⟩
  go_wp2_with fail
  refine (HN.out).mono ?_
  rintro e w' ⟨rfl, rfl⟩
  go_wp2_with fail
  go_ret2
  exact ⟨rfl, rfl⟩
theorem digit_any (w : World) (v : Nat) (hv : v < 256) :
    Calls Try.prog 49 #[.int .u8 v] w fun e w' => e = .returned (.int .i64 (v % 16 : Nat)) ∧ w = w' := by
  go_enter Try.func49, Try.ntmps49
  go_wp2_with fail
  go_ret
  exact ⟨rfl, rfl⟩
theorem tens_any (w : World) (v : Nat) (hv : v < 256) :
    Calls Try.prog 51 #[.int .u8 v] w fun e w' => e = .returned (.int .i64 (v - v % 16 : Nat)) ∧ w = w' := by
  have e1 : IntKind.i64.wrap ((v : Int) - (v : Int) % 16) = ((v - v % 16 : Nat) : Int) := by rw [IntWalk.i64_in _ (by omega)]; omega
  go_enter Try.func51, Try.ntmps51
  go_wp2_with fail
  refine (digit_any w v hv).mono ?_
  rintro e w' ⟨rfl, rfl⟩
  go_wp2_with fail
  go_ret
  exact ⟨rfl, rfl⟩
theorem cmp_any (w : World) (r m p : Nat) (hr : r < 256) (hm : m < 256) (hp : p < 256) :
    Calls Try.prog 30 #[.int .u8 r, .int .u8 m, .int .u8 p] w fun e w' => e = .returned (.int .u8 (cmp r m p : Nat)) ∧ w = w' := by
  have h1 := sf_lt 1 (by decide) p hp (decide (m ≤ r))
  have e1 : ((r : Int) - m) % 256 = (((r + 256 - m) % 256 : Nat) : Int) := by omega
  have HN := Lib.hid (nz_any w _ ((r + 256 - m) % 256) h1 (Nat.mod_lt _ (by omega)))
  go_enter Try.func30, Try.ntmps30
  go_wp2_with fail
  refine (set_any w p 1 (decide (m ≤ r)) hp (by decide)).mono ?_
  rintro e w' ⟨rfl, rfl⟩
  go_wp2_with fail
  refine (HN.out).mono ?_
  rintro e w' ⟨rfl, rfl⟩
  go_wp2_with fail
  go_ret
  exact ⟨rfl, rfl⟩
theorem sbx_any (w : World) (x m p : Nat) (hx : x < 256) (hm : m < 256) (hp : p < 256) :
    Calls Try.prog 26 #[.int .u8 x, .int .u8 m, .int .u8 p] w fun e w' => e = .returned (.tuple #[.int .u8 ((x + 256 - m) % 256 : Nat), .int .u8 (cmp x m p : Nat)]) ∧ w = w' := by
  have e1 : ((x : Int) - m) % 256 = (((x + 256 - m) % 256 : Nat) : Int) := by omega
  go_enter Try.func26, Try.ntmps26
  go_wp2_with fail
  refine (cmp_any w x m p hx hm hp).mono ?_
  rintro e w' ⟨rfl, rfl⟩
  go_wp2_with fail
  go_ret2
  exact ⟨rfl, rfl⟩
theorem bit_any (w : World) (a m p : Nat) (ha : a < 256) (hm : m < 256) (hp : p < 256) :
    Calls Try.prog 32 #[.int .u8 a, .int .u8 m, .int .u8 p] w fun e w' => e = .returned (.int .u8 (bit a m p : Nat)) ∧ w = w' := by
  have e1 := guard128 m hm
  have e2 := guard64 m hm
  have e3 : (bits .and .u8 (a : Int) (m : Int) == 0) = decide (a &&& m = 0) := by rw [u8_and_nat a m ha hm, Bool.eq_iff_iff]; simp
  have h1 := sf_lt 128 (by decide) p hp (decide (127 < m))
  have h2 := sf_lt 64 (by decide) _ h1 (decide (m / 64 % 2 = 1))
  go_enter Try.func32, Try.ntmps32
  go_wp2_with fail
  refine (set_any w p 128 (decide (127 < m)) hp (by decide)).mono ?_
  rintro e w' ⟨rfl, rfl⟩
  go_wp2_with fail
  refine (set_any w _ 64 (decide (m / 64 % 2 = 1)) h1 (by decide)).mono ?_
  rintro e w' ⟨rfl, rfl⟩
  go_wp2_with fail
  refine (set_any w _ 2 (decide (a &&& m = 0)) h2 (by decide)).mono ?_
  rintro e w' ⟨rfl, rfl⟩
  go_wp2_with fail
  go_ret
  exact ⟨rfl, rfl⟩
theorem asl_any (w : World) (m p : Nat) (hm : m < 256) (hp : p < 256) :
    Calls Try.prog 16 #[.int .u8 m, .int .u8 p] w fun e w' => e = .returned (.tuple #[.int .u8 (upV m 0 : Nat), .int .u8 (upP m 0 p : Nat)]) ∧ w = w' := by
  go_enter Try.func16, Try.ntmps16
  go_wp2_with fail
  refine (up_any w m 0 p hm (by omega) hp).mono ?_
  rintro e w' ⟨rfl, rfl⟩
  go_wp2_with fail
  go_ret2
  exact ⟨rfl, rfl⟩
theorem lsr_any (w : World) (m p : Nat) (hm : m < 256) (hp : p < 256) :
    Calls Try.prog 18 #[.int .u8 m, .int .u8 p] w fun e w' => e = .returned (.tuple #[.int .u8 (downV m 0 : Nat), .int .u8 (downP m 0 p : Nat)]) ∧ w = w' := by
  go_enter Try.func18, Try.ntmps18
  go_wp2_with fail
  refine (down_any w m 0 p hm (by omega) hp).mono ?_
  rintro e w' ⟨rfl, rfl⟩
  go_wp2_with fail
  go_ret2
  exact ⟨rfl, rfl⟩
theorem rol_any (w : World) (m p : Nat) (hm : m < 256) (hp : p < 256) :
    Calls Try.prog 20 #[.int .u8 m, .int .u8 p] w fun e w' => e = .returned (.tuple #[.int .u8 (upV m (p % 2) : Nat), .int .u8 (upP m (p % 2) p : Nat)]) ∧ w = w' := by
  have e1 := mask1 p hp
  go_enter Try.func20, Try.ntmps20
  go_wp2_with fail
  refine (up_any w m (p % 2) p hm (by omega) hp).mono ?_
  rintro e w' ⟨rfl, rfl⟩
  go_wp2_with fail
  go_ret2
  exact ⟨rfl, rfl⟩
theorem ror_any (w : World) (m p : Nat) (hm : m < 256) (hp : p < 256) :
    Calls Try.prog 22 #[.int .u8 m, .int .u8 p] w fun e w' => e = .returned (.tuple #[.int .u8 (downV m (p % 2) : Nat), .int .u8 (downP m (p % 2) p : Nat)]) ∧ w = w' := by
  have e1 := mask1 p hp
  go_enter Try.func22, Try.ntmps22
  go_wp2_with fail
  refine (down_any w m (p % 2) p hm (by omega) hp).mono ?_
  rintro e w' ⟨rfl, rfl⟩
  go_wp2_with fail
  go_ret2
  exact ⟨rfl, rfl⟩
end Go.Proofs.Ytpcfakdddfgkgaa
