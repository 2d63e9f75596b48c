/-
  THE WALK OF keepsakelaw05.ImageNeeds.
-/
import Derived.Test.YtcojpiepbdcohaaDoorAwake
namespace Go.Proofs.YtcojpiepbdcohaaDoor
open Go.RowKit

theorem needs (a b m : Nat) (h1 : 1 ≤ m) (h2 : m ≤ 4096) : many a m ≤ many (a + b) m ∧ many b m ≤ many (a + b) m ∧ many (a + b) m ≤ many a m + many b m ∧ many a m + many b m ≤ many (a + b) m + 1 ∧ (many a m = 0 ↔ a = 0) ∧ a ≤ many a m * m := by
  obtain ⟨a1, a2, a3⟩ := many_bounds a m h1 h2
  obtain ⟨b1, b2, b3⟩ := many_bounds b m h1 h2
  obtain ⟨c1, c2, c3⟩ := many_bounds (a + b) m h1 h2
  generalize many a m = x at *
  generalize many b m = y at *
  generalize many (a + b) m = n at *
  have lt : ∀ p q : Nat, p * m < q * m → p < q := fun p q h => Nat.lt_of_mul_lt_mul_right h
  refine ⟨?_, ?_, ?_, ?_, ?_, a1⟩
  · have := lt x (n + 1) (by rw [Nat.add_mul]; omega)
    omega
  · have := lt y (n + 1) (by rw [Nat.add_mul]; omega)
    omega
  · have := lt n (x + y + 1) (by rw [Nat.add_mul, Nat.add_mul]; omega)
    omega
  · have := lt (x + y) (n + 2) (by rw [Nat.add_mul, Nat.add_mul]; omega)
    omega
  · constructor
    · rintro rfl; omega
    · rintro rfl; omega
theorem sectors_at (n m v : Nat) (w : World) (hn : n < 9223372036854775808) (hv : many n m = v) : Calls Tryd.prog 26 #[.int .i64 n, .int .i64 m] w fun e w' => e = .returned (.int .i64 v) ∧ w' = w :=
  sectors_any n m v w (by simp [Lit.wf, IntKind.min, IntKind.max, IntKind.signed, IntKind.bits]; omega) (by rw [many_eq, hv])

theorem imageNeeds_walk (a : Int) (wa : (Lit.int .u16 a).wf = true) (b : Int) (wb : (Lit.int .u16 b).wf = true) (s : Int) (ws : (Lit.int .u16 s).wf = true) (w : World) (hT : Tab w) :
    Calls Tryd.prog 9 #[.int .u16 a, .int .u16 b, .int .u16 s] w fun e w' => e = .returned (.bool true) ∧ Below w.heap.size w w' := by
  simp [Lit.wf, IntKind.min, IntKind.max, IntKind.signed, IntKind.bits] at wa wb ws
  obtain ⟨a, rfl⟩ := Int.eq_ofNat_of_zero_le wa.1
  obtain ⟨b, rfl⟩ := Int.eq_ofNat_of_zero_le wb.1
  obtain ⟨s, rfl⟩ := Int.eq_ofNat_of_zero_le ws.1
  obtain ⟨_, wa⟩ := wa
  obtain ⟨_, wb⟩ := wb
  obtain ⟨_, ws⟩ := ws
  obtain ⟨m, hm⟩ : ∃ m, 1 + s % 1000 = m := ⟨_, rfl⟩
  have hm1 : ((s : Int).tmod 1000) = (m - 1 : Nat) := by rw [Int.tmod_eq_emod_of_nonneg (by omega)]; omega
  have hm2 : (s : Int) % 1000 = (m - 1 : Nat) := by omega
  have hmb : 1 ≤ m ∧ m ≤ 1000 := by omega
  obtain ⟨n1, n2, n3, n4, n5, n6⟩ := needs a b m hmb.1 (by omega)
  have xb := (many_bounds a m hmb.1 (by omega)).2.2
  have yb := (many_bounds b m hmb.1 (by omega)).2.2
  have xm := (many_bounds a m hmb.1 (by omega)).2.1
  obtain ⟨x, hx⟩ : ∃ x, many a m = x := ⟨_, rfl⟩
  obtain ⟨y, hy⟩ : ∃ x, many b m = x := ⟨_, rfl⟩
  obtain ⟨n, hn⟩ : ∃ x, many (a + b) m = x := ⟨_, rfl⟩
  simp only [hx, hy, hn] at n1 n2 n3 n4 n5 n6 xb yb xm
  have HX := Lib.hid hx
  have HY := Lib.hid hy
  have HN := Lib.hid hn
  obtain ⟨p, hp⟩ : ∃ p, x * m = p := ⟨_, rfl⟩
  have hp2 : (x : Int) * (m : Int) = (p : Nat) := by rw [← hp, Int.natCast_mul]
  rw [hp] at n6 xm
  have N5 := Lib.hid n5
  have HT := Lib.hid hT
  have h1m : (1 : Int) + (m - 1 : Nat) = (m : Nat) := by omega
  obtain ⟨c, hc⟩ : ∃ c, a + b = c := ⟨_, rfl⟩
  have hab : (a : Int) + (b : Int) = (c : Nat) := by omega
  rw [hc] at HN
  have hc1 : c ≤ 131070 := by omega
  obtain ⟨hmb1, hmb2⟩ := hmb
  clear hm hx hy hn hp n5 hT hc
  go_enter Tryd.func9, Tryd.ntmps9
  go_wp2_with fail
  refine (awake_any w HT.out).mono ?_
  rintro e w1 ⟨rfl, hw1⟩
  have HO := Lib.hid hw1.bel
  clear hw1
  go_wp2_with fail
  refine (sectors_at a m x _ (by omega) HX.out).mono ?_
  rintro e w1 ⟨rfl, rfl⟩
  go_wp2_with fail
  refine (sectors_at b m y _ (by omega) HY.out).mono ?_
  rintro e w1 ⟨rfl, rfl⟩
  go_wp2_with fail
  refine (sectors_at c m n _ (by omega) HN.out).mono ?_
  rintro e w1 ⟨rfl, rfl⟩
  have hpb : p ≤ 70000 := by omega
  clear hm1 hm2 h1m hab xm ws HX HY HN HT hmb1 hmb2
  by_cases h : a = 0
  · have hx0 := N5.out.2 h
    subst h hx0
    go_wp2_with fail
    go_ret
    exact ⟨rfl, HO.out⟩
  · have hx0 : ¬ x = 0 := fun e => h (N5.out.1 e)
    have e1 : ((x : Int) == 0) = false := by simp; omega
    have e2 : ((a : Int) == 0) = false := by simp; omega
    go_wp2_with fail
    go_ret
    exact ⟨rfl, HO.out⟩
end Go.Proofs.YtcojpiepbdcohaaDoor
