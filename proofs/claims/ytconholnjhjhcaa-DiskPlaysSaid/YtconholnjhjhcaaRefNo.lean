/-
  WHERE THE REFERENCE OPENS NO DISK.
-/
import Derived.Test.YtconholnjhjhcaaMade
namespace Go.Proofs.Ytconholnjhjhcaa
open Ks Go.RowKit

def RefNot (w : World) (e : Ending) (w' : World) : Prop := e = .returned (.pointer none) ∧ w' = w

set_option maxRecDepth 100000 in
set_option maxHeartbeats 1000000 in
theorem refOpen_no (w : World) (n : Int) (A : Option Addr) (k c : Nat) (hk : k ≤ 1000000) (h : n < 1 ∨ 4096 < n ∨ (k : Int) % n ≠ 0) : Calls Try.prog 28 #[.int .i64 n, .slice A k c] w (RefNot w) := by
  have H := Lib.hid h
  clear h
  by_cases h1 : n < 1
  · go_enter Try.func28, Try.ntmps28
    go_wp2_with fail
    go_ret
    exact ⟨rfl, rfl⟩
  by_cases h2 : 4096 < n
  · have g1 : decide (n < 1) = false := by simp; omega
    clear h1
    go_enter Try.func28, Try.ntmps28
    go_wp2_with fail
    go_ret
    exact ⟨rfl, rfl⟩
  have hne : ((k : Int) % n != 0) = true := by
    rcases H.out with h | h | h
    · omega
    · omega
    · simpa using h
  have g1 : decide (n < 1) = false := by simp; omega
  have g2 : decide (4096 < n) = false := by simp; omega
  have hm1 : 1 ≤ n := by omega
  have hm2 : n ≤ 4096 := by omega
  clear h1 h2
  go_enter Try.func28, Try.ntmps28
  go_wp2_with fail
  go_ret
  exact ⟨rfl, rfl⟩

set_option maxRecDepth 100000 in
set_option maxHeartbeats 1000000 in
theorem refNew_no (w : World) (m n : Int) (h : m < 0 ∨ 4096 < m ∨ n < 1 ∨ 4096 < n) : Calls Try.prog 14 #[.int .i64 m, .int .i64 n] w (RefNot w) := by
  have H := Lib.hid h
  clear h
  by_cases h1 : m < 0
  · go_enter Try.func14, Try.ntmps14
    go_wp2_with fail
    go_ret
    exact ⟨rfl, rfl⟩
  have g1 : decide (m < 0) = false := by simp; omega
  by_cases h2 : 4096 < m
  · clear h1
    go_enter Try.func14, Try.ntmps14
    go_wp2_with fail
    go_ret
    exact ⟨rfl, rfl⟩
  have g2 : decide (4096 < m) = false := by simp; omega
  by_cases h3 : n < 1
  · clear h1 h2
    go_enter Try.func14, Try.ntmps14
    go_wp2_with fail
    go_ret
    exact ⟨rfl, rfl⟩
  have g3 : decide (n < 1) = false := by simp; omega
  have h4 : 4096 < n := by
    rcases H.out with h | h | h | h <;> omega
  clear h1 h2 h3
  go_enter Try.func14, Try.ntmps14
  go_wp2_with fail
  go_ret
  exact ⟨rfl, rfl⟩
end Go.Proofs.Ytconholnjhjhcaa
