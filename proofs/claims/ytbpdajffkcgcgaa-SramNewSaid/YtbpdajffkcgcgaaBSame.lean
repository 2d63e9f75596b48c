/-
  THE WALKS OF keepsakeref01.Same, keepsakeref02.Ints.
-/
import Derived.Test.YtbpdajffkcgcgaaBMem
namespace Go.Proofs.Ytbpdajffkcgcgaa
open Go.RowKit

theorem same_any (A1 A2 : Option Addr) (n c1 c2 B : Nat) (a b : List Int) (w : World) (hn : n ≤ maxLen) (ha : Nums .u8 w B A1 n a) (hb : Nums .u8 w B A2 n b) (hB : B ≤ w.heap.size) :
    Calls Try.prog 17 #[.slice A1 n c1, .slice A2 n c2] w fun e w' => e = .returned (.bool (decide (a = b))) ∧ Below w.heap.size w w' := by
  unfold maxLen at hn
  have HA := Lib.hid ha
  have HB := Lib.hid hb
  have HL := Lib.hid (show b.length = a.length by rw [ha.1, hb.1])
  have hne : ((n : Int) != (n : Int)) = false := by simp
  clear ha hb
  go_enter Try.func17, Try.ntmps17
  go_wp2_with fail
  go_loopw [5] (fun i wr => ∃ k : Nat, k ≤ n ∧ i = .int .i64 k ∧ (∀ j, j < k → a.getD j 0 = b.getD j 0) ∧ Below w.heap.size w wr) (fun i _ => n - (intOf i).toNat)
  case atStart => exact ⟨0, Nat.zero_le _, rfl, fun j hj => absurd hj (by omega), Below.refl _ _⟩
  case round =>
    obtain ⟨k, hk, rfl, heq, hbel⟩ := hrel
    have HE := Lib.hid heq
    have HBL := Lib.hid hbel
    clear heq hbel
    by_cases hlt : k < n
    · obtain ⟨b1, o1, rfl, hv1⟩ := HA.out.cell (HBL.out.mono hB) k hlt
      obtain ⟨b2, o2, rfl, hv2⟩ := HB.out.cell (HBL.out.mono hB) k hlt
      generalize hx : a.getD k 0 = x at *
      generalize hy : b.getD k 0 = y at *
      have HX := Lib.hid hx
      have HY := Lib.hid hy
      clear hx hy
      have hk0 : (0 : Int) ≤ (k : Int) := by omega
      have hk1 : (k : Int) < (n : Int) := by omega
      cases hxy : (x != y)
      · go_wp2_with fail
        go_quiet (fail)
        go_wp2_with fail
        go_roundw
        case rel =>
          refine ⟨k + 1, by omega, by go_num, ?_, below_drewN HBL.out _⟩
          intro j hj
          by_cases h : j = k
          · subst h; rw [HX.out, HY.out]; simpa using hxy
          · exact HE.out j (by omega)
        case measure => simp [intOf]; omega
      · go_wp2_with fail
        go_quiet (fail)
        go_wp2_with fail
        go_ret
        have hab : a ≠ b := fun e => by
          have : x = y := by rw [← HX.out, ← HY.out, e]
          simp [this] at hxy
        exact ⟨ret_bool (by simp [hab]), below_drewN HBL.out _⟩
    · have hab : a = b := ext_getD HL.out (fun j hj => HE.out j (by have := HA.out.1; omega))
      have HAB := Lib.hid hab
      clear hab
      go_wp2_with fail
      go_ret
      exact ⟨ret_bool (by simp [HAB.out]), HBL.out⟩

theorem same_refl (A1 A2 : Option Addr) (n c1 c2 B : Nat) (l : List Int) (w : World) (hn : n ≤ maxLen) (ha : Nums .u8 w B A1 n l) (hb : Nums .u8 w B A2 n l) (hB : B ≤ w.heap.size) :
    Calls Try.prog 17 #[.slice A1 n c1, .slice A2 n c2] w fun e w' => e = .returned (.bool true) ∧ Below w.heap.size w w' := by
  have := same_any A1 A2 n c1 c2 B l l w hn ha hb hB
  rwa [decide_eq_true rfl] at this

end Go.Proofs.Ytbpdajffkcgcgaa
