/-
  THE WALKS OF crc.bytesOn's CLOSURE, crc.bytesOn, crc.Join.
-/
import Derived.Test.YtdbfmmjncoffnaaDoorPoly
import Derived.Lib.MinMax
namespace Go.Proofs.YtdbfmmjncoffnaaDoor
open Ks Go.RowKit

theorem power_any (k : Nat) : ∀ (n : Int) (b : Nat) (w : World), 0 ≤ n → n < 2 ^ k → n ≤ 1099511627776 →
    w.cell? ⟨b, 0, none⟩ = some (.func (.func 25) #[] #[.pointer (some ⟨b, 0, none⟩)]) →
    Calls Tryd.prog 25 #[.int .i64 n, .pointer (some ⟨b, 0, none⟩)] w fun e w' => e = .returned (.int .u32 (U (pw n.toNat))) ∧ w = w' := by
  induction k with
  | zero =>
    intro n b w h0 h1 h2 hc
    obtain rfl : n = 0 := by omega
    go_enter Tryd.func25, Tryd.ntmps25
    go_wp2_with fail
    go_ret
    exact ⟨rfl, rfl⟩
  | succ k ih =>
    intro n b w h0 h1 h2 hc
    have IH := Lib.hid ih
    clear ih
    have hk : n / 2 < 2 ^ k := by rw [Int.pow_succ] at h1; omega
    have HK := Lib.hid hk
    clear hk h1
    by_cases hz : n = 0
    · subst hz
      go_enter Tryd.func25, Tryd.ntmps25
      go_wp2_with fail
      go_ret
      exact ⟨rfl, rfl⟩
    · have hb : (n == 0) = false := by simp [hz]
      have hp : 0 < n := by omega
      clear hz
      by_cases he : n % 2 = 0
      · have hm : (n % 2 == 0) = true := by simp [he]
        have HF := Lib.hid (show times (pw (n / 2).toNat) (pw (n / 2).toNat) = pw n.toNat by
          rw [show (n / 2).toNat = n.toNat / 2 by omega]; exact pw_even _ (by omega))
        clear he
        go_enter Tryd.func25, Tryd.ntmps25
        go_wp2_with fail
        refine (IH.out (n / 2) b w (by omega) HK.out (by omega) hc).mono ?_
        rintro e w' ⟨rfl, rfl⟩
        go_wp2_with fail
        refine (times_any _ _ _).mono ?_
        rintro e w' ⟨rfl, rfl⟩
        go_wp2_with fail
        go_ret
        exact ⟨ret_int (by rw [HF.out]), rfl⟩
      · have hm : (n % 2 == 0) = false := by simp [he]
        have HF := Lib.hid (show times (times (pw (n / 2).toNat) (pw (n / 2).toNat)) octet = pw n.toNat by
          rw [show (n / 2).toNat = n.toNat / 2 by omega]; exact pw_odd _ (by omega))
        clear he
        go_enter Tryd.func25, Tryd.ntmps25
        go_wp2_with fail
        refine (IH.out (n / 2) b w (by omega) HK.out (by omega) hc).mono ?_
        rintro e w' ⟨rfl, rfl⟩
        go_wp2_with fail
        refine (times_any _ _ _).mono ?_
        rintro e w' ⟨rfl, rfl⟩
        go_wp2_with fail
        rw [show (8388608 : Int) = U octet from rfl]
        refine (times_any _ _ _).mono ?_
        rintro e w' ⟨rfl, rfl⟩
        go_wp2_with fail
        go_ret
        exact ⟨ret_int (by rw [HF.out]), rfl⟩

theorem bytesOn_any (n : Int) (w : World) (h0 : 0 ≤ n) (h1 : n ≤ 1099511627776) :
    Calls Tryd.prog 22 #[.int .i64 n] w fun e w' => e = .returned (.int .u32 (U (pw n.toNat))) ∧ Below w.heap.size w w' := by
  have hmf : ∀ (fn : Fn) (first cap : Array Value) (w : World), (Instr.makeFunc fn first cap).run Tryd.prog w = .ok (.func fn first cap) w := fun _ _ _ _ => rfl
  have hst : ∀ (fn : Fn) (first cap : Array Value) (a : Addr) (w : World), (store a (.func fn first cap)).run Tryd.prog w = stored Tryd.prog w a (.func fn first cap) .plain := fun _ _ _ _ _ => run_store _ _ _ _ _ rfl
  go_enter Tryd.func22, Tryd.ntmps22
  go_wp2_with fail
  refine (power_any 64 n w.heap.size _ h0 (Int.lt_of_le_of_lt h1 (by decide)) h1 ?_).mono ?_
  · simp [go_sem]
  rintro e w' ⟨rfl, rfl⟩
  go_wp2_with fail
  go_ret
  exact ⟨rfl, (Below.refl _ _).alloc (Nat.le_refl _) _⟩

theorem join_any (a b : BitVec 32) (n : Int) (w : World) (h0 : 0 ≤ n) (h1 : n ≤ 1099511627776) :
    Calls Tryd.prog 14 #[.int .u32 (U a), .int .u32 (U b), .int .i64 n] w fun e w' => e = .returned (.int .u32 (U (join a b n.toNat))) ∧ Below w.heap.size w w' := by
  have HM := Lib.hid (show min (max n 0) 1099511627776 = n by omega)
  have HF := Lib.hid (show bits .xor .u32 (U (times a (pw n.toNat))) (U b) = U (join a b n.toNat) by rw [xor_U, join_times])
  go_enter Tryd.func14, Tryd.ntmps14
  go_wp2_with fail
  rw [HM.out]
  refine (bytesOn_any n _ h0 h1).mono ?_
  rintro e w1 ⟨rfl, hb⟩
  go_wp2_with fail
  refine (times_any _ _ _).mono ?_
  rintro e w' ⟨rfl, rfl⟩
  go_wp2_with fail
  go_ret
  exact ⟨ret_int HF.out, hb⟩
end Go.Proofs.YtdbfmmjncoffnaaDoor
