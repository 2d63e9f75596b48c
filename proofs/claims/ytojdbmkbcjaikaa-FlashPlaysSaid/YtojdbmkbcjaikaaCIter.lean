/-
  THE TWO ITERATORS: slices.Values' over ints, cut.row's.
-/
import Derived.Test.YtojdbmkbcjaikaaBMem
import Derived.Test.YtojdbmkbcjaikaaCMath
import Derived.RangeFuncBox
import Derived.Shelf.Abstract
import Derived.Shelf.RegionOpen
import Derived.OwnWalkIn
import Derived.TacticsInMore
import Derived.LoopNIn
import Derived.LoopIn
namespace Go.Proofs.Ytojdbmkbcjaikaa
open Go.RowKit Go.Shelf
set_option maxRecDepth 20000
attribute [local go_sem] Oper.semAt_some

/-- an iterator over ints whose loop leaves what lies below n₀ -/
abbrev Stops (n gf : Nat) (lb : Array Value) (n₀ : Nat) (zs : List Int) (w : World) : Prop :=
  SeqStopsK Fence.wide n Try.prog gf lb (fun x : Int => #[Value.int .i64 x]) (Below n₀) (fun ys => ys = zs) (fun pre => pre <+: zs) zs.length w

theorem take_succ_getD (zs : List Int) (k : Nat) (h : k < zs.length) : zs.take (k + 1) = zs.take k ++ [zs.getD k 0] := by
  rw [List.take_succ_eq_append_getElem h]
  simp [List.getD, h]

theorem rowL_at (a m : Int) (k : Nat) (h : k < m.toNat) : (rowL a m).getD k 0 = wrap64 (a + (k : Int)) := by
  simp [rowL, List.getD, h, wrap64]

set_option maxRecDepth 100000 in
set_option maxHeartbeats 2000000 in
theorem row1_in (n : Nat) (hn : 1 ≤ n) (l Bm Bf n₀ : Nat) (a m : Int) (J Jx : List Int → World → Prop)
    (hY : ∀ pre x W, J pre W → pre.length < (rowL a m).length → YieldAt Fence.wide (n - 1) Try.prog l #[.int .i64 x] W fun e W' =>
      (e = .returned (.bool true) ∧ J (pre ++ [x]) W' ∧ Below n₀ W W') ∨ (e = .returned (.bool false) ∧ Jx (pre ++ [x]) W'))
    (W : World) (hBm : W.cell? ⟨Bm, 0, none⟩ = some (.int .i64 m)) (hBf : W.cell? ⟨Bf, 0, none⟩ = some (.int .i64 a)) (hlt : Bf < n₀) (hm : m ≤ 9223372036854775807) (h0 : J [] W) :
    CallsIn Fence.wide n Try.prog 61 #[.func (.yield l) #[] #[], .pointer (some ⟨Bm, 0, none⟩), .pointer (some ⟨Bf, 0, none⟩)] W fun e W' => (∃ v, e = .returned v) ∧
      ((∃ ys, ys = rowL a m ∧ J ys W') ∨ (∃ pre, pre <+: rowL a m ∧ Jx pre W')) := by
  have hlen := rowL_len a m
  refine callsIn_of_wp Try.func61 rfl trivial ?_ rfl
  simp only [Try.ntmps61, List.size_toArray, List.length_cons, List.length_nil, Nat.reduceAdd, Nat.reduceSub, Array.replicate_succ, Array.replicate_zero, List.push_toArray, List.append_toArray, List.nil_append, List.cons_append]
  gi_wp2
  gi_loopw [6] (fun i wr => ∃ k : Nat, k ≤ m.toNat ∧ i = .int .i64 k ∧ J ((rowL a m).take k) wr ∧ Below n₀ W wr)
    (fun i _ => m.toNat - (intOf i).toNat)
  case atStart => exact ⟨0, Nat.zero_le _, rfl, by simpa using h0, Below.refl _ _⟩
  case round =>
    obtain ⟨k, hk, rfl, hJs, hnx⟩ := hrel
    by_cases hkm : k < m.toNat
    · have hcx := (hnx.cell (p := ⟨Bf, 0, none⟩) hlt).trans hBf
      obtain ⟨fn, tmps, assign, body, hy, hR⟩ := hY _ (wrap64 (a + (k : Int))) wr hJs (by rw [List.length_take]; omega)
      have HT := Lib.hid (take_succ_getD (rowL a m) k (by omega))
      rw [rowL_at a m k hkm] at HT
      have hk1 : (k : Int) < m := by omega
      gi_wp2
      refine hR.mono ?_
      rintro e W3 (⟨rfl, hJ3, hk3⟩ | ⟨rfl, hJx3⟩)
      · gi_wp2
        go_roundw
        case rel => exact ⟨k + 1, by omega, by go_num, by rw [HT.out]; exact hJ3, hnx.trans hk3⟩
        case measure => simp [intOf]; omega
      · gi_wp2
        refine bodyPost_ret (results_none rfl _ _ _) rfl ?_
        exact ⟨⟨_, rfl⟩, .inr ⟨_, by rw [← HT.out]; exact List.take_prefix _ _, hJx3⟩⟩
    · have hk1 : ¬ (k : Int) < m := by omega
      gi_wp2
      go_end0
      rw [List.take_of_length_le (by omega)] at hJs
      exact ⟨⟨_, rfl⟩, .inl hJs⟩

set_option maxHeartbeats 1000000 in
theorem row_any (a m : Int) (w : World) : Calls Try.prog 55 #[.int .i64 a, .int .i64 m] w fun e w' =>
    e = .returned (.func (.func 61) #[] #[.pointer (some ⟨w.heap.size + 1, 0, none⟩), .pointer (some ⟨w.heap.size, 0, none⟩)]) ∧ w' = (w.alloc (.cells #[.int .i64 a] 3)).alloc (.cells #[.int .i64 m] 3) := by
  go_enter Try.func55, Try.ntmps55
  go_wp2_with fail
  go_ret
  exact ⟨rfl, rfl⟩
theorem row_stops (n : Nat) (hn : 1 ≤ n) (Bm Bf n₀ : Nat) (a m : Int) (w : World) (h1 : Bm < w.heap.size) (h2 : Bf < n₀) (hn₀ : n₀ ≤ w.heap.size)
    (hcm : w.cell? ⟨Bm, 0, none⟩ = some (.int .i64 m)) (hcf : w.cell? ⟨Bf, 0, none⟩ = some (.int .i64 a)) (hm : m ≤ 9223372036854775807) :
    Stops n 61 #[.pointer (some ⟨Bm, 0, none⟩), .pointer (some ⟨Bf, 0, none⟩)] n₀ (rowL a m) w := fun l J Jx W hW _ _ hY h0 =>
  row1_in n hn l Bm Bf n₀ a m J Jx hY W ((hW.cell (p := ⟨Bm, 0, none⟩) h1).trans hcm) ((hW.cell (p := ⟨Bf, 0, none⟩) (by show Bf < _; omega)).trans hcf) h2 hm h0
end Go.Proofs.Ytojdbmkbcjaikaa
