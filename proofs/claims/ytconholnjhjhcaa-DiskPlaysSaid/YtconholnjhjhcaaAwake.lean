/-
  THE WALK OF awake: the chapter's example.
-/
import Derived.Test.YtconholnjhjhcaaDo
namespace Go.Proofs.Ytconholnjhjhcaa
open Ks Go.RowKit

/-- the example's disk -/
def ex0 : St := fresh 1 (List.replicate 2 (List.replicate 1 0))
def ex1 : St := (ex0.write 1 [7]).1
def ex2 : St := ex1.crash [(1, [])]
theorem ex_err : (ex0.write 1 [7]).2 = 0 := by decide +kernel
theorem ex_bytes : ex2.last.flatten = [0, 7] := by decide +kernel
theorem ex_len : ex2.last.length = 2 := by decide +kernel
theorem ex_size : ex2.size = 1 := by decide +kernel
theorem ex_ops : ex2.ops = 1 := by decide +kernel
theorem ex_wr : ex2.wr = 1 := by decide +kernel
theorem ex1_cn : ex1.cn = 1 := by decide +kernel
theorem ex1_len : ex1.last.length = 2 := by decide +kernel
theorem ex1_size : ex1.size = 1 := by decide +kernel

theorem same_bool {a b : List Int} (h : a = b) : decide (a = b) = true := decide_eq_true h

theorem bys_one (w : World) (x : Int) : Bys (w.alloc (.cells #[.int .u8 x] 5)) (fun b => b = w.heap.size) (.slice (some ⟨w.heap.size, 0, none⟩) 1 1) [x] := by
  refine ⟨_, _, rfl, Nat.le_refl _, fun _ => ⟨w.heap.size, 0, rfl, rfl, fun k hk => ?_⟩⟩
  rw [Nat.zero_add, cell_of_row _ _ _ _ _ _ (heap_alloc_new w _)]
  simp at hk
  subst hk
  rfl

theorem bys_two (w : World) (x y : Int) : Bys (w.alloc (.cells #[.int .u8 x, .int .u8 y] 5)) (fun b => b = w.heap.size) (.slice (some ⟨w.heap.size, 0, none⟩) 2 2) [x, y] := by
  refine ⟨_, _, rfl, Nat.le_refl _, fun _ => ⟨w.heap.size, 0, rfl, rfl, fun k hk => ?_⟩⟩
  rw [Nat.zero_add, cell_of_row _ _ _ _ _ _ (heap_alloc_new w _)]
  match k, hk with
  | 0, _ | 1, _ => rfl
theorem tears_one (w : World) : Tears (w.alloc (.cells #[.int .i64 1, .slice none 0 0] 59)) (fun b => b = w.heap.size) (.slice (some ⟨w.heap.size, 0, none⟩) 1 1) [(1, [])] := by
  refine ⟨_, _, rfl, Nat.le_refl _, fun _ => ⟨w.heap.size, 0, rfl, rfl, fun k hk => ?_⟩⟩
  simp at hk
  subst hk
  refine ⟨?_, .slice none 0 0, ?_, Bys.nil _ _⟩
  · rw [cell_of_row _ _ _ _ _ _ (heap_alloc_new w _)]
    rfl
  · rw [cell_of_row _ _ _ _ _ _ (heap_alloc_new w _)]
    rfl

/-- true; nothing that was there has changed -/
def Woke (w : World) (e : Ending) (w' : World) : Prop := e = .returned (.bool true) ∧ Keeps No w w'

set_option maxRecDepth 100000 in
set_option maxHeartbeats 2000000 in
theorem awake_any (w : World) : Calls Try.prog 11 #[] w (Woke w) := by
  go_enter Try.func11, Try.ntmps11
  go_wp2_with fail
  refine (new_ok w 2 1 (by omega) (by omega) (by omega)).mono ?_
  rintro e w1 ⟨p, rfl, hd, hk⟩
  have HD := Lib.hid (show DiskAt Try.prog w1 p (Grow No w w1) ex0 from hd)
  have HF := Lib.hid (show ∀ b, Grow No w w1 b → w.heap.size ≤ b from fun b hb => by
    rcases hb with hb | hb
    · exact hb.elim
    · exact hb.1)
  have HK := Lib.hid hk
  clear hd hk
  obtain ⟨F, hF⟩ : ∃ F, Grow No w w1 = F := ⟨_, rfl⟩
  rw [hF] at HD HF
  clear hF
  go_wp2_with fail
  have hw1 : Keeps No w1 (w1.alloc (.cells #[.int .u8 7] 5)) := (Keeps.refl No w1).alloc _
  refine (write_any (w1.alloc (.cells #[.int .u8 7] 5)) p F (fun b => b = w1.heap.size) ex0 1 _ [7] (HD.out.keeps hw1 (fun _ _ h => h)) (bys_one w1 7) (fun b hb _ h => by
    have := HD.out.there b h
    omega) (by decide +kernel) (by decide +kernel) (by decide +kernel) (by decide +kernel) (by decide +kernel)).mono ?_
  rintro e w2 ⟨rfl, hd, hk⟩
  obtain ⟨F2, hF2⟩ : ∃ F2, Grow F (w1.alloc (.cells #[.int .u8 7] 5)) w2 = F2 := ⟨_, rfl⟩
  have HF2 := Lib.hid (show ∀ b, F2 b → w.heap.size ≤ b by
    intro b hb
    rw [← hF2] at hb
    rcases hb with hb | hb
    · exact HF.out b hb
    · have h1 := HK.out.size
      have h2 := hw1.size
      omega)
  rw [hF2] at hd
  have HD2 := Lib.hid (show DiskAt Try.prog w2 p F2 ex1 from hd)
  have HK2 := Lib.hid ((HK.out.then hw1 (fun b hb => hb.elim)).then hk (fun b hb => .inr (HF.out b hb)))
  rw [ex_err]
  clear hd hk hw1 hF2
  go_wp2_with fail
  have hw2 : Keeps No w2 (w2.alloc (.cells #[.int .i64 1, .slice none 0 0] 59)) := (Keeps.refl No w2).alloc _
  refine (crash_any (w2.alloc (.cells #[.int .i64 1, .slice none 0 0] 59)) p F2 (fun b => b = w2.heap.size) ex1 _ [(1, [])] (HD2.out.keeps hw2 (fun _ _ h => h)) (tears_one w2) (fun b hb => ⟨by simp; omega, fun h => by
    have := HD2.out.there b h
    omega⟩) (by rw [ex1_cn]; omega) (by rw [ex1_len]; omega) (by rw [ex1_size]; omega) (by simp)).mono ?_
  rintro e w3 ⟨rfl, hd, hk⟩
  have HD3 := Lib.hid (show DiskAt Try.prog w3 p _ ex2 from hd)
  have HK3 := Lib.hid ((HK2.out.then hw2 (fun b hb => hb.elim)).then hk (fun b hb => .inr (HF2.out b hb)))
  clear hd hk hw2
  go_wp2_with fail
  refine (bytes_any w3 p _ ex2 HD3.out (by rw [ex_len]; omega) (by rw [ex_size]; omega)).mono ?_
  rintro e w4 ⟨v, rfl, hv, hk⟩
  rw [ex_bytes] at hv
  have HV := Lib.hid hv
  obtain ⟨A, c, rfl⟩ := Bys.form hv
  have HD4 := Lib.hid (HD3.out.keeps hk (fun _ _ h => h))
  have HK4 := Lib.hid (HK3.out.trans hk)
  clear hv hk
  go_wp2_with fail
  have hw4 : Keeps No w4 (w4.alloc (.cells #[.int .u8 0, .int .u8 7] 5)) := (Keeps.refl No w4).alloc _
  refine (same_any (w4.alloc (.cells #[.int .u8 0, .int .u8 7] 5)) _ (fun b => b = w4.heap.size) _ _ [0, 7] [0, 7] (HV.out.bys.keeps hw4 (fun _ _ _ h => h)) (bys_two w4 0 7) (by simp) (by simp)).mono ?_
  rintro e w5 ⟨rfl, n, rfl⟩
  have HD5 := Lib.hid ((HD4.out.keeps (hw4.drewN n) (fun _ _ h => h)))
  have HK5 := Lib.hid ((HK4.out.trans hw4).drewN n)
  rw [decide_eq_true (rfl : ([0, 7] : List Int) = [0, 7])]
  clear hw4
  go_wp2_with fail
  refine (sectors_any _ p _ ex2 HD5.out).mono ?_
  rintro e w6 ⟨rfl, rfl⟩
  rw [ex_len]
  go_wp2_with fail
  refine (size_any _ p _ ex2 HD5.out).mono ?_
  rintro e w6 ⟨rfl, rfl⟩
  rw [ex_size]
  go_wp2_with fail
  refine (ops_any _ p _ ex2 HD5.out).mono ?_
  rintro e w6 ⟨rfl, rfl⟩
  rw [ex_ops]
  go_wp2_with fail
  refine (writes_any _ p _ ex2 HD5.out).mono ?_
  rintro e w6 ⟨rfl, rfl⟩
  rw [ex_wr]
  go_wp2_with fail
  go_ret
  exact ⟨rfl, HK5.out⟩
end Go.Proofs.Ytconholnjhjhcaa
