/-
  THE WALKS OF (*latch).Latch, Locked, (*Chip).place, Read, Write, Bytes.
-/
import Derived.Test.YtbpdajffkcgcgaaRAt
import Derived.Test.YtbpdajffkcgcgaaBClone
import Derived.Deep.QuietTactic
import Derived.BigQuiet
import Derived.Handy
namespace Go.Proofs.Ytbpdajffkcgcgaa
open Go.RowKit
set_option maxRecDepth 20000

theorem locked_any (w : World) (p d cap : Nat) (s : Ram) (h : ChipAt w p d cap s) :
    Calls Try.prog 12 #[.pointer (some ⟨p, 0, none⟩)] w fun e w' => e = .returned (.bool (!s.op)) ∧ w = w' := by
  have c0 := h.blk.cell 0
  simp only [cellsOf, List.getElem?_toArray, List.getElem?_cons_zero] at c0
  clear h
  go_enter Try.func12, Try.ntmps12
  go_wp2_with fail
  go_ret
  exact ⟨rfl, rfl⟩
theorem latch_any (w : World) (p d cap : Nat) (s : Ram) (v : Int) (h : ChipAt w p d cap s) :
    Calls Try.prog 14 #[.pointer (some ⟨p, 0, none⟩), .int .u8 v] w (Did p d cap (s.latch v) w) := by
  have c0 := h.blk.cell 0
  have f0 := h.blk.frozen 0
  simp only [cellsOf, List.getElem?_toArray, List.getElem?_cons_zero] at c0
  have HZ := Lib.hid (h.latch v)
  clear h
  go_enter Try.func14, Try.ntmps14
  go_wp2_with fail
  go_end0
  exact ⟨rfl, HZ.out⟩
theorem place_any (w : World) (p d cap : Nat) (s : Ram) (a : Int) (h : ChipAt w p d cap s) (hok : s.Ok) :
    Calls Try.prog 24 #[.pointer (some ⟨p, 0, none⟩), .int .i64 a] w fun e w' => e = .returned (.int .i64 (s.at_ a)) ∧ w = w' := by
  have c1 := h.blk.cell 1
  simp only [cellsOf, List.getElem?_toArray, List.getElem?_cons_zero, List.getElem?_cons_succ] at c1
  obtain ⟨h1, h2⟩ := hok.len
  obtain ⟨m, hm⟩ : ∃ m : Nat, max a 0 = m := ⟨(max a 0).toNat, by omega⟩
  have HA := Lib.hid (show s.at_ a = m % s.data.length by unfold Ram.at_; rw [hm]; rfl)
  obtain ⟨n, hn⟩ : ∃ n, s.data.length = n := ⟨_, rfl⟩
  rw [hn] at c1 h1 h2 HA
  obtain ⟨j, hj⟩ : ∃ j, m % n = j := ⟨_, rfl⟩
  rw [hj] at HA
  have hjn : j < n := by rw [← hj]; exact Nat.mod_lt _ (by omega)
  have hzn : (n : Int) ≠ 0 := by omega
  have hzm : ¬ n = 0 := by omega
  have e1 : (m : Int).tmod (n : Int) = (j : Int) := by rw [Int.tmod_eq_emod_of_nonneg (by omega), ← hj]; omega
  have e2 : IntKind.i64.wrap (j : Int) = (j : Int) := IntWalk.i64_in _ (by omega)
  have e0 : IntKind.i64.wrap ((m : Int).tmod (n : Int)) = (j : Int) := by rw [e1]; exact e2
  clear h hok hn hj
  go_enter Try.func24, Try.ntmps24
  go_wp2_with fail
  go_ret
  rw [HA.out]
  exact ⟨rfl, rfl⟩
set_option maxHeartbeats 4000000 in
theorem read_any (w : World) (p d cap : Nat) (s : Ram) (a : Int) (h : ChipAt w p d cap s) (hok : s.Ok) :
    Calls Try.prog 15 #[.pointer (some ⟨p, 0, none⟩), .int .i64 a] w fun e w' => e = .returned (.int .u8 (s.tell a)) ∧ ∃ n, w' = w.drewN n := by
  have c1 := h.blk.cell 1
  simp only [cellsOf, List.getElem?_toArray, List.getElem?_cons_zero, List.getElem?_cons_succ] at c1
  have HP := Lib.hid fun n => (place_any (w.drewN n) p d cap s a (h.below (below_drewN (Below.refl _ _) n)) hok).mono fun e w' (hh : e = .returned (.int .i64 (s.at_ a)) ∧ w.drewN n = w') => (⟨hh.1, n, hh.2.symm⟩ : e = .returned (.int .i64 (s.at_ a)) ∧ ∃ n', w' = w.drewN n')
  have hlt := Ram.at_lt hok a
  obtain ⟨q1, _⟩ := h.data.at_ (s.at_ a) hlt
  have hlen := hok.len
  have HT := Lib.hid (show s.tell a = s.data.getD (s.at_ a) 0 from rfl)
  generalize s.data.getD (s.at_ a) 0 = x at *
  generalize s.at_ a = j at *
  generalize s.data.length = n at *
  have hj1 : (j : Int) < (n : Int) := by omega
  have hj0 : (0 : Int) ≤ (j : Int) := by omega
  clear h hok
  go_enter Try.func15, Try.ntmps15
  go_wp2_with fail
  go_quiet ((go_at_call 24; exact HP.out _))
  go_wp2_with fail
  go_ret
  rw [HT.out]
  exact ⟨rfl, nq, rfl⟩
set_option maxHeartbeats 4000000 in
theorem write_any (w : World) (p d cap : Nat) (s : Ram) (a v : Int) (h : ChipAt w p d cap s) (hok : s.Ok) :
    Calls Try.prog 13 #[.pointer (some ⟨p, 0, none⟩), .int .i64 a, .int .u8 v] w fun e w' => e = .returned (.bool s.op) ∧ Went p d cap (s.write a v) w w' := by
  by_cases ho : s.op = true
  · have HC := Lib.hid h
    have HO := Lib.hid hok
    have HW := Lib.hid (show s.write a v = { s with data := s.data.set (s.at_ a) v } from if_pos ho)
    have HOP := Lib.hid ho
    have c1 := h.blk.cell 1
    simp only [cellsOf, List.getElem?_toArray, List.getElem?_cons_zero, List.getElem?_cons_succ] at c1
    have hlt := Ram.at_lt hok a
    obtain ⟨q1, q2⟩ := h.data.at_ (s.at_ a) hlt
    have hlen := hok.len
    have HZ := Lib.hid (fun w1 (hc : ChipAt w1 p d cap s) => hc.put (s.at_ a) v)
    obtain ⟨j, hj⟩ : ∃ j, s.at_ a = j := ⟨_, rfl⟩
    obtain ⟨n, hn⟩ : ∃ n, s.data.length = n := ⟨_, rfl⟩
    rw [hj] at q1 q2 hlt HW HZ
    rw [hn] at c1 hlen hlt
    have HJ := Lib.hid hj
    generalize s.data.getD j 0 = x at *
    have hj1 : (j : Int) < (n : Int) := by omega
    have hj0 : (0 : Int) ≤ (j : Int) := by omega
    clear h hok ho hj hn
    go_enter Try.func13, Try.ntmps13
    go_wp2_with fail
    refine (locked_any w p d cap s HC.out).mono ?_
    rintro e w1 ⟨rfl, rfl⟩
    rw [HOP.out]
    go_wp2_with fail
    go_region_with (go_at_call 24; refine (place_any _ p d cap s a (HC.out.below (below_drew w)) HO.out).mono ?_; rintro e' w3 ⟨rfl, rfl⟩; rw [HJ.out])
    all_goals
      go_wp2_with fail
      go_ret
      rw [HOP.out, HW.out]
      exact ⟨rfl, (HZ.out w HC.out).drew⟩
  · have HC := Lib.hid h
    have HW := Lib.hid (show s.write a v = s from if_neg ho)
    have HOP := Lib.hid (show s.op = false by simpa using ho)
    clear h hok ho
    go_enter Try.func13, Try.ntmps13
    go_wp2_with fail
    refine (locked_any w p d cap s HC.out).mono ?_
    rintro e w1 ⟨rfl, rfl⟩
    rw [HOP.out]
    go_wp2_with fail
    go_ret
    rw [HOP.out, HW.out]
    exact ⟨rfl, HC.out.went⟩
theorem bytes_any (w : World) (p d cap : Nat) (s : Ram) (h : ChipAt w p d cap s) (hok : s.Ok) :
    Calls Try.prog 18 #[.pointer (some ⟨p, 0, none⟩)] w fun e w' => ∃ v, e = .returned v ∧ OwnK .u8 5 w.heap.size w' v s.data ∧ Below w.heap.size w w' := by
  have c1 := h.blk.cell 1
  simp only [cellsOf, List.getElem?_toArray, List.getElem?_cons_zero, List.getElem?_cons_succ] at c1
  have HN := Lib.hid (h.data.nums_at (fun v hv => byte_wf (hok.byte v hv))).1
  have hlen := hok.len.2
  clear h
  go_enter Try.func18, Try.ntmps18
  go_wp2_with fail
  refine (clone_any w _ _ _ _ s.data HN.out (Nat.le_refl _) (by omega)).mono ?_
  rintro e w1 ⟨v, rfl, h1, h2⟩
  have H1 := Lib.hid h1
  have H2 := Lib.hid h2
  clear h1 h2
  go_wp2_with fail
  go_ret
  exact ⟨_, rfl, H1.out, H2.out⟩
/-- .. in a block of their own -/
theorem bytes_new (w : World) (p d cap : Nat) (s : Ram) (h : ChipAt w p d cap s) (hok : s.Ok) :
    Calls Try.prog 18 #[.pointer (some ⟨p, 0, none⟩)] w fun e w' => ∃ g c, e = .returned (.slice (some ⟨g, 0, none⟩) s.data.length c) ∧ w.heap.size ≤ g ∧ g < w'.heap.size ∧
      OwnK .u8 5 w.heap.size w' (.slice (some ⟨g, 0, none⟩) s.data.length c) s.data ∧ Below w.heap.size w w' :=
  (bytes_any w p d cap s h hok).mono fun e w' ⟨v, he, hv, hb⟩ => by
    obtain ⟨A, c, rfl, _, hm⟩ := hv.mine
    obtain ⟨g, rfl, h1, h2, _⟩ := hm.2 (by have := hok.len; omega)
    exact ⟨g, c, he, h1, h2, hv, hb⟩
end Go.Proofs.Ytbpdajffkcgcgaa
