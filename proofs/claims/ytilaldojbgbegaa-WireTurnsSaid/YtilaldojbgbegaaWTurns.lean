/-
  THE WALK OF WireTurns.
-/
import Derived.Test.YtilaldojbgbegaaWOpenL
namespace Go.Proofs.Ytilaldojbgbegaa
open Go.RowKit
set_option maxRecDepth 20000

theorem tell_cases (y x : Lev) : (tell y x = 0 ∧ y.1 = false ∧ x.1 = false) ∨ (tell y x = 0 ∧ y.1 = true ∧ x.1 = true) ∨ (tell y x = 1 ∧ y.1 = true ∧ x.1 = true) ∨ (tell y x = 2 ∧ y.1 = true ∧ x.1 = true) ∨ (tell y x = 3 ∧ y.1 = false ∧ x.1 = true) ∨ (tell y x = 4 ∧ y.1 = true ∧ x.1 = false) := by
  obtain ⟨_ | _, _ | _⟩ := y <;> obtain ⟨_ | _, _ | _⟩ := x <;> decide

set_option maxRecDepth 100000 in
set_option maxHeartbeats 4000000 in
theorem wireTurns_walk (w : World) (A : Option Addr) (n c : Nat) (l : List Lev) (h : Many levE w w.heap.size A n l ∧ n ≤ c ∧ n ≤ maxLen) :
    Calls Try.prog 4 #[.slice A n c] w fun e w' => e = .returned (.bool true) ∧ Below w.heap.size w w' := by
  have H := Lib.hid h.1
  have HL := Lib.hid h.1.1
  clear h
  go_enter Try.func4, Try.ntmps4
  go_wp2_with fail
  refine (awake_any w).mono ?_
  rintro e w1 ⟨rfl, hb1⟩
  have HB1 := Lib.hid hb1
  clear hb1
  by_cases g0 : 300 < n
  · have g0' : (300 : Int) < (n : Int) := by omega
    go_wp2_with fail
    go_ret
    exact ⟨rfl, HB1.out⟩
  have g0' : ¬ (300 : Int) < (n : Int) := by omega
  go_wp2_with fail
  refine (events_any w1 A n c w.heap.size l (H.out.below HB1.out) HB1.out.size (by omega)).mono ?_
  intro e w2 ht
  obtain ⟨A2, d2, rfl, hm, hb⟩ := ht.nums (evs_in _)
  have hel : (evs l).length = n := by rw [← HL.out]; exact evs_len l
  rw [hel] at hm ⊢
  have HE := Lib.hid hm
  have HB2 := Lib.hid (HB1.out.trans (hb.mono HB1.out.size))
  have hne : ((n : Int) != (n : Int)) = false := by simp
  clear ht hm hb hel
  go_wp2_with fail
  go_loopw [5, 6] (fun hi i wr => ∃ k : Nat, k ≤ n ∧ i = .int .i64 k ∧ hi = .bool (was l k).1 ∧ Below w2.heap.size w2 wr) (fun _ i _ => n - (intOf i).toNat)
  case atStart => exact ⟨0, Nat.zero_le _, rfl, rfl, Below.refl _ _⟩
  case round =>
    obtain ⟨k, hk, rfl, rfl, hbel⟩ := hrel
    have HB := Lib.hid hbel
    clear hbel
    by_cases hlt : k < n
    · have hkn : (k : Int) < (n : Int) := by omega
      have hk0 : (0 : Int) ≤ (k : Int) := by omega
      obtain ⟨b, o, rfl, hc⟩ := H.out.cell (HB2.out.trans (HB.out.mono HB2.out.size)) k (at_ l k) (at_get (by rw [HL.out]; exact hlt))
      obtain ⟨be, oe, rfl, he⟩ := HE.out.cell HB.out k hlt
      obtain ⟨x, hx⟩ : ∃ x, at_ l k = x := ⟨_, rfl⟩
      obtain ⟨y, hy⟩ : ∃ y, was l k = y := ⟨_, rfl⟩
      have HX := Lib.hid (show was l (k + 1) = x from hx)
      rw [hx] at hc
      rw [hy]
      have e0 : wr.cell? ⟨be, oe + k, none⟩ = some (.int .i64 (tell y x)) := by
        rw [he, show (evs l).getD k 0 = ev l k from evTo_getD l _ k (by rw [HL.out]; exact hlt), ev, hx, hy]
      have HT := Lib.hid (tell_cases y x)
      clear hx hy he
      obtain ⟨x1, x2⟩ := x
      obtain ⟨y1, y2⟩ := y
      have c0 : wr.cell? ⟨b, o + k * 2, none⟩ = some (.bool x1) := hc 0 _ rfl
      clear hc
      rcases HT.out with ⟨t, u, v⟩ | ⟨t, u, v⟩ | ⟨t, u, v⟩ | ⟨t, u, v⟩ | ⟨t, u, v⟩ | ⟨t, u, v⟩ <;> (
        rw [t] at e0
        simp only at u v
        subst u v
        clear t HT
        go_wp2_with fail
        go_roundw
        case rel => exact ⟨k + 1, by omega, by go_num, by rw [HX.out], HB.out⟩
        case measure => simp [intOf]; omega)
    · have hk' : k = n := by omega
      subst hk'
      go_wp2_with fail
      go_ret
      exact ⟨rfl, HB2.out.trans (HB.out.mono HB2.out.size)⟩
end Go.Proofs.Ytilaldojbgbegaa
