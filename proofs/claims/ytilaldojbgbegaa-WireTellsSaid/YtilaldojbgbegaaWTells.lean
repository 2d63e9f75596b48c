/-
  THE WALK OF WireTells.
-/
import Derived.Test.YtilaldojbgbegaaWOpenL
namespace Go.Proofs.Ytilaldojbgbegaa
open Go.RowKit
set_option maxRecDepth 20000

set_option maxRecDepth 100000 in
set_option maxHeartbeats 4000000 in
theorem wireTells_walk (w : World) (A : Option Addr) (n c : Nat) (l : List Lev) (h : Many levE w w.heap.size A n l ∧ n ≤ c ∧ n ≤ maxLen) :
    Calls Try.prog 3 #[.slice A n c] w fun e w' => e = .returned (.bool true) ∧ Below w.heap.size w w' := by
  have H := Lib.hid h.1
  have HL := Lib.hid h.1.1
  clear h
  go_enter Try.func3, Try.ntmps3
  go_wp2_with fail
  refine (awake_any w).mono ?_
  rintro e w1 ⟨rfl, hb1⟩
  have HB1 := Lib.hid hb1
  clear hb1
  by_cases g0 : 300 < n
  · have g0' : (300 : Int) < (n : Int) := by omega
    go_wp2_with fail
    go_ret
    exact ⟨rfl, HB1.out⟩
  have g0' : ¬ (300 : Int) < (n : Int) := by omega
  go_wp2_with fail
  refine (refEvents_any w1 A n c w.heap.size l (H.out.below HB1.out) HB1.out.size (by omega)).mono ?_
  intro e w2 ht
  obtain ⟨A2, d2, rfl, hm, hb⟩ := ht.nums (evs_in _)
  have hel : (evs l).length = n := by rw [← HL.out]; exact evs_len l
  rw [hel] at hm ⊢
  have HE := Lib.hid hm
  have HB2 := Lib.hid (HB1.out.trans (hb.mono HB1.out.size))
  clear ht hm hb hel
  go_wp2_with fail
  refine (new_any w2).mono ?_
  rintro e w3 ⟨p, rfl, hp, hw3, hb3⟩
  have HW3 := Lib.hid hw3
  have HE3 := Lib.hid ((HE.out.below hb3))
  have HP := Lib.hid hp
  have HB3 := Lib.hid hb3
  clear hw3 hb3 hp
  go_wp2_with fail
  go_loopw [6] (fun i wr => ∃ k : Nat, k ≤ n ∧ i = .int .i64 k ∧ WireAt wr p (was l k) ∧ Below w2.heap.size w2 wr) (fun i _ => n - (intOf i).toNat)
  case atStart => exact ⟨0, Nat.zero_le _, rfl, HW3.out, HB3.out⟩
  case round =>
    obtain ⟨k, hk, rfl, hwire, hbel⟩ := hrel
    have HW := Lib.hid hwire
    have HB := Lib.hid hbel
    clear hwire hbel
    by_cases hlt : k < n
    · have hkn : (k : Int) < (n : Int) := by omega
      have hk0 : (0 : Int) ≤ (k : Int) := by omega
      obtain ⟨b, o, rfl, hc⟩ := H.out.cell (HB2.out.trans (HB.out.mono HB2.out.size)) k (at_ l k) (at_get (by rw [HL.out]; exact hlt))
      have HLT := Lib.hid (show b < w2.heap.size by
        obtain ⟨b', o', e, hb', _⟩ := H.out.2 (by omega)
        injection e with e; injection e with e1 e2; have := HB2.out.size; omega)
      obtain ⟨be, oe, rfl, he⟩ := HE.out.cell HB.out k hlt
      have HLE := Lib.hid (show be < w2.heap.size by
        obtain ⟨b', o', e, hb', _⟩ := HE.out.2.2 (by omega)
        injection e with e; injection e with e1 e2; omega)
      obtain ⟨x, hx⟩ : ∃ x, at_ l k = x := ⟨_, rfl⟩
      obtain ⟨y, hy⟩ : ∃ y, was l k = y := ⟨_, rfl⟩
      have HX := Lib.hid (show was l (k + 1) = x from hx)
      have e0 : wr.cell? ⟨be, oe + k, none⟩ = some (.int .i64 (tell y x)) := by
        rw [he, show (evs l).getD k 0 = ev l k from evTo_getD l _ k (by rw [HL.out]; exact hlt), ev, hx, hy]
      rw [hx] at hc
      rw [hy] at HW
      clear hx hy he
      have htt : (tell y x != tell y x) = false := by simp
      obtain ⟨x1, x2⟩ := x
      have c0 : wr.cell? ⟨b, o + k * 2, none⟩ = some (.bool x1) := hc 0 _ rfl
      have c1 : wr.cell? ⟨b, o + k * 2 + 1, none⟩ = some (.bool x2) := hc 1 _ rfl
      have HCC := Lib.hid (And.intro c0 (And.intro c1 e0))
      have HPP := Lib.hid (And.intro (show b ≠ p from by have := HP.out; have := HLT.out; omega) (show be ≠ p from by have := HP.out; have := HLE.out; omega))
      clear hc
      go_wp2_with fail
      go_region_held3 (fun w' => w'.cell? ⟨b, o + k * 2, none⟩ = some (.bool x1) ∧ w'.cell? ⟨b, o + k * 2 + 1, none⟩ = some (.bool x2) ∧ w'.cell? ⟨be, oe + k, none⟩ = some (.int .i64 (tell y (x1, x2))))
        (first | (with_reducible exact Z4.out) | go_keep) (first
        | (go_at_call 11; refine (step_any wr.drew p y (x1, x2) HW.out).mono ?_; rintro e w4 ⟨rfl, hw4, hk4⟩
           have HW4 := Lib.hid hw4
           have HB4 := Lib.hid (HB.out.drew.trans (hk4.below (fun b hb => by have := HP.out; have hb : b = p := hb; omega) HB.out.size))
           have Z4 := Lib.hid (show w4.cell? ⟨b, o + k * 2, none⟩ = some (.bool x1) ∧ w4.cell? ⟨b, o + k * 2 + 1, none⟩ = some (.bool x2) ∧ w4.cell? ⟨be, oe + k, none⟩ = some (.int .i64 (tell y (x1, x2))) from
             ⟨(hk4.cell (w := wr.drew) (Nat.lt_of_lt_of_le HLT.out HB.out.size) HPP.out.1).trans HCC.out.1, (hk4.cell (w := wr.drew) (Nat.lt_of_lt_of_le HLT.out HB.out.size) HPP.out.1).trans HCC.out.2.1, (hk4.cell (w := wr.drew) (Nat.lt_of_lt_of_le HLE.out HB.out.size) HPP.out.2).trans HCC.out.2.2⟩)
           clear hw4 hk4)
        | fail)
      clear c0 c1 e0 HCC
      go_wp2_with fail
      go_roundw
      case rel => exact ⟨k + 1, by omega, by go_num, by rw [HX.out]; exact HW4.out, HB4.out⟩
      case measure => simp [intOf]; omega
    · have hk' : k = n := by omega
      subst hk'
      have HBR := Lib.hid (HB2.out.trans (HB.out.mono HB2.out.size))
      have HER := Lib.hid (HE.out.below HB.out)
      have HSR := Lib.hid HB.out.size
      clear HB HE HB1 HB2 HE3 HW3 HB3
      have hn1 : k ≤ 1000 := by omega
      go_wp2_with fail
      refine (events_any wr A k c w.heap.size l (H.out.below HBR.out) HBR.out.size hn1).mono ?_
      intro e w5 ht
      obtain ⟨A5, d5, rfl, hm, hb⟩ := ht.nums (evs_in _)
      have hel : (evs l).length = k := by rw [← HL.out]; exact evs_len l
      rw [hel] at hm ⊢
      have H5 := Lib.hid hm
      have HE5 := Lib.hid ((HER.out.mono HSR.out).below hb)
      have HS5 := Lib.hid hb.size
      have HB5 := Lib.hid (HBR.out.trans (hb.mono HBR.out.size))
      clear ht hm hb hel
      go_wp2_with fail
      refine (ints_refl A5 A2 k d5 d2 w5.heap.size (evs l) w5 (by unfold maxLen; omega) H5.out (HE5.out.mono HS5.out) (Nat.le_refl _)).mono ?_
      rintro e w6 ⟨rfl, hb⟩
      have HB6 := Lib.hid (HB5.out.trans (hb.mono HB5.out.size))
      clear hb H5 HE5 HB5 HS5
      go_wp2_with fail
      refine (runs_any w6 A k c w.heap.size l (H.out.below HB6.out) HB6.out.size hn1).mono ?_
      intro e w7 ht
      obtain ⟨A7, d7, rfl, hm, hb⟩ := ht.reads
      have H7 := Lib.hid hm
      have HB7 := Lib.hid (HB6.out.trans (hb.mono HB6.out.size))
      clear ht hm hb HB6
      obtain ⟨m, hm⟩ : ∃ m, (runs l).length = m := ⟨_, rfl⟩
      have HRL := Lib.hid (show m ≤ 1000 ∧ ∀ x ∈ runs l, x.1.length ≤ 1000 from ⟨by rw [← hm]; have := runsTo_len l l.length; have := HL.out; unfold runs; omega, fun x hx => by have := runsTo_bits l l.length x hx; have := HL.out; omega⟩)
      rw [hm] at H7 ⊢
      have HM := Lib.hid hm
      clear hm
      go_wp2_with fail
      refine (refRuns_any w7 A k c w.heap.size l (H.out.below HB7.out) HB7.out.size hn1).mono ?_
      intro e w8 ht
      obtain ⟨A8, d8, rfl, hm, hb⟩ := ht.reads
      rw [HM.out] at hm ⊢
      have H8 := Lib.hid hm
      have H78 := Lib.hid ((H7.out.below hb).mono hb.size)
      have HB8 := Lib.hid (HB7.out.trans (hb.mono HB7.out.size))
      clear ht hm hb HB7
      go_wp2_with fail
      refine (runsSame_refl w8 A7 A8 m d7 d8 w8.heap.size (runs l) H78.out H8.out (Nat.le_refl _) HRL.out.1 HRL.out.2).mono ?_
      rintro e w9 ⟨rfl, hb⟩
      have HB9 := Lib.hid (HB8.out.trans (hb.mono HB8.out.size))
      clear hb
      go_wp2_with fail
      go_ret
      exact ⟨rfl, HB9.out⟩
end Go.Proofs.Ytilaldojbgbegaa
