/-
  THE WALK OF WireStays.
-/
import Derived.Test.YtilaldojbgbegaaWOpenL
namespace Go.Proofs.Ytilaldojbgbegaa
open Go.RowKit
set_option maxRecDepth 20000

def dbl (l : List Lev) : List Lev := l.flatMap fun x => [x, x]
theorem dbl_len (l : List Lev) : (dbl l).length = 2 * l.length := by
  induction l with
  | nil => rfl
  | cons x l ih => unfold dbl at ih ⊢; rw [List.flatMap_cons, List.length_append, ih]; simp; omega
theorem dbl_at : ∀ (l : List Lev) (i : Nat), at_ (dbl l) (2 * i) = at_ l i ∧ at_ (dbl l) (2 * i + 1) = at_ l i
  | [], i => by simp [dbl, at_]
  | x :: l, 0 => by simp [dbl, at_]
  | x :: l, i + 1 => by
    have h := dbl_at l i
    unfold at_ dbl at h ⊢
    rw [show 2 * (i + 1) = (2 * i) + 1 + 1 by omega]
    simp only [List.flatMap_cons, List.cons_append, List.nil_append, List.getD_cons_succ]
    exact h
theorem dbl_ev (l : List Lev) (i : Nat) : ev (dbl l) (2 * i) = ev l i ∧ ev (dbl l) (2 * i + 1) = 0 := by
  have hw : was (dbl l) (2 * i) = was l i := by
    cases i with
    | zero => rfl
    | succ i => exact (dbl_at l i).2
  constructor
  · unfold ev
    rw [hw, (dbl_at l i).1]
  · unfold ev
    show tell (at_ (dbl l) (2 * i)) _ = 0
    rw [(dbl_at l i).1, (dbl_at l i).2]
    generalize at_ l i = x
    obtain ⟨_ | _, _ | _⟩ := x <;> decide
theorem dbl_mac (l : List Lev) : ∀ k, mac (dbl l) (2 * k) = mac l k
  | 0 => rfl
  | k + 1 => by
    rw [show 2 * (k + 1) = (2 * k + 1) + 1 by omega, mac, (dbl_ev l k).2, if_neg (by omega), List.append_nil, mac, (dbl_ev l k).1, dbl_mac l k, (dbl_at l k).1, mac]
    conv => rhs; rw [← List.map_id (List.map (cs (ev l k) (at_ l k).snd) (mac l k) ++ if ev l k = 1 then [(([], false), true)] else [])]
    exact List.map_congr_left fun x _ => cs_none _ x
theorem dbl_runs (l : List Lev) : runs (dbl l) = runs l := by
  unfold runs runsTo
  rw [dbl_len, dbl_mac]
def dblTo (l : List Lev) (k : Nat) : List Lev := dbl (l.take k)
theorem dblTo_succ (l : List Lev) (k : Nat) (x : Lev) (h : l[k]? = some x) : dblTo l (k + 1) = dblTo l k ++ [x, x] := by
  unfold dblTo dbl
  rw [List.take_add_one, h, List.flatMap_append]
  rfl

set_option maxRecDepth 100000 in
set_option maxHeartbeats 4000000 in
theorem wireStays_walk (w : World) (A : Option Addr) (n c : Nat) (l : List Lev) (h : Many levE w w.heap.size A n l ∧ n ≤ c ∧ n ≤ maxLen) :
    Calls Try.prog 6 #[.slice A n c] w fun e w' => e = .returned (.bool true) ∧ Below w.heap.size w w' := by
  have H := Lib.hid h.1
  have HL := Lib.hid h.1.1
  clear h
  go_enter Try.func6, Try.ntmps6
  go_wp2_with fail
  refine (awake_any w).mono ?_
  rintro e w1 ⟨rfl, hb1⟩
  have HB1 := Lib.hid hb1
  clear hb1
  by_cases g0 : 200 < n
  · have g0' : (200 : Int) < (n : Int) := by omega
    go_wp2_with fail
    go_ret
    exact ⟨rfl, HB1.out⟩
  have g0' : ¬ (200 : Int) < (n : Int) := by omega
  go_wp2_with fail
  go_loopw [4, 5] (fun v i wr => ∃ k : Nat, k ≤ n ∧ i = .int .i64 k ∧ OwnM levE 30 w1.heap.size wr v (dblTo l k) ∧ Below w1.heap.size w1 wr) (fun _ i _ => n - (intOf i).toNat)
  case atStart => exact ⟨0, Nat.zero_le _, rfl, OwnM.nil _ _ _ _, Below.refl _ _⟩
  case round =>
    obtain ⟨k, hk, rfl, hown, hbel⟩ := hrel
    have HO := Lib.hid hown
    have HB := Lib.hid hbel
    clear hown hbel
    by_cases hlt : k < n
    · have hkn : (k : Int) < (n : Int) := by omega
      have hk0 : (0 : Int) ≤ (k : Int) := by omega
      obtain ⟨x, hx⟩ : ∃ x, l[k]? = some x := ⟨l[k]'(by have := HL.out; omega), by simp⟩
      obtain ⟨b, o, rfl, hc⟩ := H.out.cell (HB1.out.trans (HB.out.mono HB1.out.size)) k x hx
      have HLT := Lib.hid (show b < w1.heap.size by
        obtain ⟨b', o', e, hb', _⟩ := H.out.2 (by omega)
        injection e with e; injection e with e1 e2; have := HB1.out.size; omega)
      have HX := Lib.hid (dblTo_succ l k x hx)
      have HLB := Lib.hid (show (dblTo l k).length ≤ 2 * n by unfold dblTo; rw [dbl_len, List.length_take]; omega)
      obtain ⟨x1, x2⟩ := x
      have c0 : wr.cell? ⟨b, o + k * 2, none⟩ = some (.bool x1) := hc 0 _ rfl
      have c1 : wr.cell? ⟨b, o + k * 2 + 1, none⟩ = some (.bool x2) := hc 1 _ rfl
      have HCC := Lib.hid (And.intro c0 c1)
      have HD := Lib.hid (show OwnM levE 30 w1.heap.size wr.drew _ (dblTo l k) from HO.out)
      have hm2 := many_new levE wr.drew 30 [(x1, x2), (x1, x2)] #[.bool x1, .bool x2, .bool x1, .bool x2] rfl
      have hb2 := below_box wr.drew (.cells #[.bool x1, .bool x2, .bool x1, .bool x2] 30)
      have HB2 := Lib.hid (HB.out.drew.trans (hb2.mono HB.out.size))
      have HM2 := Lib.hid hm2
      have HO2 := Lib.hid (HD.out.below hb2)
      clear hc hx hm2 hb2
      go_wp2_with fail
      go_region_held3 (fun w' => w'.cell? ⟨b, o + k * 2, none⟩ = some (.bool x1) ∧ w'.cell? ⟨b, o + k * 2 + 1, none⟩ = some (.bool x2))
        (first | (with_reducible exact Z3.out) | go_keep) (first
        | (have hh := HO2.out
           clear hh
           refine step_append rfl _ _ _ rfl _ _ rfl rfl _ (append_many elemLev (wr.drew.alloc (.cells #[.bool x1, .bool x2, .bool x1, .bool x2] 30)) w1.heap.size 22 _ _ HO2.out _ 2 2 _ [(x1, x2), (x1, x2)] HM2.out (by have := HLB.out; omega) HB2.out.size) ?_
           rintro v' w' ⟨ho', hb', _⟩
           have HO3 := Lib.hid ho'
           have HB3 := Lib.hid (HB2.out.trans hb')
           have Z3 := Lib.hid (show w'.cell? ⟨b, o + k * 2, none⟩ = some (.bool x1) ∧ w'.cell? ⟨b, o + k * 2 + 1, none⟩ = some (.bool x2) from
             ⟨(hb'.cell (p := ⟨b, o + k * 2, none⟩) HLT.out).trans ((World.cell?_alloc_some wr.drew _ _ (by rw [show wr.drew.cell? ⟨b, o + k * 2, none⟩ = _ from HCC.out.1]; rfl)).trans HCC.out.1),
              (hb'.cell (p := ⟨b, o + k * 2 + 1, none⟩) HLT.out).trans ((World.cell?_alloc_some wr.drew _ _ (by rw [show wr.drew.cell? ⟨b, o + k * 2 + 1, none⟩ = _ from HCC.out.2]; rfl)).trans HCC.out.2)⟩)
           clear ho' hb')
        | fail)
      clear c0 c1 HCC
      go_wp2_with fail
      go_roundw
      case rel => exact ⟨k + 1, by omega, by go_num, by rw [HX.out]; exact HO3.out, HB3.out⟩
      case measure => simp [intOf]; omega
    · have hk' : k = n := by omega
      subst hk'
      have HDL := Lib.hid (show dblTo l k = dbl l by unfold dblTo; rw [← HL.out, List.take_length])
      have hk2 : k ≤ 200 := by omega
      have HBR := Lib.hid (HB1.out.trans (HB.out.mono HB1.out.size))
      rw [HDL.out] at HO
      obtain ⟨A2, c2, rfl, _, _, hm2⟩ := HO.out.many
      rw [dbl_len, HL.out] at hm2 ⊢
      have HM2 := Lib.hid hm2
      clear hm2
      go_wp2_with fail
      refine (events_any wr A k c w.heap.size l (H.out.below HBR.out) HBR.out.size (by omega)).mono ?_
      intro e w5 ht
      obtain ⟨A5, d5, rfl, hm, hb⟩ := ht.nums (evs_in _)
      have hel : (evs l).length = k := by rw [← HL.out]; exact evs_len l
      rw [hel] at hm ⊢
      have HE := Lib.hid hm
      have HM5 := Lib.hid ((HM2.out.below hb).mono hb.size)
      have HB5 := Lib.hid (HBR.out.trans (hb.mono HBR.out.size))
      clear ht hm hb hel
      go_wp2_with fail
      refine (events_any w5 A2 (2 * k) c2 w5.heap.size (dbl l) HM5.out (Nat.le_refl _) (by omega)).mono ?_
      intro e w6 ht
      obtain ⟨A6, d6, rfl, hm, hb⟩ := ht.nums (evs_in _)
      have hel : (evs (dbl l)).length = 2 * k := by rw [evs_len, dbl_len, HL.out]
      rw [hel] at hm ⊢
      have HF := Lib.hid hm
      have HE6 := Lib.hid ((HE.out.below hb).mono hb.size)
      have HM6 := Lib.hid ((HM5.out.below hb).mono hb.size)
      have HB6 := Lib.hid (HB5.out.trans (hb.mono HB5.out.size))
      clear ht hm hb hel HE HM5 HM2 HB5
      have hne : ((k : Int) != (k : Int)) = false := by simp
      obtain ⟨K, hK⟩ : ∃ K, 2 * k = K := ⟨_, rfl⟩
      rw [hK] at HF HM6 ⊢
      have HK := Lib.hid hK
      have hw2 : IntKind.i64.wrap (2 * (k : Int)) = (K : Int) := by rw [IntKind.wrap_i64]; omega
      have hw3 : (2 : Int) * (k : Int) = (K : Int) := by omega
      have hne2 : ((K : Int) != (K : Int)) = false := by simp
      clear hK
      go_wp2_with fail
      go_loopw [8] (fun i wr => ∃ j : Nat, j ≤ k ∧ i = .int .i64 j ∧ Below w6.heap.size w6 wr) (fun i _ => k - (intOf i).toNat)
      case atStart => exact ⟨0, Nat.zero_le _, rfl, Below.refl _ _⟩
      case round =>
        obtain ⟨j, hj, rfl, hbel⟩ := hrel
        have HB7 := Lib.hid hbel
        clear hbel
        by_cases hlt : j < k
        · have hj0 : (0 : Int) ≤ (j : Int) := by omega
          have hjk : (j : Int) < (k : Int) := by omega
          obtain ⟨J, hJ⟩ : ∃ J, 2 * j = J := ⟨_, rfl⟩
          have hJ0 : (0 : Int) ≤ (J : Int) := by omega
          have hJ1 : (J : Int) < (K : Int) := by omega
          have hJ2 : IntKind.i64.wrap (2 * (j : Int)) = (J : Int) := by rw [IntKind.wrap_i64]; omega
          obtain ⟨J', hJ'⟩ : ∃ J', J + 1 = J' := ⟨_, rfl⟩
          have hJ3 : IntKind.i64.wrap ((J : Int) + 1) = (J' : Int) := by rw [IntKind.wrap_i64]; omega
          have hJ4 : (0 : Int) ≤ (J' : Int) := by omega
          have hJ5 : (J' : Int) < (K : Int) := by have := HK.out; omega
          obtain ⟨b5, o5, rfl, e5⟩ := HE6.out.cell HB7.out j hlt
          obtain ⟨b6, o6, rfl, e6⟩ := HF.out.cell HB7.out J (by have := HK.out; omega)
          obtain ⟨b7, o7, e7, e8⟩ := HF.out.cell HB7.out J' (by have := HK.out; omega)
          injection e7 with e7
          injection e7 with e7 e9 _
          subst e7 e9
          rw [show (evs l).getD j 0 = ev l j from evTo_getD l _ j (by rw [HL.out]; exact hlt)] at e5
          rw [show (evs (dbl l)).getD J 0 = ev l j from by rw [show (evs (dbl l)).getD J 0 = ev (dbl l) J from evTo_getD _ _ J (by rw [dbl_len, HL.out]; omega), ← hJ, (dbl_ev l j).1]] at e6
          rw [show (evs (dbl l)).getD J' 0 = 0 from by rw [show (evs (dbl l)).getD J' 0 = ev (dbl l) J' from evTo_getD _ _ J' (by rw [dbl_len, HL.out]; omega), ← hJ', ← hJ, (dbl_ev l j).2]] at e8
          generalize ev l j = v at *
          have hvv : (v != v) = false := by simp
          clear hJ hJ'
          go_wp2_with fail
          go_quiet (fail)
          go_wp2_with fail
          go_roundw
          case rel => exact ⟨j + 1, by omega, by go_num, below_drewN HB7.out _⟩
          case measure => simp [intOf]; omega
        · have hj' : j = k := by omega
          subst hj'
          have HB8 := Lib.hid (HB6.out.trans (HB7.out.mono HB6.out.size))
          have HM8 := Lib.hid ((HM6.out.below HB7.out).mono HB7.out.size)
          clear hw2 hw3
          obtain ⟨m, hm⟩ : ∃ m, (runs l).length = m := ⟨_, rfl⟩
          have HRL := Lib.hid (show m ≤ 1000 ∧ ∀ x ∈ runs l, x.1.length ≤ 1000 from ⟨by rw [← hm]; have := runsTo_len l l.length; have := HL.out; unfold runs; omega, fun x hx => by have := runsTo_bits l l.length x hx; have := HL.out; omega⟩)
          have HM := Lib.hid hm
          clear hm
          go_wp2_with fail
          refine (runs_any wr A j c w.heap.size l (H.out.below HB8.out) HB8.out.size (by omega)).mono ?_
          intro e w9 ht
          obtain ⟨A9, d9, rfl, hm, hb⟩ := ht.reads
          rw [HM.out] at hm ⊢
          have H9 := Lib.hid hm
          have HB9 := Lib.hid (HB8.out.trans (hb.mono HB8.out.size))
          have HM9 := Lib.hid ((HM8.out.below hb).mono hb.size)
          clear ht hm hb
          go_wp2_with fail
          refine (runs_any w9 A2 K c2 w9.heap.size (dbl l) HM9.out (Nat.le_refl _) (by have := HK.out; omega)).mono ?_
          intro e w10 ht
          obtain ⟨A10, d10, rfl, hm, hb⟩ := ht.reads
          rw [dbl_runs, HM.out] at hm
          rw [dbl_runs, HM.out]
          have H10 := Lib.hid hm
          have H910 := Lib.hid ((H9.out.below hb).mono hb.size)
          have HB10 := Lib.hid (HB9.out.trans (hb.mono HB9.out.size))
          clear ht hm hb
          go_wp2_with fail
          refine (runsSame_refl w10 A9 A10 m d9 d10 w10.heap.size (runs l) H910.out H10.out (Nat.le_refl _) HRL.out.1 HRL.out.2).mono ?_
          rintro e w11 ⟨rfl, hb⟩
          have HB11 := Lib.hid (HB10.out.trans (hb.mono HB10.out.size))
          clear hb
          go_wp2_with fail
          go_ret
          exact ⟨rfl, HB11.out⟩
end Go.Proofs.Ytilaldojbgbegaa
