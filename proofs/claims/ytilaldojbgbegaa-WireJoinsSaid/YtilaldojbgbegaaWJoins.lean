/-
  THE WALK OF WireJoins.
-/
import Derived.Test.YtilaldojbgbegaaWOpenL
import Derived.Test.YtilaldojbgbegaaBClone
namespace Go.Proofs.Ytilaldojbgbegaa
open Go.RowKit
set_option maxRecDepth 20000

theorem at_left (l m : List Lev) (i : Nat) (h : i < l.length) : at_ (l ++ m) i = at_ l i := by simp [at_, List.getD, List.getElem?_append_left h]
theorem at_right (l m : List Lev) (i : Nat) : at_ (l ++ m) (l.length + i) = at_ m i := by
  unfold at_ List.getD
  rw [List.getElem?_append_right (by omega), show l.length + i - l.length = i by omega]
theorem evs_join (l m : List Lev) (h : was l l.length = up) : evs (l ++ m) = evs l ++ evs m := by
  have hl : ∀ i, i < l.length → ev (l ++ m) i = ev l i := fun i hi => by
    unfold ev
    rw [at_left l m i hi]
    cases i with
    | zero => rfl
    | succ i => rw [was, was, at_left l m i (by omega)]
  have hm : ∀ i, ev (l ++ m) (l.length + i) = ev m i := fun i => by
    unfold ev
    rw [at_right]
    cases i with
    | zero =>
      show tell (was (l ++ m) l.length) _ = tell up _
      congr 1
      rw [← h]
      cases hn : l.length with
      | zero => rfl
      | succ n => rw [was, was, at_left l m n (by omega)]
    | succ i =>
      show tell (was (l ++ m) (l.length + i + 1)) _ = tell (at_ m i) _
      rw [was, at_right]
  unfold evs evTo
  apply List.ext_getElem (by simp)
  intro i h1 h2
  have hi : i < l.length + m.length := by simpa using h1
  rw [List.getElem_map, List.getElem_range]
  by_cases hil : i < l.length
  · rw [List.getElem_append_left (by simpa using hil), List.getElem_map, List.getElem_range, hl i hil]
  · rw [List.getElem_append_right (by simpa using hil), List.getElem_map, List.getElem_range]
    have := hm (i - l.length)
    rw [show l.length + (i - l.length) = i by omega] at this
    rw [this]
    simp
theorem was_last {l : List Lev} {n : Nat} (h : l.length = n + 1) : was l l.length = at_ l n := by rw [h]; rfl

set_option maxRecDepth 100000 in
set_option maxHeartbeats 8000000 in
theorem wireJoins_walk (w : World) (A1 : Option Addr) (n1 c1 : Nat) (l : List Lev) (h1 : Many levE w w.heap.size A1 n1 l ∧ n1 ≤ c1 ∧ n1 ≤ maxLen) (A2 : Option Addr) (n2 c2 : Nat) (m : List Lev) (h2 : Many levE w w.heap.size A2 n2 m ∧ n2 ≤ c2 ∧ n2 ≤ maxLen) :
    Calls Try.prog 7 #[.slice A1 n1 c1, .slice A2 n2 c2] w fun e w' => e = .returned (.bool true) ∧ Below w.heap.size w w' := by
  have H1 := Lib.hid h1.1
  have HL1 := Lib.hid h1.1.1
  have H2 := Lib.hid h2.1
  have HL2 := Lib.hid h2.1.1
  clear h1 h2
  go_enter Try.func7, Try.ntmps7
  go_wp2_with fail
  refine (awake_any w).mono ?_
  rintro e w1 ⟨rfl, hb1⟩
  have HB1 := Lib.hid hb1
  clear hb1
  by_cases g1 : 150 < n1
  · have g1' : (150 : Int) < (n1 : Int) := by omega
    go_wp2_with fail
    go_ret
    exact ⟨rfl, HB1.out⟩
  have g1' : ¬ (150 : Int) < (n1 : Int) := by omega
  by_cases g2 : 150 < n2
  · have g2' : (150 : Int) < (n2 : Int) := by omega
    go_wp2_with fail
    go_ret
    exact ⟨rfl, HB1.out⟩
  have g2' : ¬ (150 : Int) < (n2 : Int) := by omega
  rcases Nat.eq_zero_or_pos n1 with hn0 | hn0
  · subst hn0
    have hl0 : l = [] := List.eq_nil_of_length_eq_zero HL1.out
    have HJ := Lib.hid (show evs (l ++ m) = evs l ++ evs m by rw [hl0]; exact evs_join [] m rfl)
    clear hl0
    go_wp2_with fail
    refine (events_any w1 _ 0 c1 w.heap.size l (H1.out.below HB1.out) HB1.out.size (by omega)).mono ?_
    intro e w2 ht
    obtain ⟨A3, d3, rfl, hm, hb⟩ := ht.nums (evs_in _)
    have hel : (evs l).length = 0 := by rw [← HL1.out]; exact evs_len l
    rw [hel] at hm ⊢
    have HE2 := Lib.hid hm
    have HB2 := Lib.hid (HB1.out.trans (hb.mono HB1.out.size))
    clear ht hm hb hel
    go_wp2_with fail
    refine (events_any w2 A2 n2 c2 w.heap.size m (H2.out.below HB2.out) HB2.out.size (by omega)).mono ?_
    intro e w3 ht
    obtain ⟨A4, d4, rfl, hm, hb⟩ := ht.nums (evs_in _)
    have hel : (evs m).length = n2 := by rw [← HL2.out]; exact evs_len m
    rw [hel] at hm ⊢
    have HE3 := Lib.hid hm
    have HE23 := Lib.hid ((HE2.out.below hb).mono hb.size)
    have HB3 := Lib.hid (HB2.out.trans (hb.mono HB2.out.size))
    clear ht hm hb hel HE2 HB2
    have hb4 := below_box w3 (.cells #[] 30)
    have HB4 := Lib.hid (HB3.out.trans (hb4.mono HB3.out.size))
    obtain ⟨v5, w5, hr5, hq5, hl5, _⟩ := append_many elemLev (w3.alloc (.cells #[] 30)) w3.heap.size 22 _ [] (own_new levE w3 _ [] #[] rfl (by decide)) _ 0 c1 w.heap.size l (H1.out.below HB4.out) (by simp <;> omega) (by simp)
    rw [List.nil_append] at hq5
    have HB35 := Lib.hid (show Below w3.heap.size w3 w5 from hb4.trans hl5)
    have HB5 := Lib.hid (HB3.out.trans (HB35.out.mono HB3.out.size))
    obtain ⟨v6, w6, hr6, hq6, hl6, _⟩ := append_many elemLev w5 w3.heap.size 22 v5 l hq5 A2 n2 c2 w.heap.size m (H2.out.below HB5.out) (by have := HL1.out; omega) HB35.out.size
    have HB36 := Lib.hid (HB35.out.trans hl6)
    have HB6 := Lib.hid (HB3.out.trans (HB36.out.mono HB3.out.size))
    obtain ⟨A6, c6, rfl, _, _, hm6⟩ := hq6.many
    obtain ⟨N, hN⟩ : ∃ N, 0 + n2 = N := ⟨_, rfl⟩
    have hlm : (l ++ m).length = N := by rw [List.length_append, HL1.out, HL2.out, hN]
    rw [hlm] at hm6 hr6
    have HM6 := Lib.hid hm6
    have HN := Lib.hid (show N ≤ 300 by omega)
    have HR5 := Lib.hid hr5
    have HR6 := Lib.hid hr6
    clear hb4 hr5 hq5 hl5 hr6 hq6 hl6 hm6 hN
    go_wp2_with (at_builtin; first
      | (refine Lib.wpList_append_run _ rfl _ _ _ _ rfl _ _ rfl rfl _ _ HR5.out ?_)
      | (refine Lib.wpList_append_run _ rfl _ _ _ _ rfl _ _ rfl rfl _ _ HR6.out ?_))
    refine (events_any w6 A6 N c6 w6.heap.size (l ++ m) HM6.out (Nat.le_refl _) (by have := HN.out; omega)).mono ?_
    intro e w7 ht
    obtain ⟨A7, d7, rfl, hm, hb⟩ := ht.nums (evs_in _)
    have hel : (evs (l ++ m)).length = N := by rw [evs_len, hlm]
    rw [hel] at hm ⊢
    rw [HJ.out] at hm
    have HE7 := Lib.hid hm
    have HB37 := Lib.hid (HB36.out.trans (hb.mono HB36.out.size))
    have HB7 := Lib.hid (HB3.out.trans (HB37.out.mono HB3.out.size))
    clear ht hm hb hel
    have HC1 := Lib.hid (HE23.out.below HB37.out)
    have HC2 := Lib.hid (HE3.out.below HB37.out)
    have hb8 := below_box w7 (.cells #[] 3)
    obtain ⟨v8, w8, hr8, hq8, hl8⟩ := append_any elemI (w7.alloc (.cells #[] 3)) w7.heap.size 24 _ [] (own_empty .i64 _ _ w7 (Nat.le_refl _)) A3 0 d3 w3.heap.size (evs l) (HC1.out.below (hb8.mono HB37.out.size)) (by simp <;> omega) (by simp)
    rw [List.nil_append] at hq8
    have HB78 := Lib.hid (show Below w7.heap.size w7 w8 from hb8.trans hl8)
    obtain ⟨v9, w9, hr9, hq9, hl9⟩ := append_any elemI w8 w7.heap.size 24 v8 (evs l) hq8 A4 n2 d4 w3.heap.size (evs m) (HC2.out.below (HB78.out.mono HB37.out.size)) (by rw [evs_len]; have := HL1.out; omega) HB78.out.size
    have HB79 := Lib.hid (HB78.out.trans hl9)
    obtain ⟨A9, c9, rfl, _, hm9⟩ := hq9.nums (fun v hv => int_wf.2 (by
      rw [← HJ.out] at hv
      have := evs_in _ v hv
      omega))
    have hl9' : (evs l ++ evs m).length = N := by rw [← HJ.out, evs_len, hlm]
    rw [hl9'] at hm9 hr9
    have HM9 := Lib.hid hm9
    have HM7 := Lib.hid ((HE7.out.below HB79.out).mono HB79.out.size)
    have HB9 := Lib.hid (HB7.out.trans (HB79.out.mono HB7.out.size))
    have HR8 := Lib.hid hr8
    have HR9 := Lib.hid hr9
    clear hb8 hr8 hq8 hl8 hr9 hq9 hl9 hm9 hl9' hlm
    go_wp2_with (at_builtin; first
      | (refine append_wanted _ (by rfl) _ _ _ _ rfl _ _ rfl rfl _ _ HR8.out ?_)
      | (refine append_wanted _ (by rfl) _ _ _ _ rfl _ _ rfl rfl _ _ HR9.out ?_))
    refine (ints_refl A7 A9 N d7 c9 w9.heap.size (evs l ++ evs m) w9 (by have := HN.out; unfold maxLen; omega) HM7.out HM9.out (Nat.le_refl _)).mono ?_
    rintro e w10 ⟨rfl, hb⟩
    have HB10 := Lib.hid (HB9.out.trans (hb.mono HB9.out.size))
    clear hb
    go_wp2_with fail
    go_ret
    exact ⟨rfl, HB10.out⟩
  · obtain ⟨k, hk⟩ : ∃ k, n1 = k + 1 := ⟨n1 - 1, by omega⟩
    have hw1 : was l l.length = at_ l k := was_last (by rw [HL1.out, hk])
    obtain ⟨b, o, rfl, hc⟩ := H1.out.cell HB1.out k (at_ l k) (at_get (by rw [HL1.out]; omega))
    obtain ⟨x, hx⟩ : ∃ x, at_ l k = x := ⟨_, rfl⟩
    have HW := Lib.hid (hw1.trans hx)
    rw [hx] at hc
    clear hx hw1
    obtain ⟨x1, x2⟩ := x
    have z0 : w1.cell? ⟨b, o + k * 2, none⟩ = some (.bool x1) := hc 0 _ rfl
    have z1 : w1.cell? ⟨b, o + k * 2 + 1, none⟩ = some (.bool x2) := hc 1 _ rfl
    have k1 : (0 : Int) < (n1 : Int) := by omega
    have k2 : IntKind.i64.wrap ((n1 : Int) - 1) = (k : Int) := by rw [IntKind.wrap_i64]; omega
    have k3 : (n1 : Int) - 1 = (k : Int) := by omega
    have k4 : (0 : Int) ≤ (k : Int) := by omega
    have k5 : (k : Int) < (n1 : Int) := by omega
    clear hc hk hn0
    cases x1
    · go_wp2_with fail
      go_ret
      exact ⟨rfl, HB1.out⟩
    cases x2
    · go_wp2_with fail
      go_ret
      exact ⟨rfl, HB1.out⟩
    have HJ := Lib.hid (evs_join l m HW.out)
    go_wp2_with fail
    refine (events_any w1 _ n1 c1 w.heap.size l (H1.out.below HB1.out) HB1.out.size (by omega)).mono ?_
    intro e w2 ht
    obtain ⟨A3, d3, rfl, hm, hb⟩ := ht.nums (evs_in _)
    have hel : (evs l).length = n1 := by rw [← HL1.out]; exact evs_len l
    rw [hel] at hm ⊢
    have HE2 := Lib.hid hm
    have HB2 := Lib.hid (HB1.out.trans (hb.mono HB1.out.size))
    clear ht hm hb hel
    go_wp2_with fail
    refine (events_any w2 A2 n2 c2 w.heap.size m (H2.out.below HB2.out) HB2.out.size (by omega)).mono ?_
    intro e w3 ht
    obtain ⟨A4, d4, rfl, hm, hb⟩ := ht.nums (evs_in _)
    have hel : (evs m).length = n2 := by rw [← HL2.out]; exact evs_len m
    rw [hel] at hm ⊢
    have HE3 := Lib.hid hm
    have HE23 := Lib.hid ((HE2.out.below hb).mono hb.size)
    have HB3 := Lib.hid (HB2.out.trans (hb.mono HB2.out.size))
    clear ht hm hb hel HE2 HB2
    have hb4 := below_box w3 (.cells #[] 30)
    have HB4 := Lib.hid (HB3.out.trans (hb4.mono HB3.out.size))
    obtain ⟨v5, w5, hr5, hq5, hl5, _⟩ := append_many elemLev (w3.alloc (.cells #[] 30)) w3.heap.size 22 _ [] (own_new levE w3 _ [] #[] rfl (by decide)) _ n1 c1 w.heap.size l (H1.out.below HB4.out) (by simp <;> omega) (by simp)
    rw [List.nil_append] at hq5
    have HB35 := Lib.hid (show Below w3.heap.size w3 w5 from hb4.trans hl5)
    have HB5 := Lib.hid (HB3.out.trans (HB35.out.mono HB3.out.size))
    obtain ⟨v6, w6, hr6, hq6, hl6, _⟩ := append_many elemLev w5 w3.heap.size 22 v5 l hq5 A2 n2 c2 w.heap.size m (H2.out.below HB5.out) (by have := HL1.out; omega) HB35.out.size
    have HB36 := Lib.hid (HB35.out.trans hl6)
    have HB6 := Lib.hid (HB3.out.trans (HB36.out.mono HB3.out.size))
    obtain ⟨A6, c6, rfl, _, _, hm6⟩ := hq6.many
    obtain ⟨N, hN⟩ : ∃ N, n1 + n2 = N := ⟨_, rfl⟩
    have hlm : (l ++ m).length = N := by rw [List.length_append, HL1.out, HL2.out, hN]
    rw [hlm] at hm6 hr6
    have HM6 := Lib.hid hm6
    have HN := Lib.hid (show N ≤ 300 by omega)
    have HR5 := Lib.hid hr5
    have HR6 := Lib.hid hr6
    clear hb4 hr5 hq5 hl5 hr6 hq6 hl6 hm6 hN
    go_wp2_with (at_builtin; first
      | (refine Lib.wpList_append_run _ rfl _ _ _ _ rfl _ _ rfl rfl _ _ HR5.out ?_)
      | (refine Lib.wpList_append_run _ rfl _ _ _ _ rfl _ _ rfl rfl _ _ HR6.out ?_))
    refine (events_any w6 A6 N c6 w6.heap.size (l ++ m) HM6.out (Nat.le_refl _) (by have := HN.out; omega)).mono ?_
    intro e w7 ht
    obtain ⟨A7, d7, rfl, hm, hb⟩ := ht.nums (evs_in _)
    have hel : (evs (l ++ m)).length = N := by rw [evs_len, hlm]
    rw [hel] at hm ⊢
    rw [HJ.out] at hm
    have HE7 := Lib.hid hm
    have HB37 := Lib.hid (HB36.out.trans (hb.mono HB36.out.size))
    have HB7 := Lib.hid (HB3.out.trans (HB37.out.mono HB3.out.size))
    clear ht hm hb hel
    have HC1 := Lib.hid (HE23.out.below HB37.out)
    have HC2 := Lib.hid (HE3.out.below HB37.out)
    have hb8 := below_box w7 (.cells #[] 3)
    obtain ⟨v8, w8, hr8, hq8, hl8⟩ := append_any elemI (w7.alloc (.cells #[] 3)) w7.heap.size 24 _ [] (own_empty .i64 _ _ w7 (Nat.le_refl _)) A3 n1 d3 w3.heap.size (evs l) (HC1.out.below (hb8.mono HB37.out.size)) (by simp <;> omega) (by simp)
    rw [List.nil_append] at hq8
    have HB78 := Lib.hid (show Below w7.heap.size w7 w8 from hb8.trans hl8)
    obtain ⟨v9, w9, hr9, hq9, hl9⟩ := append_any elemI w8 w7.heap.size 24 v8 (evs l) hq8 A4 n2 d4 w3.heap.size (evs m) (HC2.out.below (HB78.out.mono HB37.out.size)) (by rw [evs_len]; have := HL1.out; omega) HB78.out.size
    have HB79 := Lib.hid (HB78.out.trans hl9)
    obtain ⟨A9, c9, rfl, _, hm9⟩ := hq9.nums (fun v hv => int_wf.2 (by
      rw [← HJ.out] at hv
      have := evs_in _ v hv
      omega))
    have hl9' : (evs l ++ evs m).length = N := by rw [← HJ.out, evs_len, hlm]
    rw [hl9'] at hm9 hr9
    have HM9 := Lib.hid hm9
    have HM7 := Lib.hid ((HE7.out.below HB79.out).mono HB79.out.size)
    have HB9 := Lib.hid (HB7.out.trans (HB79.out.mono HB7.out.size))
    have HR8 := Lib.hid hr8
    have HR9 := Lib.hid hr9
    clear hb8 hr8 hq8 hl8 hr9 hq9 hl9 hm9 hl9' hlm
    go_wp2_with (at_builtin; first
      | (refine append_wanted _ (by rfl) _ _ _ _ rfl _ _ rfl rfl _ _ HR8.out ?_)
      | (refine append_wanted _ (by rfl) _ _ _ _ rfl _ _ rfl rfl _ _ HR9.out ?_))
    refine (ints_refl A7 A9 N d7 c9 w9.heap.size (evs l ++ evs m) w9 (by have := HN.out; unfold maxLen; omega) HM7.out HM9.out (Nat.le_refl _)).mono ?_
    rintro e w10 ⟨rfl, hb⟩
    have HB10 := Lib.hid (HB9.out.trans (hb.mono HB9.out.size))
    clear hb
    go_wp2_with fail
    go_ret
    exact ⟨rfl, HB10.out⟩
end Go.Proofs.Ytilaldojbgbegaa
