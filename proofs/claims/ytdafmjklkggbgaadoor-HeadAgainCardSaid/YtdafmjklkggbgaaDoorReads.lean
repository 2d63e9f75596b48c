/-
  THE WALK OF HeadReads.
-/
import Derived.Test.YtdafmjklkggbgaaDoorBox
namespace Go.Proofs.YtdafmjklkggbgaaDoor
open Ks Go.RowKit
/-- a copy of bytes: append onto none -/
theorem clone_run (w : World) (S : Nat) (hS : w.heap.size = S) (A : Option Addr) (m c B : Nat) (l : List Int) (hl : Bytes w B A m l) (hB : B ≤ w.heap.size) (hm : m ≤ 1000) :
    ∃ v' w', (Builtin.append_ #[29, 29] 29 #[.slice (some ⟨S, 0, none⟩) 0 0, .slice A m c]).run Tryd.prog (w.alloc (.cells #[] 5)) = .ok v' w' ∧ Own S w' v' l ∧ Below S w w' := by
  subst hS
  have hb := below_box w (.cells #[] 5)
  obtain ⟨v', w', h1, h2, h3⟩ := append_own (w.alloc (.cells #[] 5)) w.heap.size 29 _ [] (own_none _ w _ (Nat.le_refl _) rfl) A m c B l (bytes_below hl (hb.mono hB)) (by simp; omega) hb.size
  exact ⟨v', w', h1, by simpa using h2, hb.trans h3⟩
theorem Own.at_ {base : Nat} {w : World} {A : Option Addr} {n c : Nat} {l : List Int} (h : Own base w (.slice A n c) l) (h0 : 0 < l.length) : ∃ g, A = some ⟨g, 0, none⟩ ∧ base ≤ g := by
  rcases h.2 with ⟨hh, h9⟩ | ⟨g, cap, cur, hh, hb, _⟩
  · omega
  · cases hh
    exact ⟨g, rfl, hb⟩
theorem headReads_walk (w : World) (A : Option Addr) (n c : Nat) (z : List Int) (hr : IsRow .u8 w A n c z) (hT : Tab w) :
    Calls Tryd.prog 4 #[.slice A n c] w fun e w' => e = .returned (.bool true) ∧ Below w.heap.size w w' := by
  have HN := Lib.hid hr.len_le
  have HT := Lib.hid hT
  have HR := Lib.hid hr.bytes
  clear hT hr
  obtain ⟨l, hl⟩ : ∃ l, z.take n = l := ⟨_, rfl⟩
  rw [hl] at HR
  clear hl
  by_cases h60 : (60 : Int) < (n : Int)
  · go_enter Tryd.func4, Tryd.ntmps4
    go_wp2_with fail
    refine (awake_any _ _ (On.start HT.out)).mono ?_
    rintro e w1 ⟨rfl, hw1⟩
    have H1 := Lib.hid hw1.bel
    clear hw1
    go_wp2_with fail
    go_ret
    exact ⟨rfl, H1.out⟩
  have hd : decide ((60 : Int) < (n : Int)) = false := by simp; omega
  go_enter Tryd.func4, Tryd.ntmps4
  go_wp2_with fail
  refine (awake_any _ _ (On.start HT.out)).mono ?_
  rintro e w1 ⟨rfl, hw1⟩
  have H1 := Lib.hid hw1
  have HB1 := Lib.hid (bytes_below HR.out hw1.bel)
  have HS1 := Lib.hid hw1.bel.size
  clear hw1 HR
  go_wp2_with fail
  obtain ⟨xa, xb, xc, xn, xq, xs, xe, hdec⟩ := decT_form l
  refine (dec_any A n c _ l _ _ (On.start H1.out.tab) HN.out.1 HB1.out HS1.out).mono ?_
  rw [hdec]
  rintro e w2 ⟨rfl, hw2⟩
  have HD := Lib.hid hdec
  have H2 := Lib.hid (H1.out.next hw2.bel)
  have HB2 := Lib.hid (bytes_more (bytes_below HB1.out (hw2.bel.mono HS1.out)) (Nat.le_trans HS1.out hw2.bel.size))
  clear hw2 hdec HB1 HS1
  go_wp2_with fail
  have HX2 := Lib.hid (Box.new w2 xa xb xc xn xq xs)
  replace HB2 := Lib.hid (bytes_more (bytes_below HB2.out (below_box w2 (.cells #[.int .i64 xa, .int .i64 xb, .int .i64 xc, .int .i64 xn, .int .u64 xq, .int .u32 xs] 27))) (below_box w2 (.cells #[.int .i64 xa, .int .i64 xb, .int .i64 xc, .int .i64 xn, .int .u64 xq, .int .u32 xs] 27)).size)
  have HZ2 := Lib.hid H2.out.bel.size
  replace H2 := Lib.hid (H2.out.next (below_box w2 (.cells #[.int .i64 xa, .int .i64 xb, .int .i64 xc, .int .i64 xn, .int .u64 xq, .int .u32 xs] 27)))
  generalize w2.alloc (.cells #[.int .i64 xa, .int .i64 xb, .int .i64 xc, .int .i64 xn, .int .u64 xq, .int .u32 xs] 27) = W2 at *
  generalize w2.heap.size = p2 at *
  refine (refDec_any A n c _ l _ _ (On.start H2.out.tab) HN.out.1 HB2.out (Nat.le_refl _)).mono ?_
  rw [HD.out]
  rintro e w3 ⟨rfl, hw3⟩
  have H3 := Lib.hid (H2.out.next hw3.bel)
  have HB3 := Lib.hid (bytes_more (bytes_below HB2.out hw3.bel) hw3.bel.size)
  have HX3 := Lib.hid (HX2.out.below hw3.bel HX2.out.lt)
  clear hw3 HB2 HX2 H2 H1
  have HP := Lib.hid HX3.out.lt
  replace HX3 := Lib.hid (And.intro (HX3.out.below (below_box w3 (.cells #[.int .i64 xa, .int .i64 xb, .int .i64 xc, .int .i64 xn, .int .u64 xq, .int .u32 xs] 27)) HX3.out.lt) (Box.new w3 xa xb xc xn xq xs))
  replace HB3 := Lib.hid (bytes_more (bytes_below HB3.out (below_box w3 (.cells #[.int .i64 xa, .int .i64 xb, .int .i64 xc, .int .i64 xn, .int .u64 xq, .int .u32 xs] 27))) (below_box w3 (.cells #[.int .i64 xa, .int .i64 xb, .int .i64 xc, .int .i64 xn, .int .u64 xq, .int .u32 xs] 27)).size)
  replace H3 := Lib.hid (H3.out.next (below_box w3 (.cells #[.int .i64 xa, .int .i64 xb, .int .i64 xc, .int .i64 xn, .int .u64 xq, .int .u32 xs] 27)))
  have HZ3 := Lib.hid (show (w3.alloc (.cells #[.int .i64 xa, .int .i64 xb, .int .i64 xc, .int .i64 xn, .int .u64 xq, .int .u32 xs] 27)).heap.size = w3.heap.size + 1 from World.size_alloc _ _)
  obtain ⟨x0, x1, x2, x3, x4, x5⟩ := HX3.out.1.six
  obtain ⟨y0, y1, y2, y3, y4, y5⟩ := HX3.out.2.six
  by_cases h24 : (n : Int) < 24
  · go_wp2_with fail
    go_ret
    exact ⟨rfl, H3.out.bel⟩
  obtain ⟨b0, o0, rfl, _, _⟩ := HB3.out.2.2 (by omega)
  have hd24 : decide ((n : Int) < 24) = false := by simp; omega
  have HNC := Lib.hid (show 24 ≤ c by have := HN.out.1; omega)
  have hc24 : (24 : Int) ≤ (c : Int) := by have := HNC.out; omega
  have HP3 := Lib.hid (bytes_part HB3.out 0 24 (by omega))
  rw [Nat.add_zero] at HP3
  obtain ⟨v4, w4, hap, hown, hbel⟩ := clone_run _ _ HZ3.out _ 24 c _ _ HP3.out (Nat.le_refl _) (by omega)
  have HAP := Lib.hid hap
  have HBEL := Lib.hid hbel
  have HOWN := Lib.hid hown
  clear hap hown hbel
  go_wp2_with (at_builtin; refine Lib.wpList_append_run _ rfl _ _ _ _ rfl _ _ rfl rfl _ _ HAP.out ?_)
  clear x0 x1 x2 x3 x4 x5 y0 y1 y2 y3 y4 y5
  have HLT := Lib.hid (show p2 < w3.heap.size + 1 ∧ w3.heap.size < w3.heap.size + 1 ∧ w.heap.size ≤ w3.heap.size + 1 from ⟨by have := HP.out; omega, by omega, by rw [← HZ3.out]; exact H3.out.bel.size⟩)
  have H4 := Lib.hid (H3.out.next_at HBEL.out HLT.out.2.2 (tab_pos HT.out))
  have HX4 := Lib.hid (And.intro (HX3.out.1.below HBEL.out HLT.out.1) (HX3.out.2.below HBEL.out HLT.out.2.1))
  have HSZ := Lib.hid (show w3.heap.size + 1 ≤ w4.heap.size by rw [← HZ3.out]; exact HBEL.out.size)
  clear HX3 H3 HBEL HAP HB3 HZ3
  have hlen : (Ks.part l 0 24).length = 24 := HP3.out.1
  have hvin := HP3.out.2.1
  clear HP3
  obtain ⟨t, ht⟩ : ∃ t, Ks.part l 0 24 = t := ⟨_, rfl⟩
  rw [ht] at HOWN hlen hvin
  clear ht
  obtain ⟨A4, c4, rfl, hc4, hby4⟩ := HOWN.out.bytes hvin
  rw [hlen] at hc4 hby4 HOWN
  simp only [hlen]
  have HBY4 := Lib.hid hby4
  have HVIN := Lib.hid hvin
  have HLEN := Lib.hid hlen
  clear hby4 hvin hlen
  obtain ⟨u, hu⟩ : ∃ v, sumOf t = v := ⟨_, rfl⟩
  have HU := Lib.hid hu
  have hui : 0 ≤ u ∧ u < 4294967296 := by rw [← hu]; exact sumOf_in _
  obtain ⟨hu0, hu1⟩ := hui
  clear hu
  refine (sum_at A4 24 c4 _ t u w4 H4.out.tab (by unfold maxLen; omega) HBY4.out HU.out).mono ?_
  rintro e w4 ⟨rfl, rfl⟩
  go_wp2_with fail
  refine (refBytes_any u 4 _ hu0 (by omega) (by omega)).mono ?_
  rintro e w5 ⟨v5, rfl, hy⟩
  have ho : Own w4.heap.size w5 v5 (le 4 u) := by unfold Own; rw [le_len]; exact hy.1
  obtain ⟨A5, c5, rfl, _, hb5⟩ := ho.bytes (le_in 4 u)
  rw [le_len] at hb5
  simp only [le_len]
  have hb45 := hy.2
  obtain ⟨v6, w6, hap, hown6, hb6⟩ := append_own w5 (w3.heap.size + 1) 29 _ t (HOWN.out.below hb45) A5 4 c5 _ (le 4 u) hb5 (by rw [HLEN.out]; omega) (Nat.le_trans HSZ.out hb45.size)
  have HAP := Lib.hid hap
  have hb46 := (hb45.mono HSZ.out).trans hb6
  have H6 := Lib.hid (H4.out.next_at hb46 HLT.out.2.2 (tab_pos HT.out))
  have HX6 := Lib.hid (And.intro (HX4.out.1.below hb46 HLT.out.1) (HX4.out.2.below hb46 HLT.out.2.1))
  have hin6 : ∀ v ∈ t ++ le 4 u, 0 ≤ v ∧ v ≤ 255 := fun v hv => (List.mem_append.1 hv).elim (HVIN.out v) (le_in 4 u v)
  have hl6 : (t ++ le 4 u).length = 28 := by rw [List.length_append, HLEN.out, le_len]
  obtain ⟨A6, c6, rfl, hc6, hby6⟩ := hown6.bytes hin6
  obtain ⟨g6, rfl, hg6⟩ := hown6.at_ (by rw [hl6]; omega)
  rw [hl6] at hc6 hby6 HAP
  have HB6 := Lib.hid hby6
  clear hap hown6 hb6 hb46 hb45 hy ho hb5 hby6 hl6 hin6 HX4 H4 HBY4 HOWN
  obtain ⟨t6, ht6⟩ : ∃ t6, t ++ le 4 u = t6 := ⟨_, rfl⟩
  rw [ht6] at HB6
  clear ht6
  go_wp2_with (at_builtin; refine Lib.wpList_append_run _ rfl _ _ _ _ rfl _ _ rfl rfl _ _ HAP.out ?_)
  clear HAP
  obtain ⟨ya, yb, yc, yn, yq, ys, ye, hdec⟩ := decT_form t6
  refine (dec_any _ 28 c6 _ t6 _ _ (On.start H6.out.tab) hc6 HB6.out (Nat.le_refl _)).mono ?_
  rw [hdec]
  rintro e w7 ⟨rfl, hw7⟩
  have HD7 := Lib.hid hdec
  have H7 := Lib.hid (H6.out.next hw7.bel)
  have HB7 := Lib.hid (bytes_more (bytes_below HB6.out hw7.bel) hw7.bel.size)
  have HX7 := Lib.hid (And.intro (HX6.out.1.below hw7.bel HX6.out.1.lt) (HX6.out.2.below hw7.bel HX6.out.2.lt))
  clear hw7 hdec HB6 HX6 H6
  obtain ⟨x0, x1, x2, x3, x4, x5⟩ := HX7.out.1.six
  have xf := HX7.out.1.fr
  go_wp2_with fail
  clear x0 x1 x2 x3 x4 x5 xf
  have HO8 := Lib.hid (sets_only w7 p2 ya yb yc yn yq ys)
  have HX8 := Lib.hid (And.intro (sets_box HX7.out.1 ya yb yc yn yq ys) (HX7.out.2.only HO8.out (by have := HP.out; omega)))
  have HB8 := Lib.hid (bytes_more (bytes_only HB7.out HO8.out (by have := HLT.out.1; omega)) (Nat.le_of_eq HO8.out.size.symm))
  have H8 := Lib.hid (H7.out.only HO8.out HZ2.out (Nat.lt_of_lt_of_le (tab_pos HT.out) HZ2.out))
  change Calls _ _ _ (sets w7 p2 ya yb yc yn yq ys) _
  clear HO8 HX7 HB7 H7
  generalize sets w7 p2 ya yb yc yn yq ys = w8 at *
  refine (refDec_any _ 28 c6 _ t6 _ _ (On.start H8.out.tab) hc6 HB8.out (Nat.le_refl _)).mono ?_
  rw [HD7.out]
  rintro e w9 ⟨rfl, hw9⟩
  have H9 := Lib.hid (H8.out.next hw9.bel)
  have HX9 := Lib.hid (And.intro (HX8.out.1.below hw9.bel HX8.out.1.lt) (HX8.out.2.below hw9.bel HX8.out.2.lt))
  clear hw9 HB8 HX8 H8
  have HO10 := Lib.hid (sets_only w9 w3.heap.size ya yb yc yn yq ys)
  have HX10 := Lib.hid (And.intro (HX9.out.1.only HO10.out (by have := HP.out; omega)) (sets_box HX9.out.2 ya yb yc yn yq ys))
  have H10 := Lib.hid (H9.out.only HO10.out (Nat.le_trans HZ2.out (Nat.le_of_lt HP.out)) (Nat.lt_of_lt_of_le (tab_pos HT.out) (Nat.le_trans HZ2.out (Nat.le_of_lt HP.out))))
  obtain ⟨y0, y1, y2, y3, y4, y5⟩ := HX9.out.2.six
  have yf := HX9.out.2.fr
  obtain ⟨u0, u1, u2, u3, u4, u5⟩ := HX10.out.1.six
  obtain ⟨z0, z1, z2, z3, z4, z5⟩ := HX10.out.2.six
  unfold sets at u0 u1 u2 u3 u4 u5 z0 z1 z2 z3 z4 z5
  go_wp2_with fail
  go_ret
  exact ⟨rfl, H10.out.bel⟩
end Go.Proofs.YtdafmjklkggbgaaDoor
