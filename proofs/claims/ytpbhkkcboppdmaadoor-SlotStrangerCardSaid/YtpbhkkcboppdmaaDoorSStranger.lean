/-
  THE WALK OF SlotStranger.
-/
import Derived.Test.YtpbhkkcboppdmaaDoorSMore
namespace Go.Proofs.YtpbhkkcboppdmaaDoor
open Ks Go.RowKit
set_option maxRecDepth 20000

theorem put_bad {s : St} {which a b c er : Int} {l : List Int} (h : forErr s which a b c l.length = er) (h0 : er ≠ 0) : put_ s which a b c l = (s, er) := by
  unfold put_; rw [h, if_pos h0]
theorem laid_bad {s : St} {which a b c q er : Int} {l : List Int} (h : forErr s which a b c l.length = er) (h0 : er ≠ 0) : laid s which a b c q l = (s, er) := by
  unfold laid; rw [h, if_pos h0]
theorem wiped_bad {s : St} {which a b c er : Int} (h : findErr s which a b c = er) (h0 : er ≠ 0) : wiped s which a b c = (s, er) := by
  unfold wiped; rw [h, if_pos h0]
theorem read_bad {s : St} {which a b c er : Int} (h : findErr s which a b c = er) (h0 : er ≠ 0) : readOf s which a b c = (s, noSlt, er) := by
  unfold readOf; rw [h, if_pos h0]
theorem forErr_bad {s : St} {which a b c er : Int} {n : Nat} (h : findErr s which a b c = er) (h0 : er ≠ 0) : forErr s which a b c n = er := by
  unfold forErr; rw [h, if_pos h0]
/-- a head is of other chips -/
theorem read_alien {s : St} (hf : NoFail s) {a b c a' b' c' q : Int} {l : List Int} {z : Nat} (hcan : can a b c l.length = true) (he : findErr s 0 a' b' c' = 0) (hlen : 0 < s.last.length) (hq : 0 ≤ q ∧ q < 18446744073709551616)
    (hh : view s 0 = padded (enc a b c l.length q (sumOf l)) z) (hne : ¬ (a = a' ∧ b = b' ∧ c = c')) : (readOf s 0 a' b' c').2 = (⟨1, 0, 0, []⟩, 0) := by
  unfold readOf
  rw [he, if_neg (fun h => h rfl), Int.zero_mul, read_fine hf 0 (by omega) (by omega), if_neg (fun h => h rfl), hh]
  have hd : padded (enc a b c l.length q (sumOf l)) z = enc a b c l.length q (sumOf l) ++ List.replicate (z - (enc a b c l.length q (sumOf l)).length) 0 := rfl
  obtain ⟨d0, d1⟩ := dec_enc a b c l.length q (sumOf l) (List.replicate (z - (enc a b c l.length q (sumOf l)).length) 0) hcan hq (sumOf_in l)
  rw [hd]
  generalize enc a b c l.length q (sumOf l) ++ List.replicate (z - (enc a b c l.length q (sumOf l)).length) 0 = X at *
  unfold decH at d1
  obtain ⟨e1, e2, e3, e4, e5, e6⟩ := headV_inj.1 d1
  show (headOf s.tick X 0 a' b' c').2 = _
  unfold headOf
  rw [if_neg (fun h => h d0), if_pos (by rw [e1, e2, e3]; exact hne)]
/-- all that SlotStranger does, of disks as values -/
theorem stranger_plan {a b c a' b' c' : Int} {l : List Int} {z : Nat} (hz : 32 ≤ z) (hz2 : z ≤ 131) (hr : right a b c = true) (hn : (l.length : Int) = total a b c) (h5 : l.length ≤ 500) (h8 : In8 l) (s0 : St) (hs0 : Dsk.fresh z (List.replicate 40 (List.replicate z 0)) = s0) :
    (Ok 0 s0 ∧ s0.size = z ∧ s0.wr = 0) ∧ ((put_ s0 0 a b c l = (s0, 4) ∧ laid s0 0 a b c 5 l = (s0, 4)) ∨ ∃ s1 s2, put_ s0 0 a b c l = (s1, 0) ∧ laid s1 0 a b c 5 l = (s2, 0) ∧ (Ok 10000 s1 ∧ Ok 10000 s2 ∧ s1.size = z ∧ s2.size = z) ∧
      ((right a' b' c' = false ∧ readOf s2 0 a' b' c' = (s2, noSlt, 9) ∧ put_ s2 0 a' b' c' l = (s2, 9) ∧ wiped s2 1 a' b' c' = (s2, 9)) ∨ (right a' b' c' = true ∧ readOf s2 0 a' b' c' = (s2, noSlt, 4)) ∨
        (right a' b' c' = true ∧ ∃ s3, readOf s2 0 a' b' c' = (s3, ⟨1, 0, 0, []⟩, 0) ∧ ¬ (a = a' ∧ b = b' ∧ c = c')) ∨ (right a' b' c' = true ∧ ∃ s3, readOf s2 0 a' b' c' = (s3, ⟨2, 0, 5, l⟩, 0) ∧ a = a' ∧ b = b' ∧ c = c'))) := by
  have hz0 : s0.size = z := by rw [← hs0]; rfl
  have hl0 : s0.last.length = 40 := by rw [← hs0]; simp [Dsk.fresh]
  have hf0 : NoFail s0 := by rw [← hs0]; exact nofail_fresh _ _
  have hO0 : Ok 0 s0 := by rw [← hs0]; exact ok_fresh z _ 0 (new_in8 40 z) (by simp) (by omega)
  refine ⟨⟨hO0, hz0, by rw [← hs0]; rfl⟩, ?_⟩
  have hb := many_bounds l.length z (by omega) (by omega)
  by_cases hfull : (40 : Int) < 2 * spanOf z a b c
  · left
    have he : forErr s0 0 a b c l.length = 4 := forErr_bad (by
      unfold findErr
      rw [if_neg (by rw [hr]; decide), if_neg (by omega), if_pos (by rw [hz0, hl0]; exact hfull)]) (by decide)
    exact ⟨put_bad he (by decide), laid_bad he (by decide)⟩
  right
  have fe0 : findErr s0 0 a b c = 0 := by
    unfold findErr
    rw [if_neg (show ¬ right a b c = false by rw [hr]; decide), if_neg (by omega), if_neg (by rw [hz0, hl0]; exact hfull)]
  have he : forErr s0 0 a b c l.length = 0 := by unfold forErr; rw [fe0, if_neg (fun h => h rfl), if_neg (fun h => h hn)]
  obtain ⟨s1, p1, S1⟩ := put_has hf0 hz0 (by omega) he
  rw [Int.zero_mul] at S1
  have z1 : s1.size = z := S1.size.trans hz0
  have e1 : forErr s1 0 a b c l.length = 0 := by rw [forErr_of S1.size S1.last]; exact he
  have p2 := laid_fine (q := 5) S1.fine z1 (by omega) e1
  rw [Int.zero_mul] at p2
  obtain ⟨X, hX⟩ : ∃ X, padded (enc a b c l.length 5 (sumOf l)) z = X := ⟨_, rfl⟩
  rw [hX] at p2
  obtain ⟨s2, hs2⟩ : ∃ s2, s1.put 0 X = s2 := ⟨_, rfl⟩
  rw [hs2] at p2
  have H2 : Has s2 0 X z l := by rw [← hs2]; exact laid_Has S1.imgs
  have f2 : NoFail s2 := by rw [← hs2]; exact S1.fine.put _ _
  have z2 : s2.size = z := by rw [← hs2]; exact z1
  have l2 : s2.last = s0.last := by rw [← hs2]; exact S1.last
  have O1 := put_ok hO0 h8 p1
  rw [hz0] at O1
  have O2 := laid_ok O1 p2
  refine ⟨s1, s2, p1, p2, ⟨O1.mono (by omega), O2.mono (by omega), z1, z2⟩, ?_⟩
  by_cases hr' : right a' b' c' = false
  · have f9 : ∀ wh : Int, findErr s2 wh a' b' c' = 9 := fun wh => by unfold findErr; rw [if_pos hr']
    exact .inl ⟨hr', read_bad (f9 0) (by decide), put_bad (forErr_bad (f9 0) (by decide)) (by decide), wiped_bad (f9 1) (by decide)⟩
  have hr'' : right a' b' c' = true := by simpa using hr'
  right
  by_cases hfull' : (40 : Int) < 2 * spanOf z a' b' c'
  · left
    exact ⟨hr'', read_bad (by
      unfold findErr
      rw [if_neg hr', if_neg (by omega), if_pos (by rw [z2, l2, hl0]; exact hfull')]) (by decide)⟩
  right
  have fe : findErr s2 0 a' b' c' = 0 := by
    unfold findErr
    rw [if_neg hr', if_neg (by omega), if_neg (by rw [z2, l2, hl0]; exact hfull')]
  by_cases hg : a = a' ∧ b = b' ∧ c = c'
  · right
    obtain ⟨rfl, rfl, rfl⟩ := hg
    have e2 : forErr s2 0 a b c l.length = 0 := by unfold forErr; rw [fe, if_neg (fun h => h rfl), if_neg (fun h => h hn)]
    rw [← hX] at H2
    exact ⟨hr'', _, Prod.ext rfl (read_good f2 (q := 5) z2 (by omega) e2 (by omega) (by rw [Int.zero_mul]; exact H2)), rfl, rfl, rfl⟩
  · left
    exact ⟨hr'', _, Prod.ext rfl (read_alien f2 (forErr_ok he).2.2.2.1 fe (by rw [l2, hl0]; omega) (by omega) (H2.head.trans hX.symm) hg), hg⟩
theorem below_drewn {N : Nat} {w w' : World} (h : Below N w w') (n : Nat) : Below N w (w'.drewN n) := ⟨h.os, h.tape, h.output, h.size, h.block⟩
theorem mod100' {sz : Int} (hs : 0 ≤ sz ∧ sz ≤ 255) : ∃ r : Int, sz.tmod 100 = r ∧ 0 ≤ r ∧ r ≤ 99 ∧ ∃ z : Nat, 32 + r = z ∧ 32 ≤ z ∧ z ≤ 131 :=
  ⟨sz % 100, Int.tmod_eq_emod_of_nonneg hs.1, by omega, by omega, (32 + sz % 100).toNat, by omega, by omega, by omega⟩
theorem two_boxes (w : World) (a b c a' b' c' : Int) : Below w.heap.size w ((w.alloc (.cells #[.int .i64 a, .int .i64 b, .int .i64 c] 23)).alloc (.cells #[.int .i64 a', .int .i64 b', .int .i64 c'] 23)) := by
  have b1 := below_box w (.cells #[.int .i64 a, .int .i64 b, .int .i64 c] 23)
  have b2 := below_box (w.alloc (.cells #[.int .i64 a, .int .i64 b, .int .i64 c] 23)) (.cells #[.int .i64 a', .int .i64 b', .int .i64 c'] 23)
  exact b1.trans (b2.mono b1.size)
set_option maxHeartbeats 2000000 in
theorem slotStranger_walk (w : World) (a b c a' b' c' sz : Int) (A : Option Addr) (n cap : Nat) (l : List Int) (hT : Tab w) (hl : Bytes w w.heap.size A n l) (hs : 0 ≤ sz ∧ sz ≤ 255) :
    Calls Tryd.prog 7 #[geoV a b c, geoV a' b' c', .int .u8 sz, .slice A n cap] w fun e w' => e = .returned (.bool true) ∧ Below w.heap.size w w' := by
  have HB := Lib.hid (two_boxes w a b c a' b' c')
  have hb1 := boxed w (.int .i64 a) (.int .i64 b) (.int .i64 c) 23
  have hb2 := boxed (w.alloc (.cells #[.int .i64 a, .int .i64 b, .int .i64 c] 23)) (.int .i64 a') (.int .i64 b') (.int .i64 c') 23
  have HG := Lib.hid (geo_below hb1 (below_box (w.alloc (.cells #[.int .i64 a, .int .i64 b, .int .i64 c] 23)) (.cells #[.int .i64 a', .int .i64 b', .int .i64 c'] 23)))
  rw [size_alloc] at hb2
  have HH := Lib.hid hb2
  have HT := Lib.hid (tab_below hT HB.out (tab_pos hT))
  have HL := Lib.hid (bytes_mono (bytes_below hl HB.out) HB.out.size)
  have HS := Lib.hid hs
  have HLEN := Lib.hid hl.1
  clear hT hl hs hb1 hb2
  obtain ⟨x1, hx1⟩ : ∃ x, few500 a b c = x := ⟨_, rfl⟩
  obtain ⟨x3, hx3⟩ : ∃ x, few500 a' b' c' = x := ⟨_, rfl⟩
  obtain ⟨x2, hx2⟩ : ∃ x, right a b c = x := ⟨_, rfl⟩
  obtain ⟨t, ht⟩ : ∃ t, total a b c = t := ⟨_, rfl⟩
  have HX1 := Lib.hid hx1
  have HX2 := Lib.hid hx2
  have HX3 := Lib.hid hx3
  have HTT := Lib.hid ht
  clear hx1 hx2 hx3 ht
  go_enter Tryd.func7, Tryd.ntmps7
  go_wp2_with fail
  generalize (w.alloc (.cells #[.int .i64 a, .int .i64 b, .int .i64 c] 23)).alloc (.cells #[.int .i64 a', .int .i64 b', .int .i64 c'] 23) = W at *
  refine (awake_any W HT.out).mono ?_
  rintro e w1 ⟨rfl, hb1⟩
  have O1 := Lib.hid (show On W w1 from ⟨tab_below HT.out hb1 (tab_pos HT.out), hb1⟩)
  obtain ⟨g0, g1, g2⟩ := geo_below HG.out O1.out.bel
  clear hb1
  go_wp2_with fail
  refine (few_any a b c x1 _ _ O1.out HX1.out).mono ?_
  rintro e w2 ⟨rfl, hw2⟩
  have O2 := Lib.hid hw2
  clear hw2 g0 g1 g2 O1
  obtain ⟨h0, h1, h2⟩ := geo_below HH.out O2.out.bel
  go_wp2_with fail
  refine (few_any a' b' c' x3 _ _ O2.out HX3.out).mono ?_
  rintro e w2 ⟨rfl, hw2⟩
  clear O2
  have O2 := Lib.hid hw2
  clear hw2 h0 h1 h2
  obtain ⟨g0, g1, g2⟩ := geo_below HG.out O2.out.bel
  go_wp2_with fail
  refine (refRight_any a b c x2 _ _ O2.out HX2.out).mono ?_
  rintro e w3 ⟨rfl, hw3⟩
  have O3 := Lib.hid hw3
  clear hw3 g0 g1 g2 O2
  cases x1
  · have HE := Lib.hid (HB.out.trans (O3.out.bel.mono HB.out.size))
    go_wp2_with fail
    go_ret
    exact ⟨rfl, HE.out⟩
  cases x3
  · have HE := Lib.hid (HB.out.trans (O3.out.bel.mono HB.out.size))
    go_wp2_with fail
    go_ret
    exact ⟨rfl, HE.out⟩
  cases x2
  · have HE := Lib.hid (HB.out.trans (O3.out.bel.mono HB.out.size))
    go_wp2_with fail
    go_ret
    exact ⟨rfl, HE.out⟩
  obtain ⟨g0, g1, g2⟩ := geo_below HG.out O3.out.bel
  go_wp2_with fail
  refine (refTotal_any a b c t _ _ O3.out HTT.out).mono ?_
  rintro e w4 ⟨rfl, hw4⟩
  have O4 := Lib.hid hw4
  clear hw4 g0 g1 g2 O3
  by_cases hn : (n : Int) ≠ t
  · have hnb : ((n : Int) != t) = true := by simpa using hn
    have HE := Lib.hid (HB.out.trans (O4.out.bel.mono HB.out.size))
    go_wp2_with fail
    go_ret
    exact ⟨rfl, HE.out⟩
  have hn : (n : Int) = t := by omega
  have hnb : ((n : Int) != t) = false := by simpa using hn
  obtain ⟨r, hr, hr0, hr1, z, hz, hz1, hz2⟩ := mod100' HS.out
  obtain ⟨sz0, sz1⟩ := HS.out
  have h5 : n ≤ 500 := by
    have := HX1.out
    unfold few500 at this
    rw [HX2.out, HTT.out] at this
    simp at this
    omega
  have hln := HLEN.out
  obtain ⟨s0, hs0⟩ : ∃ s0, Dsk.fresh z (List.replicate 40 (List.replicate z 0)) = s0 := ⟨_, rfl⟩
  obtain ⟨hk0, hplan⟩ := stranger_plan (a' := a') (b' := b') (c' := c') (l := l) hz1 hz2 HX2.out (by rw [hln, HTT.out]; exact hn) (by omega) HL.out.2.1 s0 hs0
  have HPL := Lib.hid hplan
  have HK0 := Lib.hid hk0
  have HS0 := Lib.hid hs0
  have hmb := (many_bounds n z (by omega) (by omega)).2.2
  have HNM := Lib.hid hmb
  clear hs0 hplan hk0 hmb hln
  go_wp2_with fail
  refine (Dsk.new_ok w4 40 z (by omega) (by omega) (by omega)).mono ?_
  rw [HS0.out]
  rintro e w5 ⟨p, rfl, hd5, hk5⟩
  have D5 := Lib.hid (Dk.start O4.out.tab hk5 hd5)
  have B4 := Lib.hid O4.out.bel
  clear hd5 hk5 O4
  generalize Dsk.Grow No w4 w5 = F5 at *
  have HG4 := Lib.hid (geo_below HG.out B4.out)
  have HH4 := Lib.hid (geo_below HH.out B4.out)
  have HL4 := Lib.hid (bytes_mono (bytes_below HL.out B4.out) B4.out.size)
  obtain ⟨g0, g1, g2⟩ := geo_below HG4.out D5.out.bel
  go_wp2_with fail
  rcases HPL.out with ⟨p1, p2⟩ | ⟨s1, s2, p1, p2, hok, hcase⟩
  · have HP1 := Lib.hid p1
    have HP2 := Lib.hid p2
    clear p1 p2
    refine (data_any w5 p 0 n cap F5 s0 s0 _ a b c 4 A l D5.out.tab D5.out.disk HK0.out.1 (by rw [HK0.out.2.1]; have := HNM.out; omega) (bytes_mono (bytes_below HL4.out D5.out.bel) D5.out.le) (by omega) HP1.out).mono ?_
    rintro e w6 ht
    have D6 := Lib.hid (D5.out.tells ht)
    obtain ⟨rfl, _⟩ := ht
    clear g0 g1 g2 D5
    generalize Dsk.Grow F5 w5 w6 = F6 at *
    obtain ⟨g0, g1, g2⟩ := geo_below HG4.out D6.out.bel
    go_wp2_with fail
    refine (seal_any w6 p 0 n cap F6 s0 s0 _ a b c 5 4 A l D6.out.tab D6.out.disk HK0.out.1 (by omega) (bytes_mono (bytes_below HL4.out D6.out.bel) D6.out.le) (by omega) HP2.out).mono ?_
    rintro e w7 ht
    have D7 := Lib.hid (D6.out.tells ht)
    obtain ⟨rfl, _⟩ := ht
    clear g0 g1 g2 D6
    generalize Dsk.Grow F6 w6 w7 = F7 at *
    go_wp2_with fail
    refine (Dsk.writes_any w7 p F7 s0 D7.out.disk).mono ?_
    rw [HK0.out.2.2]
    rintro e w8 ⟨rfl, rfl⟩
    have HE := Lib.hid (HB.out.trans ((B4.out.trans (D7.out.bel.mono B4.out.size)).mono HB.out.size))
    go_wp2_with fail
    go_ret
    exact ⟨rfl, HE.out⟩
  · have HP1 := Lib.hid p1
    have HP2 := Lib.hid p2
    have HOK := Lib.hid hok
    have HCA := Lib.hid hcase
    clear p1 p2 hok hcase
    refine (data_any w5 p 0 n cap F5 s0 s1 _ a b c 0 A l D5.out.tab D5.out.disk HK0.out.1 (by rw [HK0.out.2.1]; have := HNM.out; omega) (bytes_mono (bytes_below HL4.out D5.out.bel) D5.out.le) (by omega) HP1.out).mono ?_
    rintro e w6 ht
    have D6 := Lib.hid (D5.out.tells ht)
    obtain ⟨rfl, _⟩ := ht
    clear g0 g1 g2 D5
    generalize Dsk.Grow F5 w5 w6 = F6 at *
    obtain ⟨g0, g1, g2⟩ := geo_below HG4.out D6.out.bel
    go_wp2_with fail
    refine (seal_any w6 p 10000 n cap F6 s1 s2 _ a b c 5 0 A l D6.out.tab D6.out.disk HOK.out.1 (by omega) (bytes_mono (bytes_below HL4.out D6.out.bel) D6.out.le) (by omega) HP2.out).mono ?_
    rintro e w7 ht
    have D7 := Lib.hid (D6.out.tells ht)
    obtain ⟨rfl, _⟩ := ht
    clear g0 g1 g2 D6
    generalize Dsk.Grow F6 w6 w7 = F7 at *
    go_wp2_with fail
    refine (Dsk.ops_any w7 p F7 s2 D7.out.disk).mono ?_
    rintro e w8 ⟨rfl, rfl⟩
    obtain ⟨h0, h1, h2⟩ := geo_below HH4.out D7.out.bel
    have HM := Lib.hid (show 10000 + 1 + many (total a' b' c').toNat s2.size < 1000000 by
      have h1 := total_lt a' b' c'
      have h2 := (many_bounds (total a' b' c').toNat z (by omega) (by omega)).2.2
      rw [HOK.out.2.2.2]; omega)
    go_wp2_with fail
    rcases HCA.out with ⟨hr', p3, p4, p5⟩ | ⟨hr', p3⟩ | ⟨hr', s3, p3, hne⟩ | ⟨hr', s3, p3, e1, e2, e3⟩
    · have HR' := Lib.hid hr'
      have HP3 := Lib.hid (show readOf s2 0 a' b' c' = (s2, ⟨0, 0, 0, []⟩, 9) from p3)
      have HP4 := Lib.hid p4
      have HP5 := Lib.hid p5
      clear hr' p3 p4 p5
      refine (read_is D7.out.tab (fun b hb => Nat.le_trans D7.out.two (D7.out.ge b hb)) D7.out.disk HOK.out.2.1 HM.out HP3.out).mono ?_
      rintro e w9 hrd
      have D9 := Lib.hid (D7.out.reads hrd)
      obtain ⟨_, _, v, rfl, ivv, rfl, hown⟩ := hrd
      obtain ⟨Av, nv, cv, rfl⟩ : ∃ A n c, ivv = .slice A n c := by
        rcases hown.2 with ⟨rfl, _⟩ | ⟨g, cap, cur, rfl, _⟩ <;> exact ⟨_, _, _, rfl⟩
      clear hown h0 h1 h2 D7
      have b10 := below_box w9 (.cells #[.int .i64 0, .int .i64 0, .int .u64 0, .slice Av nv cv] 37)
      have D10 := Lib.hid (D9.out.below b10)
      have X10 := Lib.hid (And.intro (Aside.new D9.out.disk (.cells #[.int .i64 0, .int .i64 0, .int .u64 0, .slice Av nv cv] 37)) (Blk.new w9 37 #[.int .i64 0, .int .i64 0, .int .u64 0, .slice Av nv cv]))
      obtain ⟨h0, h1, h2⟩ := geo_below HH4.out D10.out.bel
      clear D9 b10
      go_wp2_with fail
      generalize hxb : w9.heap.size = xb at *
      clear hxb
      generalize w9.alloc (.cells #[.int .i64 0, .int .i64 0, .int .u64 0, .slice Av nv cv] 37) = w10 at *
      refine (refRight_any a' b' c' false _ _ (On.start D10.out.tab) HR'.out).mono ?_
      rintro e w11 ⟨rfl, hw11⟩
      have D11 := Lib.hid (D10.out.below hw11.bel)
      have X11 := Lib.hid (X10.out.1.blk (Keeps.of_below hw11.bel).no X10.out.2)
      clear hw11 D10 X10 h0 h1 h2
      obtain ⟨h0, h1, h2⟩ := geo_below HH4.out D11.out.bel
      go_wp2_with fail
      refine (Dsk.ops_any w11 p F7 s2 D11.out.disk).mono ?_
      rintro e w12 ⟨rfl, rfl⟩
      go_wp2_with fail
      refine (data_any w11 p 10000 n cap F7 s2 s2 _ a' b' c' 9 A l D11.out.tab D11.out.disk HOK.out.2.1 (by rw [HOK.out.2.2.2]; have := HNM.out; omega) (bytes_mono (bytes_below HL4.out D11.out.bel) D11.out.le) (by omega) HP4.out).mono ?_
      rintro e w12 ht
      have D12 := Lib.hid (D11.out.tells ht)
      obtain ⟨rfl, _⟩ := ht
      clear h0 h1 h2 D11
      generalize Dsk.Grow F7 w11 w12 = F12 at *
      obtain ⟨h0, h1, h2⟩ := geo_below HH4.out D12.out.bel
      go_wp2_with fail
      refine (wipe_any w12 p 10000 F12 s2 s2 _ a' b' c' 9 D12.out.tab D12.out.disk HOK.out.2.1 (by omega) HP5.out).mono ?_
      rintro e w13 ht
      have D13 := Lib.hid (D12.out.tells ht)
      obtain ⟨rfl, _⟩ := ht
      have HE := Lib.hid (HB.out.trans ((B4.out.trans (D13.out.bel.mono B4.out.size)).mono HB.out.size))
      go_wp2_with fail
      go_ret
      exact ⟨rfl, HE.out⟩
    · have HR' := Lib.hid hr'
      have HP3 := Lib.hid (show readOf s2 0 a' b' c' = (s2, ⟨0, 0, 0, []⟩, 4) from p3)
      clear hr' p3
      refine (read_is D7.out.tab (fun b hb => Nat.le_trans D7.out.two (D7.out.ge b hb)) D7.out.disk HOK.out.2.1 HM.out HP3.out).mono ?_
      rintro e w9 hrd
      have D9 := Lib.hid (D7.out.reads hrd)
      obtain ⟨_, _, v, rfl, ivv, rfl, hown⟩ := hrd
      obtain ⟨Av, nv, cv, rfl⟩ : ∃ A n c, ivv = .slice A n c := by
        rcases hown.2 with ⟨rfl, _⟩ | ⟨g, cap, cur, rfl, _⟩ <;> exact ⟨_, _, _, rfl⟩
      clear hown h0 h1 h2 D7
      have b10 := below_box w9 (.cells #[.int .i64 0, .int .i64 0, .int .u64 0, .slice Av nv cv] 37)
      have D10 := Lib.hid (D9.out.below b10)
      have X10 := Lib.hid (And.intro (Aside.new D9.out.disk (.cells #[.int .i64 0, .int .i64 0, .int .u64 0, .slice Av nv cv] 37)) (Blk.new w9 37 #[.int .i64 0, .int .i64 0, .int .u64 0, .slice Av nv cv]))
      obtain ⟨h0, h1, h2⟩ := geo_below HH4.out D10.out.bel
      clear D9 b10
      go_wp2_with fail
      generalize hxb : w9.heap.size = xb at *
      clear hxb
      generalize w9.alloc (.cells #[.int .i64 0, .int .i64 0, .int .u64 0, .slice Av nv cv] 37) = w10 at *
      refine (refRight_any a' b' c' true _ _ (On.start D10.out.tab) HR'.out).mono ?_
      rintro e w11 ⟨rfl, hw11⟩
      have D11 := Lib.hid (D10.out.below hw11.bel)
      have X11 := Lib.hid (X10.out.1.blk (Keeps.of_below hw11.bel).no X10.out.2)
      clear hw11 D10 X10 h0 h1 h2
      go_wp2_with fail
      refine (Dsk.ops_any w11 p F7 s2 D11.out.disk).mono ?_
      rintro e w12 ⟨rfl, rfl⟩
      have HE := Lib.hid (HB.out.trans ((B4.out.trans (D11.out.bel.mono B4.out.size)).mono HB.out.size))
      go_wp2_with fail
      go_ret
      exact ⟨rfl, HE.out⟩
    · have HR' := Lib.hid hr'
      have HP3 := Lib.hid p3
      have HNE := Lib.hid hne
      clear hr' p3 hne
      refine (read_is D7.out.tab (fun b hb => Nat.le_trans D7.out.two (D7.out.ge b hb)) D7.out.disk HOK.out.2.1 HM.out HP3.out).mono ?_
      rintro e w9 hrd
      have D9 := Lib.hid (D7.out.reads hrd)
      obtain ⟨_, _, v, rfl, ivv, rfl, hown⟩ := hrd
      obtain ⟨Av, nv, cv, rfl⟩ : ∃ A n c, ivv = .slice A n c := by
        rcases hown.2 with ⟨rfl, _⟩ | ⟨g, cap, cur, rfl, _⟩ <;> exact ⟨_, _, _, rfl⟩
      clear hown h0 h1 h2 D7
      have b10 := below_box w9 (.cells #[.int .i64 1, .int .i64 0, .int .u64 0, .slice Av nv cv] 37)
      have D10 := Lib.hid (D9.out.below b10)
      have X10 := Lib.hid (And.intro (Aside.new D9.out.disk (.cells #[.int .i64 1, .int .i64 0, .int .u64 0, .slice Av nv cv] 37)) (Blk.new w9 37 #[.int .i64 1, .int .i64 0, .int .u64 0, .slice Av nv cv]))
      obtain ⟨h0, h1, h2⟩ := geo_below HH4.out D10.out.bel
      clear D9 b10
      go_wp2_with fail
      generalize hxb : w9.heap.size = xb at *
      clear hxb
      generalize w9.alloc (.cells #[.int .i64 1, .int .i64 0, .int .u64 0, .slice Av nv cv] 37) = w10 at *
      refine (refRight_any a' b' c' true _ _ (On.start D10.out.tab) HR'.out).mono ?_
      rintro e w11 ⟨rfl, hw11⟩
      have D11 := Lib.hid (D10.out.below hw11.bel)
      have X11 := Lib.hid (X10.out.1.blk (Keeps.of_below hw11.bel).no X10.out.2)
      clear hw11 D10 X10 h0 h1 h2
      have HE := Lib.hid (HB.out.trans ((B4.out.trans (D11.out.bel.mono B4.out.size)).mono HB.out.size))
      obtain ⟨h0, h1, h2⟩ := geo_below HH4.out D11.out.bel
      obtain ⟨g0, g1, g2⟩ := geo_below HG4.out D11.out.bel
      have u0 := X11.out.c4.1
      by_cases q1 : a = a'
      rotate_left
      · have q1' : (a == a') = false := by simpa using q1
        go_wp2_with fail
        go_quiet (fail)
        go_wp2_with fail
        go_ret
        exact ⟨rfl, below_drewn HE.out _⟩
      have q1' : (a == a') = true := by simpa using q1
      by_cases q2 : b = b'
      rotate_left
      · have q2' : (b == b') = false := by simpa using q2
        go_wp2_with fail
        go_quiet (fail)
        go_wp2_with fail
        go_ret
        exact ⟨rfl, below_drewn HE.out _⟩
      have q2' : (b == b') = true := by simpa using q2
      have q3 : c ≠ c' := fun e => HNE.out ⟨q1, q2, e⟩
      have q3' : (c == c') = false := by simpa using q3
      go_wp2_with fail
      go_quiet (fail)
      go_wp2_with fail
      go_ret
      exact ⟨rfl, below_drewn HE.out _⟩
    · have HR' := Lib.hid hr'
      have HP3 := Lib.hid p3
      subst e1 e2 e3
      clear hr' p3
      refine (read_is D7.out.tab (fun b hb => Nat.le_trans D7.out.two (D7.out.ge b hb)) D7.out.disk HOK.out.2.1 HM.out HP3.out).mono ?_
      rintro e w9 hrd
      have D9 := Lib.hid (D7.out.reads hrd)
      obtain ⟨_, _, v, rfl, ivv, rfl, hown⟩ := hrd
      obtain ⟨Av, nv, cv, rfl⟩ : ∃ A n c, ivv = .slice A n c := by
        rcases hown.2 with ⟨rfl, _⟩ | ⟨g, cap, cur, rfl, _⟩ <;> exact ⟨_, _, _, rfl⟩
      clear hown h0 h1 h2 D7
      have b10 := below_box w9 (.cells #[.int .i64 2, .int .i64 0, .int .u64 5, .slice Av nv cv] 37)
      have D10 := Lib.hid (D9.out.below b10)
      have X10 := Lib.hid (And.intro (Aside.new D9.out.disk (.cells #[.int .i64 2, .int .i64 0, .int .u64 5, .slice Av nv cv] 37)) (Blk.new w9 37 #[.int .i64 2, .int .i64 0, .int .u64 5, .slice Av nv cv]))
      obtain ⟨h0, h1, h2⟩ := geo_below HH4.out D10.out.bel
      clear D9 b10
      go_wp2_with fail
      generalize hxb : w9.heap.size = xb at *
      clear hxb
      generalize w9.alloc (.cells #[.int .i64 2, .int .i64 0, .int .u64 5, .slice Av nv cv] 37) = w10 at *
      refine (refRight_any a b c true _ _ (On.start D10.out.tab) HR'.out).mono ?_
      rintro e w11 ⟨rfl, hw11⟩
      have D11 := Lib.hid (D10.out.below hw11.bel)
      have X11 := Lib.hid (X10.out.1.blk (Keeps.of_below hw11.bel).no X10.out.2)
      clear hw11 D10 X10 h0 h1 h2
      have HE := Lib.hid (HB.out.trans ((B4.out.trans (D11.out.bel.mono B4.out.size)).mono HB.out.size))
      obtain ⟨h0, h1, h2⟩ := geo_below HH4.out D11.out.bel
      obtain ⟨g0, g1, g2⟩ := geo_below HG4.out D11.out.bel
      have u0 := X11.out.c4.1
      go_wp2_with fail
      go_quiet (fail)
      go_wp2_with fail
      go_ret
      exact ⟨rfl, below_drewn HE.out _⟩
theorem slotStranger_law (w : World) (a : Int) (_ha : (Lit.int .i64 a).wf = true) (b : Int) (_hb : (Lit.int .i64 b).wf = true) (c : Int) (_hc : (Lit.int .i64 c).wf = true) (a' : Int) (_ha' : (Lit.int .i64 a').wf = true) (b' : Int) (_hb' : (Lit.int .i64 b').wf = true) (c' : Int) (_hc' : (Lit.int .i64 c').wf = true)
    (sz : Int) (hs : (Lit.int .u8 sz).wf = true) (A : Option Addr) (n cap : Nat) (zs : List Int) (hr : IsRow .u8 w A n cap zs) (hT : Tab w) :
    Calls Tryd.prog 7 #[geoV a b c, geoV a' b' c', .int .u8 sz, .slice A n cap] w fun e w' => e = .returned (.bool true) ∧ Below w.heap.size w w' :=
  slotStranger_walk w a b c a' b' c' sz A n cap _ hT hr.bytes (by simp [Lit.wf, IntKind.min, IntKind.max, IntKind.signed, IntKind.bits] at hs; omega)
end Go.Proofs.YtpbhkkcboppdmaaDoor
