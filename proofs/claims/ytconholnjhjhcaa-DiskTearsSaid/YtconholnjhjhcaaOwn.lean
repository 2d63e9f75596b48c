/-
  THE WALK OF DiskOwn.
-/
import Derived.Test.YtconholnjhjhcaaMade
import Derived.Test.YtconholnjhjhcaaModel
namespace Go.Proofs.Ytconholnjhjhcaa
open Ks Go.RowKit

/-- where bytes lie -/
theorem byt_open {w : World} {F : Nat → Prop} {v : Value} {bs : List Int} (h : Byt w F v bs) (h0 : 0 < bs.length) :
    ∃ g o c cs, v = .slice (some ⟨g, o, none⟩) bs.length c ∧ bs.length ≤ c ∧ F g ∧ Blk w g 5 cs ∧ o + bs.length ≤ cs.size := by
  obtain ⟨A, c, rfl, hc, hx⟩ := h
  obtain ⟨g, o, rfl, ⟨hF, cs, hb⟩, hcell⟩ := hx h0
  refine ⟨g, o, c, cs, rfl, hc, hF, hb, ?_⟩
  have h1 := hcell (bs.length - 1) (by omega)
  have hb' : Blk w g 5 cs := hb
  rw [hb'.cell] at h1
  have := (Array.getElem?_eq_some_iff.1 h1).1
  omega

/-- block g alone has changed; it has n cells -/
def Scribbled (w : World) (g n : Nat) (wr : World) : Prop := Keeps (fun b => b = g) w wr ∧ ∃ cs, Blk wr g 5 cs ∧ n ≤ cs.size
theorem Scribbled.set_ {w wr : World} {g n : Nat} (h : Scribbled w g n wr) (i : Nat) (u : Value) : Scribbled w g n (wr.setCell ⟨g, i, none⟩ u) := by
  obtain ⟨hk, cs, hb, hn⟩ := h
  exact ⟨hk.set_ (.inl rfl) u, _, hb.set_ i u, by simpa using hn⟩
theorem Scribbled.drew {w wr : World} {g n : Nat} (h : Scribbled w g n wr) : Scribbled w g n wr.drew := by
  obtain ⟨hk, cs, hb, hn⟩ := h
  exact ⟨hk.drew, cs, hb, hn⟩
theorem Scribbled.cell {w wr : World} {g n : Nat} (h : Scribbled w g n wr) (i : Nat) (hi : i < n) : ∃ u, wr.cell? ⟨g, i, none⟩ = some u := by
  obtain ⟨hk, cs, hb, hn⟩ := h
  exact ⟨cs[i], by rw [hb.cell, Array.getElem?_eq_getElem (show i < cs.size by omega)]⟩
theorem Scribbled.frozen {w wr : World} {g n : Nat} (h : Scribbled w g n wr) (i : Nat) : wr.frozen? ⟨g, i, none⟩ = false := by
  obtain ⟨hk, cs, hb, hn⟩ := h
  exact hb.frozen i

theorem bys_four (w : World) (x y z u : Int) : Bys (w.alloc (.cells #[.int .u8 x, .int .u8 y, .int .u8 z, .int .u8 u] 63)) (fun b => b = w.heap.size) (.slice (some ⟨w.heap.size, 0, none⟩) 4 4) [x, y, z, u] := by
  refine ⟨_, _, rfl, Nat.le_refl _, fun _ => ⟨w.heap.size, 0, rfl, rfl, fun k hk => ?_⟩⟩
  rw [Nat.zero_add, cell_of_row _ _ _ _ _ _ (heap_alloc_new w _)]
  match k, hk with
  | 0, _ | 1, _ | 2, _ | 3, _ => rfl

theorem write_or {s : St} {k : Int} {bb : List Int} (h0 : 0 ≤ k) (h1 : k < s.last.length) (h2 : bb.length = s.size) :
    s.write k bb = (s.tick, 3) ∨ s.write k bb = (s.put k bb, 0) := by
  unfold Ks.St.write
  cases s.fails
  · right
    simp [show ¬ k < 0 by omega, show ¬ (s.last.length : Int) ≤ k by omega, h2]
  · left
    rfl
theorem read_or {s : St} {k : Int} {bb : List Int} (h0 : 0 ≤ k) (h1 : k < s.last.length) (h2 : s.cach k = some bb) : St.read s k = ([], 3) ∨ St.read s k = (bb, 0) := by
  unfold St.read
  cases s.fails
  · right
    simp [show ¬ (k < 0 ∨ (s.last.length : Int) ≤ k) by omega, h2]
  · left
    rfl

theorem put_facts (s : St) (k : Int) (bb : List Int) : (s.put k bb).last = s.last ∧ (s.put k bb).size = s.size ∧ (s.put k bb).cach k = some bb ∧ (s.put k bb).ops = s.ops + 1 := by
  refine ⟨rfl, rfl, ?_, rfl⟩
  simp [Ks.St.put]

set_option maxRecDepth 100000 in
set_option maxHeartbeats 8000000 in
theorem diskOwn_walk (w : World) (v : Value) (l : List OpD) (h : OpsAt w (Lower w.heap.size) v l) (hl : l.length ≤ maxLen) (hok : ∀ o ∈ l, o.ok) (b0 b1 b2 b3 i x : Int) (hi0 : 0 ≤ i) (hi1 : i ≤ 255) :
    Calls Try.prog 9 #[v, .agg #[.int .u8 b0, .int .u8 b1, .int .u8 b2, .int .u8 b3], .int .u8 i, .int .u8 x] w (Holds w) := by
  have HLM := Lib.hid hl
  have HOK := Lib.hid hok
  obtain ⟨A, c, rfl⟩ := h.form
  obtain ⟨w0, hw0⟩ : ∃ w0, w.alloc (.cells #[.int .u8 b0, .int .u8 b1, .int .u8 b2, .int .u8 b3] 63) = w0 := ⟨_, rfl⟩
  have hkw : Keeps No w w0 := by rw [← hw0]; exact (Keeps.refl No w).alloc _
  have HKW := Lib.hid hkw
  have HB := Lib.hid (show Bys w0 (fun b => b = w.heap.size) (.slice (some ⟨w.heap.size, 0, none⟩) 4 4) [b0, b1, b2, b3] by rw [← hw0]; exact bys_four w b0 b1 b2 b3)
  have HN := Lib.hid (show w.heap.size < w0.heap.size by rw [← hw0]; simp)
  have H := Lib.hid (h.keeps hkw (fun _ _ _ h => h))
  clear h hok hl hkw
  go_enter Try.func9, Try.ntmps9
  go_wp2_with fail
  clear hw0
  refine (awake_any w0).mono ?_
  rintro e w1 ⟨rfl, hk1⟩
  have HK1 := Lib.hid (HKW.out.trans hk1)
  have H1 := Lib.hid (H.out.keeps hk1 (fun _ _ _ h => h))
  have HB1 := Lib.hid (HB.out.keeps hk1 (fun _ _ _ h => h))
  have HN1 := Lib.hid (Nat.lt_of_lt_of_le HN.out hk1.size)
  clear hk1 HB H HKW HN
  go_wp2_with fail
  refine (few_any w1 _ _ l H1.out HLM.out HOK.out).mono ?_
  rintro e w' ⟨rfl, rfl⟩
  cases hfew : few l
  · clear hfew
    go_wp2_with fail
    go_ret
    exact ⟨rfl, HK1.out.all⟩
  have HFEW := Lib.hid hfew
  clear hfew
  go_wp2_with fail
  refine (made_any w1 w.heap.size _ l H1.out HK1.out.size HFEW.out HOK.out).mono ?_
  rintro e w2 ⟨pd, rfl, Fd, hd2, hF2, hk2⟩
  have HD2 := Lib.hid hd2
  have HF2 := Lib.hid hF2
  have HB2 := Lib.hid (HB1.out.keeps hk2 (fun _ _ _ h => h))
  have HK2 := Lib.hid (HK1.out.trans hk2)
  have HN2 := Lib.hid hk2.size
  have HFIT := Lib.hid (made_fits HFEW.out HOK.out)
  have HSZ := Lib.hid (made_size l)
  obtain ⟨sd, hsd⟩ : ∃ s, acts eight l = s := ⟨_, rfl⟩
  rw [hsd] at HD2 HFIT HSZ
  clear hd2 hF2 hk2 hsd HB1 H1
  have hown : (w2.alloc (.cells #[] 5)).ownsRow w2.heap.size 5 1 (.slice (some ⟨w2.heap.size, 0, none⟩) 0 0) 0 (([] : List Int).map (Value.int .u8)) :=
    ⟨by simp, .inr ⟨w2.heap.size, 0, #[], rfl, Nat.le_refl _, heap_alloc_new w2 _, Nat.le_refl _, Nat.zero_le _, rfl, rfl⟩⟩
  have hkn : Keeps No w2 (w2.alloc (.cells #[] 5)) := (Keeps.refl No w2).alloc _
  obtain ⟨v3, w3, hr, h2, h3, h4⟩ := append_bys _ w2.heap.size 31 _ 0 [] hown _ _ [b0, b1, b2, b3] (HB2.out.keeps hkn (fun _ _ _ h => h)) (by simp) (by simp)
  have hk3 : Keeps No w2 w3 := hkn.grown h3 (fun b hb => by simp [Value.ownBlock] at hb; right; omega)
  have h2' : Byt w3 (From w2.heap.size) v3 [b0, b1, b2, b3] := (Byt.of_own (w := w3) (v := v3) (bs := [b0, b1, b2, b3]) (base := w2.heap.size) (n := 4) (by simpa using h2)).mono fun b hb => hb.1
  obtain ⟨g, o, cg, csg, rfl, hcg, hFg, hBg, hog⟩ := byt_open h2' (by simp)
  have HV3 := Lib.hid (show Byt w3 (From w2.heap.size) (.slice (some ⟨g, o, none⟩) 4 cg) [b0, b1, b2, b3] from h2')
  have HFG := Lib.hid hFg
  have HBG := Lib.hid hBg
  have HOG := Lib.hid (show o + 4 ≤ csg.size from hog)
  have HB3 := Lib.hid (HB2.out.keeps hk3 (fun _ _ _ h => h))
  have HK3 := Lib.hid (HK2.out.trans hk3)
  have HD3 := Lib.hid (HD2.out.keeps hk3 (fun _ _ h => h))
  have HN3 := Lib.hid hk3.size
  have HR := Lib.hid hr
  obtain ⟨bb, hbb⟩ : ∃ bb, [b0, b1, b2, b3] = bb := ⟨_, rfl⟩
  have HLB := Lib.hid (show bb.length = 4 by rw [← hbb]; rfl)
  rw [hbb] at HV3 HB3
  clear hown hkn hr h2 h3 h4 hk3 h2' hFg hBg hog HB2 hbb hcg
  go_wp2_with (at_builtin; refine Lib.wpList_append_run _ rfl _ _ _ _ rfl _ _ rfl rfl _ _ HR.out ?_)
  obtain ⟨k, hk⟩ : ∃ k, i % 8 = k := ⟨_, rfl⟩
  have hk0 : 0 ≤ k := by omega
  have hk8 : k < 8 := by omega
  rw [hk]
  clear hk hi0 hi1
  refine (write_any w3 pd Fd (From w2.heap.size) sd k _ bb HD3.out HV3.out.bys (fun b hb _ hF => by
    have := HD2.out.there b hF
    unfold From at hb
    omega) (by have := HFIT.out.1; omega) (by have := HFIT.out.2.1; omega) (by have := HFIT.out.2.2.1; omega) HFIT.out.2.2.2.2.1 HFIT.out.2.2.2.2.2).mono ?_
  rintro e w4 ⟨rfl, hd4, hk4⟩
  have HWO := Lib.hid (write_or (s := sd) (k := k) (bb := bb) hk0 (by rw [HSZ.out.2]; exact hk8) (by rw [HSZ.out.1, HLB.out]))
  obtain ⟨⟨s1, e1⟩, hse⟩ : ∃ r, sd.write k bb = r := ⟨_, rfl⟩
  rw [hse] at HWO hd4 ⊢
  simp only at hd4
  obtain ⟨F4, hF4⟩ : ∃ F, Grow Fd w3 w4 = F := ⟨_, rfl⟩
  have hgl : g < w3.heap.size := HBG.out.lt
  have hg2 : w2.heap.size ≤ g := HFG.out
  have hgF : ¬ Fd g := fun hF => by have := HD2.out.there g hF; omega
  have HGF := Lib.hid (show ¬ F4 g by
    rw [← hF4]
    rintro (hF | hF)
    · exact hgF hF
    · omega)
  rw [hF4] at hd4
  have s1' := HN1.out
  have s2' := HN2.out
  have s3' := HN3.out
  have HF4 := Lib.hid (show ∀ b, F4 b → w.heap.size < b by
    intro b hb
    rw [← hF4] at hb
    rcases hb with hb | hb
    · have := HF2.out b hb
      omega
    · omega)
  have HD4 := Lib.hid hd4
  have HK4 := Lib.hid (HK3.out.then hk4 (fun b hb => .inr (by have := HF2.out b hb; omega)))
  have HB4 := Lib.hid (HB3.out.keeps hk4 (fun b hb _ hF => by have := HF2.out b hF; omega))
  have HBG4 := Lib.hid (show Blk w4 g 5 csg from HBG.out.of_eq (hk4.block g hgl hgF))
  have HG0 := Lib.hid (show w.heap.size < g by omega)
  have HSC := Lib.hid (show Scribbled w4 g (o + 4) w4 from ⟨Keeps.refl _ _, csg, HBG4.out, HOG.out⟩)
  clear hd4 hk4 hse hF4 HBG HFG HV3 HOG HD3 HB3 HR hgl hg2 hgF HBG4 HK3 HN3 s1' s2' s3'
  go_wp2_with fail
  go_loopw [15] (fun i wr => ∃ n : Nat, n ≤ 4 ∧ i = .int .i64 n ∧ Scribbled w4 g (o + 4) wr) (fun i _ => 4 - (intOf i).toNat)
  case atStart => exact ⟨0, Nat.zero_le _, rfl, HSC.out⟩
  case round =>
    obtain ⟨n, hn, rfl, hsc⟩ := hrel
    by_cases hlt : n < 4
    · obtain ⟨u, hu⟩ := hsc.cell (o + n) (by omega)
      have hf := hsc.frozen (o + n)
      have R := Lib.hid hsc
      have hn0 : (0 : Int) ≤ (n : Int) := by omega
      have hn1 : (n : Int) < 4 := by omega
      clear hsc
      go_wp2_with fail
      go_roundw
      case rel => exact ⟨n + 1, by omega, by go_num, R.out.set_ _ _⟩
      case measure => simp [intOf]; omega
    · obtain rfl : n = 4 := by omega
      have HD5 := Lib.hid (HD4.out.keeps hsc.1 (fun b hb e => HGF.out (by rw [← e]; exact hb)))
      have HK5 := Lib.hid (HK4.out.then hsc.1 (fun b hb => .inr (by have := HG0.out; omega)))
      have HB5 := Lib.hid (HB4.out.keeps hsc.1 (fun b hb _ e => by have := HG0.out; omega))
      have HF5 := Lib.hid (show ∀ b, F4 b → b < wr.heap.size from HD5.out.there)
      have HNW := Lib.hid (show w.heap.size < wr.heap.size by
        obtain ⟨cs, hb, _⟩ := hsc.2
        exact Nat.lt_trans HG0.out hb.lt)
      clear hsc HD4 HK4 HB4 HSC hn hlt
      obtain ⟨w5, hw5⟩ : ∃ x, wr = x := ⟨_, rfl⟩
      rw [hw5] at HD5 HK5 HB5 HF5 HNW ⊢
      clear hw5
      have HS1 := Lib.hid (show s1.ops < 1000 ∧ s1.last.length = 8 ∧ s1.size = 4 by
        have f1 := HFIT.out.1
        have f2 := HSZ.out.1
        have f3 := HSZ.out.2
        rcases HWO.out with e | e
        · injection e with e1 e2
          subst e1
          exact ⟨show sd.ops + 1 < 1000 by omega, f3, f2⟩
        · injection e with e1 e2
          subst e1
          exact ⟨show sd.ops + 1 < 1000 by omega, f3, f2⟩)
      go_wp2_with fail
      refine (read_any w5 pd F4 s1 k HD5.out (by have := HS1.out.1; omega) (by rw [HS1.out.2.1]; omega) (by rw [HS1.out.2.2]; omega)).mono ?_
      rintro e w6 ⟨v6, rfl, hv6, hd6, hk6⟩
      have HD6 := Lib.hid hd6
      have HK6 := Lib.hid (HK5.out.then hk6 (fun b hb => .inr (by have := HF4.out b hb; omega)))
      have HB6 := Lib.hid (HB5.out.keeps hk6 (fun b hb _ hF => by have := HF4.out b hF; omega))
      have HN6 := Lib.hid hk6.size
      clear hd6 hk6 HD5 HK5 HB5
      rcases HWO.out with e | e
      · injection e with e1 e2
        subst e2
        clear e1 HWO
        obtain ⟨⟨rb, re⟩, hre⟩ : ∃ r, St.read s1 k = r := ⟨_, rfl⟩
        rw [hre] at hv6 ⊢
        obtain ⟨A6, c6, rfl⟩ := Bys.form hv6
        clear hv6 hre
        go_wp2_with fail
        go_ret
        exact ⟨rfl, HK6.out.all⟩
      · have HCA := Lib.hid (show s1.cach k = some bb by
          injection e with e1 e2
          subst e1
          exact (put_facts sd k bb).2.2.1)
        injection e with e1 e2
        subst e2
        clear e1 HWO
        rcases read_or hk0 (by rw [HS1.out.2.1]; exact hk8) HCA.out with hr | hr
        · rw [hr] at hv6 ⊢
          obtain ⟨A6, c6, rfl⟩ := Bys.form hv6
          clear hv6 hr
          go_wp2_with fail
          go_ret
          exact ⟨rfl, HK6.out.all⟩
        · rw [hr] at hv6 ⊢
          clear hr
          simp only at hv6 ⊢
          obtain ⟨g6, o6, c6, cs6, rfl, hc6, hFg6, hBg6, hog6⟩ := byt_open hv6 (by rw [HLB.out]; omega)
          rw [HLB.out] at hv6 hog6 ⊢
          have HV6 := Lib.hid hv6
          have HBG6 := Lib.hid hBg6
          have HFG6 := Lib.hid (show w5.heap.size ≤ g6 from hFg6)
          have HOG6 := Lib.hid hog6
          clear hv6 hBg6 hFg6 hog6 hc6
          go_wp2_with fail
          refine (same_any w6 _ _ _ _ bb bb HV6.out.bys HB6.out (by rw [HLB.out]; omega) (by rw [HLB.out]; omega)).mono ?_
          rintro e w7 ⟨rfl, n7, rfl⟩
          have htr : decide (bb = bb) = true := by simp
          rw [htr]
          clear htr
          obtain ⟨w7, hw7⟩ : ∃ x, w6.drewN n7 = x := ⟨_, rfl⟩
          have hk7 : Keeps No w6 w7 := by rw [← hw7]; exact (Keeps.refl No w6).drewN n7
          rw [hw7]
          clear hw7
          have HK7 := Lib.hid (HK6.out.trans hk7)
          have HD7 := Lib.hid (HD6.out.keeps hk7 (fun _ _ h => h))
          have HB7 := Lib.hid (HB6.out.keeps hk7 (fun _ _ _ h => h))
          have HN7 := Lib.hid (Nat.le_trans HN6.out hk7.size)
          have HSC7 := Lib.hid (show Scribbled w7 g6 (o6 + 4) w7 from ⟨Keeps.refl _ _, cs6, HBG6.out.of_eq (hk7.block g6 HBG6.out.lt (fun h => h)), HOG6.out⟩)
          clear hk7 HK6 HD6 HB6 HN6 HV6 HBG6 HOG6
          go_wp2_with fail
          go_loopw [18] (fun i wr => ∃ n : Nat, n ≤ 4 ∧ i = .int .i64 n ∧ Scribbled w7 g6 (o6 + 4) wr) (fun i _ => 4 - (intOf i).toNat)
          case atStart => exact ⟨0, Nat.zero_le _, rfl, HSC7.out⟩
          case round =>
            obtain ⟨n, hn, rfl, hsc⟩ := hrel
            by_cases hlt : n < 4
            · obtain ⟨u, hu⟩ := hsc.cell (o6 + n) (by omega)
              have hf := hsc.frozen (o6 + n)
              have R := Lib.hid hsc
              have hn0 : (0 : Int) ≤ (n : Int) := by omega
              have hn1 : (n : Int) < 4 := by omega
              clear hsc
              go_wp2_with fail
              go_roundw
              case rel => exact ⟨n + 1, by omega, by go_num, R.out.set_ _ _⟩
              case measure => simp [intOf]; omega
            · obtain rfl : n = 4 := by omega
              obtain ⟨w8, hw8⟩ : ∃ x, wr = x := ⟨_, rfl⟩
              rw [hw8] at hsc ⊢
              have HD8 := Lib.hid (HD7.out.keeps hsc.1 (fun b hb e => by have := HF5.out b hb; have := HFG6.out; omega))
              have HK8 := Lib.hid (HK7.out.then hsc.1 (fun b hb => .inr (by have := HFG6.out; have := HNW.out; omega)))
              have HB8 := Lib.hid (HB7.out.keeps hsc.1 (fun b hb _ e => by have := HFG6.out; have := HNW.out; omega))
              have HN8 := Lib.hid (Nat.le_trans HN7.out hsc.1.size)
              clear hsc HD7 HK7 HB7 HSC7 HN7 hn hlt hw8
              obtain ⟨s2, hs2⟩ : ∃ s, s1.tick = s := ⟨_, rfl⟩
              have HS2 := Lib.hid (show s2.ops < 2000 ∧ s2.last.length = 8 ∧ s2.size = 4 ∧ s2.cach k = some bb by
                rw [← hs2]
                have f1 := HS1.out.1
                exact ⟨show s1.ops + 1 < 2000 by omega, HS1.out.2.1, HS1.out.2.2, HCA.out⟩)
              rw [hs2] at HD8
              clear hs2
              have hn2 : s2.last.length ≤ 4096 := by rw [HS2.out.2.1]; omega
              have hz2 : s2.size ≤ 4096 := by rw [HS2.out.2.2.1]; omega
              obtain ⟨fl, hfl⟩ : ∃ f, s2.last.flatten = f := ⟨_, rfl⟩
              have HFL := Lib.hid hfl
              have hfl32 : fl.length = 32 := by
                rw [← hfl]
                obtain ⟨_, _, _, _, _, h⟩ := HD8.out
                have := flat_le h.lens s2.last.length (Nat.le_refl _)
                rw [List.take_length, HS2.out.2.1, HS2.out.2.2.1] at this
                exact this
              have HL32 := Lib.hid hfl32
              clear hfl hfl32
              go_wp2_with fail
              refine (bytes_any w8 pd F4 s2 HD8.out hn2 hz2).mono ?_
              rintro e w9 ⟨v9, rfl, hv9, hk9⟩
              rw [HFL.out] at hv9
              obtain ⟨g9, o9, c9, cs9, rfl, hc9, hFg9, hBg9, hog9⟩ := byt_open hv9 (by rw [HL32.out]; omega)
              rw [HL32.out] at hog9 ⊢
              have HBG9 := Lib.hid hBg9
              have HFG9 := Lib.hid (show w8.heap.size ≤ g9 from hFg9)
              have HOG9 := Lib.hid hog9
              have HK9 := Lib.hid (HK8.out.trans hk9)
              have HD9 := Lib.hid (HD8.out.keeps hk9 (fun _ _ h => h))
              have HB9 := Lib.hid (HB8.out.keeps hk9 (fun _ _ _ h => h))
              clear hv9 hk9 hBg9 hFg9 hog9 hc9 HK8 HD8 HB8
              go_wp2_with fail
              refine (bytes_any w9 pd F4 s2 HD9.out hn2 hz2).mono ?_
              rintro e w10 ⟨v10, rfl, hv10, hk10⟩
              rw [HFL.out] at hv10
              have HV10 := Lib.hid hv10
              obtain ⟨A10, c10, rfl⟩ := Bys.form hv10
              have HL9 := Lib.hid HBG9.out.lt
              have HK10 := Lib.hid (HK9.out.trans hk10)
              have HD10 := Lib.hid (HD9.out.keeps hk10 (fun _ _ h => h))
              have HB10 := Lib.hid (HB9.out.keeps hk10 (fun _ _ _ h => h))
              have HSC10 := Lib.hid (show Scribbled w10 g9 (o9 + 32) w10 from ⟨Keeps.refl _ _, cs9, HBG9.out.of_eq (hk10.block g9 HBG9.out.lt (fun h => h)), HOG9.out⟩)
              have HF9 := Lib.hid (show ∀ b, F4 b → b < w9.heap.size from HD9.out.there)
              clear hv10 hk10 HK9 HD9 HB9 HBG9 HOG9
              go_wp2_with fail
              go_loopw [21] (fun i wr => ∃ n : Nat, n ≤ 32 ∧ i = .int .i64 n ∧ Scribbled w10 g9 (o9 + 32) wr) (fun i _ => 32 - (intOf i).toNat)
              case atStart => exact ⟨0, Nat.zero_le _, rfl, HSC10.out⟩
              case round =>
                obtain ⟨n, hn, rfl, hsc⟩ := hrel
                by_cases hlt : n < 32
                · obtain ⟨u, hu⟩ := hsc.cell (o9 + n) (by omega)
                  have hf := hsc.frozen (o9 + n)
                  have R := Lib.hid hsc
                  have hn0 : (0 : Int) ≤ (n : Int) := by omega
                  have hn1 : (n : Int) < 32 := by omega
                  clear hsc
                  go_wp2_with fail
                  go_roundw
                  case rel => exact ⟨n + 1, by omega, by go_num, R.out.set_ _ _⟩
                  case measure => simp [intOf]; omega
                · obtain rfl : n = 32 := by omega
                  obtain ⟨w11, hw11⟩ : ∃ x, wr = x := ⟨_, rfl⟩
                  rw [hw11] at hsc ⊢
                  have HD11 := Lib.hid (HD10.out.keeps hsc.1 (fun b hb e => by have := HF5.out b hb; have := HFG9.out; have := HN8.out; omega))
                  have HK11 := Lib.hid (HK10.out.then hsc.1 (fun b hb => .inr (by have := HFG9.out; have := HN8.out; have := HNW.out; omega)))
                  have HB11 := Lib.hid (HB10.out.keeps hsc.1 (fun b hb _ e => by have := HFG9.out; have := HN8.out; have := HNW.out; omega))
                  have HV11 := Lib.hid (HV10.out.keeps hsc.1 (fun b hb e => by have h1 : w9.heap.size ≤ b := hb.1; have := HL9.out; omega))
                  clear hsc HD10 HK10 HB10 HSC10 HV10 hn hlt hw11
                  go_wp2_with fail
                  refine (read_any w11 pd F4 s2 k HD11.out (by have := HS2.out.1; omega) hn2 hz2).mono ?_
                  rintro e w12 ⟨v12, rfl, hv12, hd12, hk12⟩
                  have HD12 := Lib.hid hd12
                  have HK12 := Lib.hid (HK11.out.then hk12 (fun b hb => .inr (by have := HF4.out b hb; omega)))
                  have HB12 := Lib.hid (HB11.out.keeps hk12 (fun b hb _ hF => by have := HF4.out b hF; omega))
                  have HV12 := Lib.hid (HV11.out.keeps hk12 (fun b hb hF => by have h1 : w9.heap.size ≤ b := hb.1; have := HF9.out b hF; omega))
                  have hn3 : s2.tick.last.length ≤ 4096 := hn2
                  have hz3 : s2.tick.size ≤ 4096 := hz2
                  have HFL3 := Lib.hid (show s2.tick.last.flatten = fl from HFL.out)
                  obtain ⟨s3, hs3⟩ : ∃ s, s2.tick = s := ⟨_, rfl⟩
                  rw [hs3] at HD12 hn3 hz3 HFL3
                  clear hs3 hd12 hk12 HD11 HK11 HB11 HV11
                  rcases read_or hk0 (by rw [HS2.out.2.1]; exact hk8) HS2.out.2.2.2 with hr | hr
                  · rw [hr] at hv12 ⊢
                    obtain ⟨A12, c12, rfl⟩ := Bys.form hv12
                    clear hv12 hr
                    go_wp2_with fail
                    refine (bytes_any _ pd F4 s3 HD12.out hn3 hz3).mono ?_
                    rintro e w13 ⟨v13, rfl, hv13, hk13⟩
                    rw [HFL3.out] at hv13
                    have HV13 := Lib.hid hv13
                    obtain ⟨A13, c13, rfl⟩ := Bys.form hv13
                    have HVW := Lib.hid (HV12.out.keeps hk13 (fun _ _ h => h))
                    have HK13 := Lib.hid (HK12.out.trans hk13)
                    clear hv13 hk13
                    go_wp2_with fail
                    refine (same_any w13 _ _ _ _ fl fl HV13.out.bys HVW.out.bys (by rw [HL32.out]; omega) (by rw [HL32.out]; omega)).mono ?_
                    rintro e w14 ⟨rfl, n14, rfl⟩
                    have htr2 : decide (fl = fl) = true := by simp
                    rw [htr2]
                    have HK14 := Lib.hid (HK13.out.drewN n14)
                    go_wp2_with fail
                    go_ret
                    exact ⟨rfl, HK14.out.all⟩
                  · rw [hr] at hv12 ⊢
                    clear hr
                    simp only at hv12 ⊢
                    obtain ⟨A12, c12, rfl⟩ := Bys.form hv12
                    have HVA := Lib.hid hv12
                    clear hv12
                    rw [HLB.out] at HVA ⊢
                    go_wp2_with fail
                    refine (same_any w12 _ _ _ _ bb bb HVA.out.bys HB12.out (by rw [HLB.out]; omega) (by rw [HLB.out]; omega)).mono ?_
                    rintro e w12' ⟨rfl, n12, rfl⟩
                    have htr : decide (bb = bb) = true := by simp
                    rw [htr]
                    clear htr
                    have HDY := Lib.hid (HD12.out.keeps ((Keeps.refl No w12).drewN n12) (fun _ _ h => h))
                    have HVY := Lib.hid (HV12.out.keeps ((Keeps.refl No w12).drewN n12) (fun _ _ h => h))
                    have HKY := Lib.hid (HK12.out.drewN n12)
                    clear HD12 HV12 HK12 HVA
                    go_wp2_with fail
                    refine (bytes_any _ pd F4 s3 HDY.out hn3 hz3).mono ?_
                    rintro e w13 ⟨v13, rfl, hv13, hk13⟩
                    rw [HFL3.out] at hv13
                    have HV13 := Lib.hid hv13
                    obtain ⟨A13, c13, rfl⟩ := Bys.form hv13
                    have HVW := Lib.hid (HVY.out.keeps hk13 (fun _ _ h => h))
                    have HK13 := Lib.hid (HKY.out.trans hk13)
                    clear hv13 hk13
                    go_wp2_with fail
                    refine (same_any w13 _ _ _ _ fl fl HV13.out.bys HVW.out.bys (by rw [HL32.out]; omega) (by rw [HL32.out]; omega)).mono ?_
                    rintro e w14 ⟨rfl, n14, rfl⟩
                    have htr2 : decide (fl = fl) = true := by simp
                    rw [htr2]
                    have HK14 := Lib.hid (HK13.out.drewN n14)
                    go_wp2_with fail
                    go_ret
                    exact ⟨rfl, HK14.out.all⟩
end Go.Proofs.Ytconholnjhjhcaa
