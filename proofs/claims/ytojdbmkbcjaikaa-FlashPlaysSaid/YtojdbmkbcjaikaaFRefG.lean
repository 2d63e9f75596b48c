/-
  THE DOCUMENT'S SEQUENCES: THE WALKS OF is, key, goes.
-/
import Derived.Test.YtojdbmkbcjaikaaFOpenL
import Derived.IntWalk
namespace Go.Proofs.Ytojdbmkbcjaikaa
open Go.RowKit
set_option maxRecDepth 20000

def isW (x : Wr) (low v : Int) : Bool := x.a % 256 == low && x.v == v
def w0 : Wr := ⟨0, 0, by decide, by decide⟩
def keyL (l : List Wr) (i : Nat) : Bool :=
  if i < l.length then
    if isW (l.getD i w0) 85 170 then (if i + 1 < l.length then isW (l.getD (i + 1) w0) 170 85 else true) else false
  else true
def goesL (l : List Wr) : Bool :=
  if keyL l 0 then
    if l.length < 3 then true
    else if isW (l.getD 2 w0) 85 160 then decide (l.length ≤ 4)
    else if isW (l.getD 2 w0) 85 144 then decide (l.length = 3)
    else if isW (l.getD 2 w0) 85 128 then
      if keyL l 3 then
        if l.length < 6 then true else ((l.getD 5 w0).v == 48 || isW (l.getD 5 w0) 85 16)
      else false
    else false
  else false
theorem is_any (w : World) (x : Wr) (low v : Int) (r : Bool) (h0 : 0 ≤ x.a) (hr : isW x low v = r) :
    Calls Try.prog 39 #[.agg #[.int .i64 x.a, .int .u8 x.v], .int .i64 low, .int .u8 v] w fun e w' => e = .returned (.bool r) ∧ Below w.heap.size w w' := by
  have hx := x.ha
  obtain ⟨a, b, _, _⟩ := x
  simp only at h0 hx
  have HB := Lib.hid (below_box w (.cells #[.int .i64 a, .int .u8 b] 63))
  by_cases e1 : a % 256 = low
  · have e1' : (a % 256 == low) = true := by simp [e1]
    have HR := Lib.hid (show (b == v) = r by rw [← hr]; unfold isW; simp only [e1', Bool.true_and])
    clear hr e1
    go_enter Try.func39, Try.ntmps39
    go_wp2_with fail
    go_ret
    rw [HR.out]
    exact ⟨rfl, HB.out⟩
  · have e1' : (a % 256 == low) = false := by simp [e1]
    obtain rfl : r = false := by rw [← hr]; unfold isW; simp only [e1', Bool.false_and]
    clear hr e1
    go_enter Try.func39, Try.ntmps39
    go_wp2_with fail
    go_ret
    exact ⟨rfl, HB.out⟩
/-- a write's two cells -/
theorem wr_cells {w w' : World} {B n : Nat} {A : Option Addr} {l : List Wr} (h : Many wrE w B A n l) (hb : Below B w w') (i : Nat) (hi : i < n) :
    ∃ b o, A = some ⟨b, o, none⟩ ∧ w'.cell? ⟨b, o + i * 2, none⟩ = some (.int .i64 (l.getD i w0).a) ∧ w'.cell? ⟨b, o + i * 2 + 1, none⟩ = some (.int .u8 (l.getD i w0).v) := by
  have hl : i < l.length := by rw [h.1]; exact hi
  obtain ⟨b, o, e, hc⟩ := h.cell hb i (l.getD i w0) (by simp [List.getD, hl])
  exact ⟨b, o, e, hc 0 _ rfl, hc 1 _ rfl⟩
def Pos (l : List Wr) : Prop := ∀ x ∈ l, 0 ≤ x.a
theorem Pos.at_ {l : List Wr} (h : Pos l) (i : Nat) : 0 ≤ (l.getD i w0).a := by
  by_cases hi : i < l.length
  · rw [show l.getD i w0 = l[i] by simp [List.getD, hi]]
    exact h _ (List.getElem_mem hi)
  · rw [show l.getD i w0 = w0 by simp [List.getD, Nat.le_of_not_lt hi]]
    decide
set_option maxHeartbeats 4000000 in
theorem refKey_any (w : World) (A : Option Addr) (n c B i : Nat) (l : List Wr) (r : Bool) (h : Many wrE w B A n l) (hp : Pos l) (hB : B ≤ w.heap.size) (hi : i ≤ 100) (hr : keyL l i = r) :
    Calls Try.prog 52 #[.slice A n c, .int .i64 i] w fun e w' => e = .returned (.bool r) ∧ Below w.heap.size w w' := by
  unfold keyL at hr
  rw [h.1] at hr
  have hi0 : (0 : Int) ≤ (i : Int) := by omega
  by_cases h1 : i < n
  · rw [if_pos h1] at hr
    have h1' : (i : Int) < (n : Int) := by omega
    obtain ⟨b, o, rfl, k0, k1⟩ := wr_cells h (Below.refl B w) i h1
    have HX := Lib.hid (hp.at_ i)
    obtain ⟨x, hx⟩ : ∃ x, l.getD i w0 = x := ⟨_, rfl⟩
    rw [hx] at hr k0 k1 HX
    obtain ⟨r1, hr1⟩ : ∃ r1, isW x 85 170 = r1 := ⟨_, rfl⟩
    have HR1 := Lib.hid hr1
    rw [hr1] at hr
    clear hx hr1
    cases r1
    · obtain rfl : r = false := hr.symm.trans (if_neg (by decide))
      clear hr h hp
      go_enter Try.func52, Try.ntmps52
      go_wp2_with fail
      refine (is_any w x 85 170 false HX.out HR1.out).mono ?_
      rintro e w1 ⟨rfl, hb⟩
      have HB := Lib.hid hb
      clear hb
      go_wp2_with fail
      go_ret
      exact ⟨rfl, HB.out⟩
    · rw [if_pos rfl] at hr
      by_cases h2 : i + 1 < n
      · rw [if_pos h2] at hr
        have h2' : (i : Int) + 1 < (n : Int) := by omega
        have HR2 := Lib.hid hr
        have HX2 := Lib.hid (hp.at_ (i + 1))
        have HC2 := Lib.hid (fun W (hb : Below w.heap.size w W) => wr_cells h (hb.mono hB) (i + 1) h2)
        obtain ⟨y, hy⟩ : ∃ y, l.getD (i + 1) w0 = y := ⟨_, rfl⟩
        rw [hy] at HR2 HX2 HC2
        clear hr h hp hy
        go_enter Try.func52, Try.ntmps52
        go_wp2_with fail
        refine (is_any w x 85 170 true HX.out HR1.out).mono ?_
        rintro e w1 ⟨rfl, hb⟩
        have HB := Lib.hid hb
        obtain ⟨b', o', e', d0, d1⟩ := HC2.out w1 hb
        injection e' with e'
        injection e' with e1 e2
        subst e1 e2
        clear hb k0 k1
        go_wp2_with fail
        refine (is_any w1 y 170 85 r HX2.out HR2.out).mono ?_
        rintro e w2 ⟨rfl, hb⟩
        have HB2 := Lib.hid (HB.out.trans (hb.mono HB.out.size))
        clear hb
        go_wp2_with fail
        go_ret
        exact ⟨rfl, HB2.out⟩
      · rw [if_neg h2] at hr
        have h2' : ¬ (i : Int) + 1 < (n : Int) := by omega
        subst hr
        clear h hp
        go_enter Try.func52, Try.ntmps52
        go_wp2_with fail
        refine (is_any w x 85 170 true HX.out HR1.out).mono ?_
        rintro e w1 ⟨rfl, hb⟩
        have HB := Lib.hid hb
        clear hb
        go_wp2_with fail
        go_ret
        exact ⟨rfl, HB.out⟩
  · rw [if_neg h1] at hr
    have h1' : ¬ (i : Int) < (n : Int) := by omega
    have h2' : ¬ (i : Int) + 1 < (n : Int) := by omega
    subst hr
    clear h hp
    go_enter Try.func52, Try.ntmps52
    go_wp2_with fail
    go_ret
    exact ⟨rfl, Below.refl _ _⟩
set_option maxHeartbeats 8000000 in
theorem goes_any (w : World) (A : Option Addr) (n c B : Nat) (l : List Wr) (r : Bool) (h : Many wrE w B A n l) (hp : Pos l) (hB : B ≤ w.heap.size) (hn : n ≤ 1000) (hr : goesL l = r) :
    Calls Try.prog 40 #[.slice A n c] w fun e w' => e = .returned (.bool r) ∧ Below w.heap.size w w' := by
  have HL := Lib.hid (h.mono hB)
  have HP := Lib.hid hp
  have HBw := Lib.hid (Below.refl w.heap.size w)
  unfold goesL at hr
  rw [h.1] at hr
  obtain ⟨f, hf⟩ : ∃ f, keyL l 0 = f := ⟨_, rfl⟩
  have HF := Lib.hid hf
  rw [hf] at hr
  clear hf h hp hB
  cases f
  · obtain rfl : r = false := hr.symm.trans (if_neg (by decide))
    clear hr
    go_enter Try.func40, Try.ntmps40
    go_wp2_with fail
    refine (refKey_any w _ n c w.heap.size 0 l false HL.out HP.out (Nat.le_refl _) (by omega) HF.out).mono ?_
    rintro e w1 ⟨rfl, hb⟩
    have HBw1 := Lib.hid (HBw.out.trans (hb.mono HBw.out.size))
    clear hb
    go_wp2_with fail
    go_ret
    exact ⟨rfl, HBw1.out⟩
  · rw [if_pos rfl] at hr
    by_cases h3 : n < 3
    · obtain rfl : r = true := hr.symm.trans (if_pos h3)
      have h3' : (n : Int) < 3 := by omega
      clear hr
      go_enter Try.func40, Try.ntmps40
      go_wp2_with fail
      refine (refKey_any w _ n c w.heap.size 0 l true HL.out HP.out (Nat.le_refl _) (by omega) HF.out).mono ?_
      rintro e w1 ⟨rfl, hb⟩
      have HBw1 := Lib.hid (HBw.out.trans (hb.mono HBw.out.size))
      clear hb
      go_wp2_with fail
      go_ret
      exact ⟨rfl, HBw1.out⟩
    · rw [if_neg h3] at hr
      have h3' : ¬ (n : Int) < 3 := by omega
      have h3'' : decide ((n : Int) < 3) = false := decide_eq_false h3'
      obtain ⟨bb, oo, rfl, _, _⟩ := wr_cells HL.out (Below.refl _ w) 0 (by omega)
      have HC := Lib.hid (show ∀ (W : World), Below w.heap.size w W → ∀ i, i < n → W.cell? ⟨bb, oo + i * 2, none⟩ = some (.int .i64 (l.getD i w0).a) ∧ W.cell? ⟨bb, oo + i * 2 + 1, none⟩ = some (.int .u8 (l.getD i w0).v) from fun W hb i hi => by
        obtain ⟨b', o', e', d0, d1⟩ := wr_cells HL.out hb i hi
        injection e' with e'
        injection e' with e1 e2
        subst e1 e2
        exact ⟨d0, d1⟩)
      have hi2 : (2 : Int) < (n : Int) := by omega
      have HPx := Lib.hid (HP.out.at_ 2)
      obtain ⟨x, hx⟩ : ∃ x, l.getD 2 w0 = x := ⟨_, rfl⟩
      have Hx := Lib.hid hx
      rw [hx] at hr HPx
      obtain ⟨p1, hp1⟩ : ∃ b, isW x 85 160 = b := ⟨_, rfl⟩
      obtain ⟨p2, hp2⟩ : ∃ b, isW x 85 128 = b := ⟨_, rfl⟩
      obtain ⟨p3, hp3⟩ : ∃ b, isW x 85 144 = b := ⟨_, rfl⟩
      have H1 := Lib.hid hp1
      have H2 := Lib.hid hp2
      have H3 := Lib.hid hp3
      rw [hp1, hp2, hp3] at hr
      clear hx hp1 hp2 hp3
      cases p1
      · rw [if_neg (by decide)] at hr
        cases p3
        · rw [if_neg (by decide)] at hr
          cases p2
          · obtain rfl : r = false := hr.symm.trans (if_neg (by decide))
            clear hr
            go_enter Try.func40, Try.ntmps40
            go_wp2_with fail
            refine (refKey_any w _ n c w.heap.size 0 l true HL.out HP.out (Nat.le_refl _) (by omega) HF.out).mono ?_
            rintro e w1 ⟨rfl, hb⟩
            have HBw1 := Lib.hid (HBw.out.trans (hb.mono HBw.out.size))
            clear hb
            obtain ⟨k0, k1⟩ := HC.out w1 HBw1.out 2 (by omega)
            rw [Hx.out] at k0 k1
            go_wp2_with fail
            refine (is_any w1 x 85 160 false HPx.out H1.out).mono ?_
            rintro e w2 ⟨rfl, hb⟩
            have HBw2 := Lib.hid (HBw1.out.trans (hb.mono HBw1.out.size))
            clear hb k0 k1
            obtain ⟨k0, k1⟩ := HC.out w2 HBw2.out 2 (by omega)
            rw [Hx.out] at k0 k1
            go_wp2_with fail
            refine (is_any w2 x 85 128 false HPx.out H2.out).mono ?_
            rintro e w3 ⟨rfl, hb⟩
            have HBw3 := Lib.hid (HBw2.out.trans (hb.mono HBw2.out.size))
            clear hb k0 k1
            obtain ⟨k0, k1⟩ := HC.out w3 HBw3.out 2 (by omega)
            rw [Hx.out] at k0 k1
            go_wp2_with fail
            refine (is_any w3 x 85 144 false HPx.out H3.out).mono ?_
            rintro e w4 ⟨rfl, hb⟩
            have HBw4 := Lib.hid (HBw3.out.trans (hb.mono HBw3.out.size))
            clear hb k0 k1
            go_wp2_with fail
            go_ret
            exact ⟨rfl, HBw4.out⟩
          · rw [if_pos rfl] at hr
            obtain ⟨g, hg⟩ : ∃ b, keyL l 3 = b := ⟨_, rfl⟩
            have HG := Lib.hid hg
            rw [hg] at hr
            clear hg
            cases g
            · obtain rfl : r = false := hr.symm.trans (if_neg (by decide))
              clear hr
              go_enter Try.func40, Try.ntmps40
              go_wp2_with fail
              refine (refKey_any w _ n c w.heap.size 0 l true HL.out HP.out (Nat.le_refl _) (by omega) HF.out).mono ?_
              rintro e w1 ⟨rfl, hb⟩
              have HBw1 := Lib.hid (HBw.out.trans (hb.mono HBw.out.size))
              clear hb
              obtain ⟨k0, k1⟩ := HC.out w1 HBw1.out 2 (by omega)
              rw [Hx.out] at k0 k1
              go_wp2_with fail
              refine (is_any w1 x 85 160 false HPx.out H1.out).mono ?_
              rintro e w2 ⟨rfl, hb⟩
              have HBw2 := Lib.hid (HBw1.out.trans (hb.mono HBw1.out.size))
              clear hb k0 k1
              obtain ⟨k0, k1⟩ := HC.out w2 HBw2.out 2 (by omega)
              rw [Hx.out] at k0 k1
              go_wp2_with fail
              refine (is_any w2 x 85 128 true HPx.out H2.out).mono ?_
              rintro e w3 ⟨rfl, hb⟩
              have HBw3 := Lib.hid (HBw2.out.trans (hb.mono HBw2.out.size))
              clear hb k0 k1
              obtain ⟨k0, k1⟩ := HC.out w3 HBw3.out 2 (by omega)
              rw [Hx.out] at k0 k1
              go_wp2_with fail
              refine (is_any w3 x 85 144 false HPx.out H3.out).mono ?_
              rintro e w4 ⟨rfl, hb⟩
              have HBw4 := Lib.hid (HBw3.out.trans (hb.mono HBw3.out.size))
              clear hb k0 k1
              go_wp2_with fail
              refine (refKey_any w4 _ n c w.heap.size 3 l false (HL.out.below HBw4.out) HP.out HBw4.out.size (by omega) HG.out).mono ?_
              rintro e w5 ⟨rfl, hb⟩
              have HBw5 := Lib.hid (HBw4.out.trans (hb.mono HBw4.out.size))
              clear hb
              go_wp2_with fail
              go_ret
              exact ⟨rfl, HBw5.out⟩
            · rw [if_pos rfl] at hr
              by_cases h6 : n < 6
              · obtain rfl : r = true := hr.symm.trans (if_pos h6)
                have h6' : (n : Int) < 6 := by omega
                clear hr
                go_enter Try.func40, Try.ntmps40
                go_wp2_with fail
                refine (refKey_any w _ n c w.heap.size 0 l true HL.out HP.out (Nat.le_refl _) (by omega) HF.out).mono ?_
                rintro e w1 ⟨rfl, hb⟩
                have HBw1 := Lib.hid (HBw.out.trans (hb.mono HBw.out.size))
                clear hb
                obtain ⟨k0, k1⟩ := HC.out w1 HBw1.out 2 (by omega)
                rw [Hx.out] at k0 k1
                go_wp2_with fail
                refine (is_any w1 x 85 160 false HPx.out H1.out).mono ?_
                rintro e w2 ⟨rfl, hb⟩
                have HBw2 := Lib.hid (HBw1.out.trans (hb.mono HBw1.out.size))
                clear hb k0 k1
                obtain ⟨k0, k1⟩ := HC.out w2 HBw2.out 2 (by omega)
                rw [Hx.out] at k0 k1
                go_wp2_with fail
                refine (is_any w2 x 85 128 true HPx.out H2.out).mono ?_
                rintro e w3 ⟨rfl, hb⟩
                have HBw3 := Lib.hid (HBw2.out.trans (hb.mono HBw2.out.size))
                clear hb k0 k1
                obtain ⟨k0, k1⟩ := HC.out w3 HBw3.out 2 (by omega)
                rw [Hx.out] at k0 k1
                go_wp2_with fail
                refine (is_any w3 x 85 144 false HPx.out H3.out).mono ?_
                rintro e w4 ⟨rfl, hb⟩
                have HBw4 := Lib.hid (HBw3.out.trans (hb.mono HBw3.out.size))
                clear hb k0 k1
                go_wp2_with fail
                refine (refKey_any w4 _ n c w.heap.size 3 l true (HL.out.below HBw4.out) HP.out HBw4.out.size (by omega) HG.out).mono ?_
                rintro e w5 ⟨rfl, hb⟩
                have HBw5 := Lib.hid (HBw4.out.trans (hb.mono HBw4.out.size))
                clear hb
                go_wp2_with fail
                go_ret
                exact ⟨rfl, HBw5.out⟩
              · rw [if_neg h6] at hr
                have h6' : ¬ (n : Int) < 6 := by omega
                have h6'' : decide ((n : Int) < 6) = false := decide_eq_false h6'
                have hi5 : (5 : Int) < (n : Int) := by omega
                have HPy := Lib.hid (HP.out.at_ 5)
                obtain ⟨y, hy⟩ : ∃ x, l.getD 5 w0 = x := ⟨_, rfl⟩
                have Hy := Lib.hid hy
                rw [hy] at hr HPy
                obtain ⟨q1, hq1⟩ : ∃ b, isW y 85 16 = b := ⟨_, rfl⟩
                have HQ1 := Lib.hid hq1
                rw [hq1] at hr
                obtain ⟨q2, hq2⟩ : ∃ b, (y.v == 48) = b := ⟨_, rfl⟩
                rw [hq2] at hr
                clear hy hq1
                cases q2
                · have HRR := Lib.hid (show q1 = r by rw [← hr]; simp)
                  clear hr
                  go_enter Try.func40, Try.ntmps40
                  go_wp2_with fail
                  refine (refKey_any w _ n c w.heap.size 0 l true HL.out HP.out (Nat.le_refl _) (by omega) HF.out).mono ?_
                  rintro e w1 ⟨rfl, hb⟩
                  have HBw1 := Lib.hid (HBw.out.trans (hb.mono HBw.out.size))
                  clear hb
                  obtain ⟨k0, k1⟩ := HC.out w1 HBw1.out 2 (by omega)
                  rw [Hx.out] at k0 k1
                  go_wp2_with fail
                  refine (is_any w1 x 85 160 false HPx.out H1.out).mono ?_
                  rintro e w2 ⟨rfl, hb⟩
                  have HBw2 := Lib.hid (HBw1.out.trans (hb.mono HBw1.out.size))
                  clear hb k0 k1
                  obtain ⟨k0, k1⟩ := HC.out w2 HBw2.out 2 (by omega)
                  rw [Hx.out] at k0 k1
                  go_wp2_with fail
                  refine (is_any w2 x 85 128 true HPx.out H2.out).mono ?_
                  rintro e w3 ⟨rfl, hb⟩
                  have HBw3 := Lib.hid (HBw2.out.trans (hb.mono HBw2.out.size))
                  clear hb k0 k1
                  obtain ⟨k0, k1⟩ := HC.out w3 HBw3.out 2 (by omega)
                  rw [Hx.out] at k0 k1
                  go_wp2_with fail
                  refine (is_any w3 x 85 144 false HPx.out H3.out).mono ?_
                  rintro e w4 ⟨rfl, hb⟩
                  have HBw4 := Lib.hid (HBw3.out.trans (hb.mono HBw3.out.size))
                  clear hb k0 k1
                  go_wp2_with fail
                  refine (refKey_any w4 _ n c w.heap.size 3 l true (HL.out.below HBw4.out) HP.out HBw4.out.size (by omega) HG.out).mono ?_
                  rintro e w5 ⟨rfl, hb⟩
                  have HBw5 := Lib.hid (HBw4.out.trans (hb.mono HBw4.out.size))
                  clear hb
                  obtain ⟨k0, k1⟩ := HC.out w5 HBw5.out 5 (by omega)
                  rw [Hy.out] at k0 k1
                  go_wp2_with fail
                  refine (is_any w5 y 85 16 q1 HPy.out HQ1.out).mono ?_
                  rintro e w6 ⟨rfl, hb⟩
                  have HBw6 := Lib.hid (HBw5.out.trans (hb.mono HBw5.out.size))
                  clear hb k0 k1
                  obtain ⟨k0, k1⟩ := HC.out w6 HBw6.out 5 (by omega)
                  rw [Hy.out] at k0 k1
                  go_wp2_with fail
                  go_ret
                  rw [HRR.out]
                  exact ⟨rfl, HBw6.out⟩
                · obtain rfl : r = true := by rw [← hr]; simp
                  clear hr
                  go_enter Try.func40, Try.ntmps40
                  go_wp2_with fail
                  refine (refKey_any w _ n c w.heap.size 0 l true HL.out HP.out (Nat.le_refl _) (by omega) HF.out).mono ?_
                  rintro e w1 ⟨rfl, hb⟩
                  have HBw1 := Lib.hid (HBw.out.trans (hb.mono HBw.out.size))
                  clear hb
                  obtain ⟨k0, k1⟩ := HC.out w1 HBw1.out 2 (by omega)
                  rw [Hx.out] at k0 k1
                  go_wp2_with fail
                  refine (is_any w1 x 85 160 false HPx.out H1.out).mono ?_
                  rintro e w2 ⟨rfl, hb⟩
                  have HBw2 := Lib.hid (HBw1.out.trans (hb.mono HBw1.out.size))
                  clear hb k0 k1
                  obtain ⟨k0, k1⟩ := HC.out w2 HBw2.out 2 (by omega)
                  rw [Hx.out] at k0 k1
                  go_wp2_with fail
                  refine (is_any w2 x 85 128 true HPx.out H2.out).mono ?_
                  rintro e w3 ⟨rfl, hb⟩
                  have HBw3 := Lib.hid (HBw2.out.trans (hb.mono HBw2.out.size))
                  clear hb k0 k1
                  obtain ⟨k0, k1⟩ := HC.out w3 HBw3.out 2 (by omega)
                  rw [Hx.out] at k0 k1
                  go_wp2_with fail
                  refine (is_any w3 x 85 144 false HPx.out H3.out).mono ?_
                  rintro e w4 ⟨rfl, hb⟩
                  have HBw4 := Lib.hid (HBw3.out.trans (hb.mono HBw3.out.size))
                  clear hb k0 k1
                  go_wp2_with fail
                  refine (refKey_any w4 _ n c w.heap.size 3 l true (HL.out.below HBw4.out) HP.out HBw4.out.size (by omega) HG.out).mono ?_
                  rintro e w5 ⟨rfl, hb⟩
                  have HBw5 := Lib.hid (HBw4.out.trans (hb.mono HBw4.out.size))
                  clear hb
                  obtain ⟨k0, k1⟩ := HC.out w5 HBw5.out 5 (by omega)
                  rw [Hy.out] at k0 k1
                  go_wp2_with fail
                  refine (is_any w5 y 85 16 q1 HPy.out HQ1.out).mono ?_
                  rintro e w6 ⟨rfl, hb⟩
                  have HBw6 := Lib.hid (HBw5.out.trans (hb.mono HBw5.out.size))
                  clear hb k0 k1
                  obtain ⟨k0, k1⟩ := HC.out w6 HBw6.out 5 (by omega)
                  rw [Hy.out] at k0 k1
                  go_wp2_with fail
                  go_ret
                  exact ⟨rfl, HBw6.out⟩
        · rw [if_pos rfl] at hr
          have HRR := Lib.hid (show decide ((n : Int) = 3) = r by rw [← hr]; exact decide_eq_decide.2 (by omega))
          have hnn : ((n : Int) == 3) = r := by rw [← HRR.out]; rfl
          clear hr
          go_enter Try.func40, Try.ntmps40
          go_wp2_with fail
          refine (refKey_any w _ n c w.heap.size 0 l true HL.out HP.out (Nat.le_refl _) (by omega) HF.out).mono ?_
          rintro e w1 ⟨rfl, hb⟩
          have HBw1 := Lib.hid (HBw.out.trans (hb.mono HBw.out.size))
          clear hb
          obtain ⟨k0, k1⟩ := HC.out w1 HBw1.out 2 (by omega)
          rw [Hx.out] at k0 k1
          go_wp2_with fail
          refine (is_any w1 x 85 160 false HPx.out H1.out).mono ?_
          rintro e w2 ⟨rfl, hb⟩
          have HBw2 := Lib.hid (HBw1.out.trans (hb.mono HBw1.out.size))
          clear hb k0 k1
          obtain ⟨k0, k1⟩ := HC.out w2 HBw2.out 2 (by omega)
          rw [Hx.out] at k0 k1
          go_wp2_with fail
          refine (is_any w2 x 85 128 p2 HPx.out H2.out).mono ?_
          rintro e w3 ⟨rfl, hb⟩
          have HBw3 := Lib.hid (HBw2.out.trans (hb.mono HBw2.out.size))
          clear hb k0 k1
          obtain ⟨k0, k1⟩ := HC.out w3 HBw3.out 2 (by omega)
          rw [Hx.out] at k0 k1
          go_wp2_with fail
          refine (is_any w3 x 85 144 true HPx.out H3.out).mono ?_
          rintro e w4 ⟨rfl, hb⟩
          have HBw4 := Lib.hid (HBw3.out.trans (hb.mono HBw3.out.size))
          clear hb k0 k1
          go_wp2_with fail
          go_ret
          exact ⟨rfl, HBw4.out⟩
      · rw [if_pos rfl] at hr
        have HRR := Lib.hid (show decide ((n : Int) ≤ 4) = r by rw [← hr]; exact decide_eq_decide.2 (by omega))
        clear hr
        go_enter Try.func40, Try.ntmps40
        go_wp2_with fail
        refine (refKey_any w _ n c w.heap.size 0 l true HL.out HP.out (Nat.le_refl _) (by omega) HF.out).mono ?_
        rintro e w1 ⟨rfl, hb⟩
        have HBw1 := Lib.hid (HBw.out.trans (hb.mono HBw.out.size))
        clear hb
        obtain ⟨k0, k1⟩ := HC.out w1 HBw1.out 2 (by omega)
        rw [Hx.out] at k0 k1
        go_wp2_with fail
        refine (is_any w1 x 85 160 true HPx.out H1.out).mono ?_
        rintro e w2 ⟨rfl, hb⟩
        have HBw2 := Lib.hid (HBw1.out.trans (hb.mono HBw1.out.size))
        clear hb k0 k1
        obtain ⟨k0, k1⟩ := HC.out w2 HBw2.out 2 (by omega)
        rw [Hx.out] at k0 k1
        go_wp2_with fail
        refine (is_any w2 x 85 128 p2 HPx.out H2.out).mono ?_
        rintro e w3 ⟨rfl, hb⟩
        have HBw3 := Lib.hid (HBw2.out.trans (hb.mono HBw2.out.size))
        clear hb k0 k1
        obtain ⟨k0, k1⟩ := HC.out w3 HBw3.out 2 (by omega)
        rw [Hx.out] at k0 k1
        go_wp2_with fail
        refine (is_any w3 x 85 144 p3 HPx.out H3.out).mono ?_
        rintro e w4 ⟨rfl, hb⟩
        have HBw4 := Lib.hid (HBw3.out.trans (hb.mono HBw3.out.size))
        clear hb k0 k1
        go_wp2_with fail
        go_ret
        rw [HRR.out]
        exact ⟨rfl, HBw4.out⟩
end Go.Proofs.Ytojdbmkbcjaikaa
