/-
  THE WALK OF keepsakeref04.Decode.
-/
import Derived.Test.YtdafmjklkggbgaaDoorRefEnc
namespace Go.Proofs.YtdafmjklkggbgaaDoor
open Ks Go.RowKit

theorem refDec_short (A : Option Addr) (n c : Nat) (l : List Int) (w0 w : World) (H : On w0 w) (hl : l.length = n) (hn : n < 28) :
    Calls Tryd.prog 14 #[.slice A n c] w fun e w' => e = .returned (decT l) ∧ On w0 w' := by
  have HX := Lib.hid (fun ob => H.next (below_box w ob))
  have HE := Lib.hid (decT_of (l := l) (k := 5) (by unfold decErr; rw [if_pos (by omega)]) (by decide))
  clear H hl
  have hn' : (n : Int) < 28 := by omega
  go_enter Tryd.func14, Tryd.ntmps14
  go_wp2_with fail
  go_returns
  exact ⟨by rw [HE.out], HX.out _⟩
theorem part4 (l : List Int) (h : 4 ≤ l.length) : Ks.part l 0 4 = [l.getD 0 0, l.getD 1 0, l.getD 2 0, l.getD 3 0] := by
  have hl := part_len l 0 4 (by omega)
  have e : ∀ j, j < 4 → (Ks.part l 0 4)[j]? = some (l.getD j 0) := fun j hj => by
    have := part_getD l 0 4 j hj
    rw [Nat.zero_add, List.getD, List.getElem?_eq_getElem (by omega)] at this
    rw [List.getElem?_eq_getElem (by omega)]
    exact congrArg some this
  apply List.ext_getElem? 
  intro j
  match j with
  | 0 => exact e 0 (by omega)
  | 1 => exact e 1 (by omega)
  | 2 => exact e 2 (by omega)
  | 3 => exact e 3 (by omega)
  | j + 4 => rw [List.getElem?_eq_none (by omega)]; rfl
theorem number_in (W : World) (p : Regrown) (A : Option Addr) (n c : Nat) (l : List Int) (v : Int) (hn : n ≤ 8) (hl : Bytes W W.heap.size A n l) (hv : num l = v) :
    Calls Tryd.prog 28 #[.slice A n c] (In W p) fun e w'' => e = .returned (.int .u64 v) ∧ ∃ q : Regrown, w'' = In W q :=
  (number_any A n c W.heap.size l v _ hn (bytes_below hl (in_below W p)) hv).mono fun _ _ h => ⟨h.1, p, h.2⟩
theorem bytes_more {w : World} {B B' n : Nat} {A : Option Addr} {l : List Int} (h : Bytes w B A n l) (hB : B ≤ B') : Bytes w B' A n l :=
  ⟨h.1, h.2.1, fun hn => by
    obtain ⟨b, o, e, hb, hc⟩ := h.2.2 hn
    exact ⟨b, o, e, Nat.lt_of_lt_of_le hb hB, hc⟩⟩
theorem refSum_in (W : World) (p : Regrown) (A : Option Addr) (n c : Nat) (l : List Int) (v : Int) (hn : n ≤ 1000) (hl : Bytes W W.heap.size A n l) (hv : sumOf l = v) :
    Calls Tryd.prog 25 #[.slice A n c] (In W p) fun e w'' => e = .returned (.int .u32 v) ∧ ∃ q : Regrown, w'' = In W q := by
  apply Calls.regrown_of
  exact (refSum_at A n c l v _ hn (bytes_more (bytes_below hl (in_below W p)) (in_below W p).size) hv).mono fun _ _ h => h
set_option maxHeartbeats 2000000 in
theorem refDec_long (b o n c B : Nat) (l : List Int) (w0 w : World) (H : On w0 w) (hn : 28 ≤ n) (hnc : n ≤ c) (hl : Bytes w B (some ⟨b, o, none⟩) n l) (hB : B ≤ w.heap.size) :
    Calls Tryd.prog 14 #[.slice (some ⟨b, o, none⟩) n c] w fun e w' => e = .returned (decT l) ∧ On w0 w' := by
  have HX := Lib.hid (fun ob => H.next (below_box w ob))
  have HL := Lib.hid (fun ob => bytes_below hl (B := B) ((below_box w ob).mono hB))
  have HLL := Lib.hid (show ¬ l.length < 28 by rw [hl.1]; omega)
  have hn' : ¬ (n : Int) < 28 := by omega
  have HC := Lib.hid (show ∀ (ob : Obj) (i : Nat), i < n → (w.alloc ob).cell? ⟨b, o + i, none⟩ = some (.int .u8 (l.getD i 0)) from fun ob i hi => by
    obtain ⟨b', o', e, hc⟩ := bytes_cell hl ((below_box w ob).mono hB) i hi
    cases e
    exact hc)
  have hc0 : ∀ ob : Obj, (w.alloc ob).cell? ⟨b, o, none⟩ = some (.int .u8 (l.getD 0 0)) := fun ob => HC.out ob 0 (by omega)
  have hc1 := fun ob : Obj => HC.out ob 1 (by omega)
  have hc2 := fun ob : Obj => HC.out ob 2 (by omega)
  have hc3 := fun ob : Obj => HC.out ob 3 (by omega)
  have hc4 := fun ob : Obj => HC.out ob 4 (by omega)
  have i0 : (0 : Int) < (n : Int) := by omega
  have i1 : (1 : Int) < (n : Int) := by omega
  have i2 : (2 : Int) < (n : Int) := by omega
  have i3 : (3 : Int) < (n : Int) := by omega
  have i4 : (4 : Int) < (n : Int) := by omega
  have HP4 := Lib.hid (part4 l (by rw [hl.1]; omega))
  have HV := Lib.hid hl.2.1
  have HB := Lib.hid hB
  have HN0 := Lib.hid H.bel.size
  have HH := Lib.hid (tab_pos H.tab)
  clear H hl hB
  by_cases k0 : l.getD 0 0 = 75
  rotate_left
  · have HE := Lib.hid (decT_of (l := l) (k := 6) (by unfold decErr; rw [if_neg HLL.out, if_pos (fun e => k0 (by have := congrArg (fun x => x.getD 0 0) (HP4.out.symm.trans e); exact this))]) (by decide))
    have hx : (l.getD 0 0 != 75) = true := by simpa using k0
    generalize l.getD 0 0 = x at *
    clear k0 hc1 hc2 hc3 hc4 HC HP4 HL
    go_enter Tryd.func14, Tryd.ntmps14
    go_wp2_with fail
    go_returns
    exact ⟨by rw [HE.out], HX.out _⟩
  rw [k0] at hc0
  by_cases k1 : l.getD 1 0 = 69
  rotate_left
  · have HE := Lib.hid (decT_of (l := l) (k := 6) (by unfold decErr; rw [if_neg HLL.out, if_pos (fun e => k1 (by have := congrArg (fun x => x.getD 1 0) (HP4.out.symm.trans e); exact this))]) (by decide))
    have hx : (l.getD 1 0 != 69) = true := by simpa using k1
    generalize l.getD 1 0 = x at *
    clear k1 hc2 hc3 hc4 HC HP4 HL
    go_enter Tryd.func14, Tryd.ntmps14
    go_wp2_with fail
    go_returns
    exact ⟨by rw [HE.out], HX.out _⟩
  rw [k1] at hc1
  by_cases k2 : l.getD 2 0 = 69
  rotate_left
  · have HE := Lib.hid (decT_of (l := l) (k := 6) (by unfold decErr; rw [if_neg HLL.out, if_pos (fun e => k2 (by have := congrArg (fun x => x.getD 2 0) (HP4.out.symm.trans e); exact this))]) (by decide))
    have hx : (l.getD 2 0 != 69) = true := by simpa using k2
    generalize l.getD 2 0 = x at *
    clear k2 hc3 hc4 HC HP4 HL
    go_enter Tryd.func14, Tryd.ntmps14
    go_wp2_with fail
    go_returns
    exact ⟨by rw [HE.out], HX.out _⟩
  rw [k2] at hc2
  by_cases k3 : l.getD 3 0 = 80
  rotate_left
  · have HE := Lib.hid (decT_of (l := l) (k := 6) (by unfold decErr; rw [if_neg HLL.out, if_pos (fun e => k3 (by have := congrArg (fun x => x.getD 3 0) (HP4.out.symm.trans e); exact this))]) (by decide))
    have hx : (l.getD 3 0 != 80) = true := by simpa using k3
    generalize l.getD 3 0 = x at *
    clear k3 hc4 HC HP4 HL
    go_enter Tryd.func14, Tryd.ntmps14
    go_wp2_with fail
    go_returns
    exact ⟨by rw [HE.out], HX.out _⟩
  rw [k3] at hc3
  have K1 := Lib.hid (show Ks.part l 0 4 = keep by rw [HP4.out, k0, k1, k2, k3]; rfl)
  clear k0 k1 k2 k3 HP4
  by_cases k4 : l.getD 4 0 = 1
  rotate_left
  · have HE := Lib.hid (decT_of (l := l) (k := 7) (by unfold decErr; rw [if_neg HLL.out, if_neg (fun h => h K1.out), if_pos k4]) (by decide))
    have hx : (l.getD 4 0 != 1) = true := by simpa using k4
    generalize l.getD 4 0 = x at *
    clear k4 HC HL
    go_enter Tryd.func14, Tryd.ntmps14
    go_wp2_with fail
    go_returns
    exact ⟨by rw [HE.out], HX.out _⟩
  rw [k4] at hc4
  have K2 := Lib.hid k4
  clear k4
  have hc24 : (24 : Int) ≤ (c : Int) := by omega
  have hc28 : (28 : Int) ≤ (c : Int) := by omega
  have hc24n : ¬ c = 24 := by omega
  obtain ⟨v, hv⟩ : ∃ v, num (Ks.part l 24 4) = v := ⟨_, rfl⟩
  obtain ⟨u, hu⟩ : ∃ v, sumOf (Ks.part l 0 24) = v := ⟨_, rfl⟩
  have HVV := Lib.hid hv
  have HU := Lib.hid hu
  have hui : 0 ≤ u ∧ u < 4294967296 := by rw [← hu]; exact sumOf_in _
  obtain ⟨hu0, hu1⟩ := hui
  clear hv hu
  go_enter Tryd.func14, Tryd.ntmps14
  go_wp2_with fail
  clear hc0 hc1 hc2 hc3 hc4
  have HX1 := Lib.hid (HX.out (.cells #[.int .i64 0, .int .i64 0, .int .i64 0, .int .i64 0, .int .u64 0, .int .u32 0] 27))
  have HL1 := Lib.hid (HL.out (.cells #[.int .i64 0, .int .i64 0, .int .i64 0, .int .i64 0, .int .u64 0, .int .u32 0] 27))
  have HZ := Lib.hid (boxed6 w (.int .i64 0) (.int .i64 0) (.int .i64 0) (.int .i64 0) (.int .u64 0) (.int .u32 0) 27)
  have HF := Lib.hid (frozen6 w (.int .i64 0) (.int .i64 0) (.int .i64 0) (.int .i64 0) (.int .u64 0) (.int .u32 0) 27)
  have HS := Lib.hid (show B ≤ (w.alloc (.cells #[.int .i64 0, .int .i64 0, .int .i64 0, .int .i64 0, .int .u64 0, .int .u32 0] 27)).heap.size ∧ w.heap.size < (w.alloc (.cells #[.int .i64 0, .int .i64 0, .int .i64 0, .int .i64 0, .int .u64 0, .int .u32 0] 27)).heap.size by have := HB.out; simp; omega)
  clear HX HL HC
  generalize w.alloc (.cells #[.int .i64 0, .int .i64 0, .int .i64 0, .int .i64 0, .int .u64 0, .int .u32 0] 27) = W at *
  have HLW := Lib.hid (bytes_more HL1.out HS.out.1)
  refine wp_region_quiet_below (by kernel_rfl) (by kernel_rfl) ?_
  iterate 2 go_big_quiet_step (fail)
  go_big_quiet_step ((refine number_in W _ _ 4 _ _ v (by omega) (bytes_part HLW.out 24 4 (by omega)) HVV.out))
  iterate 2 go_big_quiet_step (fail)
  go_big_quiet_step ((refine refSum_in W _ _ 24 _ _ u (by omega) (bytes_part HLW.out 0 24 (by omega)) HU.out))
  repeat (go_big_quiet_step (fail))
  refine wpQuiet_nil ?_
  rintro w1 ⟨qq, rfl⟩
  have HB1 := Lib.hid (show Below W.heap.size W (Go.Sort.grow (redrawn W qq.d) qq.os) from in_below W qq)
  generalize Go.Sort.grow (redrawn W qq.d) qq.os = w1 at *
  have HL2 := Lib.hid (bytes_below HLW.out HB1.out)
  have HX2 := Lib.hid (HX1.out.next HB1.out)
  obtain ⟨z0, z1, z2, z3, z4, z5⟩ := cells6 HB1.out HS.out.2 HZ.out
  obtain ⟨f0, f1, f2, f3, f4, f5⟩ := fr6 HB1.out HS.out.2 HF.out
  by_cases k3 : v = u
  rotate_left
  · have hx : (v != u) = true := by simpa using k3
    have HE := Lib.hid (decT_of (l := l) (k := 8) (by unfold decErr; rw [if_neg HLL.out, if_neg (fun h => h K1.out), if_neg (fun h => h K2.out), if_pos (by rw [HVV.out, HU.out]; exact k3)]) (by decide))
    rw [hx]
    clear k3 hx
    go_wp2_with fail
    obtain ⟨s0, s1, s2, s3, s4, s5⟩ := sets6 w1 w.heap.size z0 z1 z2 z3 z4 z5 (.int .i64 0) (.int .i64 0) (.int .i64 0) (.int .i64 0) (.int .u64 0) (.int .u32 0)
    try simp only [Exit.inBlock, Exit.then]
    refine bodyPost_ret (by simp [results, Tryd.results14, go_sem, s0, s1, s2, s3, s4, s5]; try rfl) rfl ?_
    exact ⟨by rw [HE.out], ((((((HX2.out.set_ HN0.out HH.out _ _).set_ HN0.out HH.out _ _).set_ HN0.out HH.out _ _).set_ HN0.out HH.out _ _).set_ HN0.out HH.out _ _).set_ HN0.out HH.out _ _)⟩
  subst k3
  obtain ⟨v1, h1⟩ : ∃ v, num (Ks.part l 5 1) = v := ⟨_, rfl⟩
  obtain ⟨v2, h2⟩ : ∃ v, num (Ks.part l 6 1) = v := ⟨_, rfl⟩
  obtain ⟨v3, h3⟩ : ∃ v, num (Ks.part l 7 1) = v := ⟨_, rfl⟩
  obtain ⟨v4, h4⟩ : ∃ v, num (Ks.part l 8 4) = v := ⟨_, rfl⟩
  obtain ⟨v5, h5⟩ : ∃ v, num (Ks.part l 12 8) = v := ⟨_, rfl⟩
  obtain ⟨v6, h6⟩ : ∃ v, num (Ks.part l 20 4) = v := ⟨_, rfl⟩
  have HC := Lib.hid (show ∀ (ob : Obj) (i : Nat), i < n → (w1.alloc ob).cell? ⟨b, o + i, none⟩ = some (.int .u8 (l.getD i 0)) from fun ob i hi => by
    obtain ⟨b', o', e, hc⟩ := bytes_cell (bytes_more HL2.out HB1.out.size) (below_box w1 ob) i hi
    cases e
    exact hc)
  have hlen : l.length = n := HL2.out.1
  have e1 : l.getD 5 0 = v1 := by rw [← h1, part_one l 5 (by omega)]; simp [num]
  have e2 : l.getD 6 0 = v2 := by rw [← h2, part_one l 6 (by omega)]; simp [num]
  have e3 : l.getD 7 0 = v3 := by rw [← h3, part_one l 7 (by omega)]; simp [num]
  have g1 := Ks.getD_in l HV.out 5
  have g2 := Ks.getD_in l HV.out 6
  have g3 := Ks.getD_in l HV.out 7
  have g4 := num_in (Ks.part l 8 4) (part_in l HV.out 8 4)
  have g6 := num_in (Ks.part l 20 4) (part_in l HV.out 20 4)
  rw [part_len l 8 4 (by omega), h4] at g4
  rw [part_len l 20 4 (by omega), h6] at g6
  have hc5 := fun ob : Obj => HC.out ob 5 (by omega)
  have hc6 := fun ob : Obj => HC.out ob 6 (by omega)
  have hc7 := fun ob : Obj => HC.out ob 7 (by omega)
  rw [e1] at hc5 g1
  rw [e2] at hc6 g2
  rw [e3] at hc7 g3
  have HL3 := Lib.hid (fun ob => bytes_below (bytes_more HL2.out HB1.out.size) (below_box w1 ob))
  have J1 := Lib.hid h1
  have J2 := Lib.hid h2
  have J3 := Lib.hid h3
  have J4 := Lib.hid h4
  have J5 := Lib.hid h5
  have J6 := Lib.hid h6
  have i5 : (5 : Int) < (n : Int) := by omega
  have i6 : (6 : Int) < (n : Int) := by omega
  have i7 : (7 : Int) < (n : Int) := by omega
  have m12 : (12 : Int) ≤ (c : Int) := by omega
  have m20 : (20 : Int) ≤ (c : Int) := by omega
  have n8 : ¬ c = 8 := by omega
  have n12 : ¬ c = 12 := by omega
  have n20 : ¬ c = 20 := by omega
  obtain ⟨p1, q1⟩ := g1
  obtain ⟨p2, q2⟩ := g2
  obtain ⟨p3, q3⟩ := g3
  obtain ⟨p4, q4⟩ := g4
  obtain ⟨p6, q6⟩ := g6
  replace q4 : v4 < 4294967296 := q4
  replace q6 : v6 < 4294967296 := q6
  clear h1 h2 h3 h4 h5 h6 e1 e2 e3 HC hlen HL1 HLW HV hu0 hu1
  rw [show (v != v) = false by simp]
  go_wp2_with fail
  refine wp_region_still_tail 14 (by kernel_rfl) (by kernel_rfl) ?_
  change wpStill _ _ (w1.alloc _).drew (fun a' => wpList _ _ _ _ a' (w1.alloc _).drew) _ _
  simp only [List.take_succ_cons, List.take_zero, List.drop_succ_cons, List.drop_zero]
  iterate 14 still_step
  refine wpStill_nil ?_
  clear hc5 hc6 hc7
  go_wp2_with fail
  refine (number_any _ 4 _ _ _ v4 _ (by omega) (bytes_part (bytes_drew (HL3.out _)) 8 4 (by omega)) J4.out).mono ?_
  rintro e w' ⟨rfl, rfl⟩
  go_wp2_with fail
  refine (number_any _ 8 _ _ _ v5 _ (by omega) (bytes_part (bytes_drew (HL3.out _)) 12 8 (by omega)) J5.out).mono ?_
  rintro e w' ⟨rfl, rfl⟩
  go_wp2_with fail
  refine (number_any _ 4 _ _ _ v6 _ (by omega) (bytes_part (bytes_drew (HL3.out _)) 20 4 (by omega)) J6.out).mono ?_
  rintro e w' ⟨rfl, rfl⟩
  go_wp2_with fail
  have HBX := Lib.hid (boxed6 w1 (.int .i64 v1) (.int .i64 v2) (.int .i64 v3) (.int .i64 v4) (.int .u64 v5) (.int .u32 v6) 27)
  have HP := Lib.hid (show w1.heap.size < (w1.alloc (.cells #[.int .i64 v1, .int .i64 v2, .int .i64 v3, .int .i64 v4, .int .u64 v5, .int .u32 v6] 27)).heap.size by simp)
  have HBL := Lib.hid (below_box w1 (.cells #[.int .i64 v1, .int .i64 v2, .int .i64 v3, .int .i64 v4, .int .u64 v5, .int .u32 v6] 27))
  generalize w1.alloc (.cells #[.int .i64 v1, .int .i64 v2, .int .i64 v3, .int .i64 v4, .int .u64 v5, .int .u32 v6] 27) = W2 at *
  obtain ⟨r, hr⟩ : ∃ r, can v1 v2 v3 v4 = r := ⟨_, rfl⟩
  refine (refCan_any v1 v2 v3 v4 v5 v6 r _ _ (On.start (HX2.out.next HBL.out).tab.drew) hr).mono ?_
  rintro e w3 ⟨rfl, hw3⟩
  have HW3 := Lib.hid (show Below W2.heap.size W2 w3 from below_of_drew hw3.bel)
  have HW1 := Lib.hid (show Below w1.heap.size w1 w3 from HBL.out.trans (HW3.out.mono HBL.out.size))
  have HOO := Lib.hid (HX2.out.next HW1.out)
  have HLT := Lib.hid (Nat.lt_of_lt_of_le HS.out.2 HB1.out.size)
  replace z0 := (HW1.out.cell (p := ⟨w.heap.size, 0, none⟩) HLT.out).trans z0
  replace z1 := (HW1.out.cell (p := ⟨w.heap.size, 1, none⟩) HLT.out).trans z1
  replace z2 := (HW1.out.cell (p := ⟨w.heap.size, 2, none⟩) HLT.out).trans z2
  replace z3 := (HW1.out.cell (p := ⟨w.heap.size, 3, none⟩) HLT.out).trans z3
  replace z4 := (HW1.out.cell (p := ⟨w.heap.size, 4, none⟩) HLT.out).trans z4
  replace z5 := (HW1.out.cell (p := ⟨w.heap.size, 5, none⟩) HLT.out).trans z5
  replace f0 := (HW1.out.frozen (p := ⟨w.heap.size, 0, none⟩) HLT.out).trans f0
  replace f1 := (HW1.out.frozen (p := ⟨w.heap.size, 1, none⟩) HLT.out).trans f1
  replace f2 := (HW1.out.frozen (p := ⟨w.heap.size, 2, none⟩) HLT.out).trans f2
  replace f3 := (HW1.out.frozen (p := ⟨w.heap.size, 3, none⟩) HLT.out).trans f3
  replace f4 := (HW1.out.frozen (p := ⟨w.heap.size, 4, none⟩) HLT.out).trans f4
  replace f5 := (HW1.out.frozen (p := ⟨w.heap.size, 5, none⟩) HLT.out).trans f5
  obtain ⟨x0, x1, x2, x3, x4, x5⟩ := cells6 HW3.out HP.out HBX.out
  clear hw3 HZ HF HBX HL3 HL2 HX1
  cases r
  · have HE := Lib.hid (decT_of (l := l) (k := 9) (by unfold decErr; rw [if_neg HLL.out, if_neg (fun h => h K1.out), if_neg (fun h => h K2.out), if_neg (fun h => h (HVV.out.trans HU.out.symm)), if_pos (by rw [J1.out, J2.out, J3.out, J4.out]; exact hr)]) (by decide))
    clear hr x0 x1 x2 x3 x4 x5
    go_wp2_with fail
    obtain ⟨s0, s1, s2, s3, s4, s5⟩ := sets6 w3 w.heap.size z0 z1 z2 z3 z4 z5 (.int .i64 0) (.int .i64 0) (.int .i64 0) (.int .i64 0) (.int .u64 0) (.int .u32 0)
    try simp only [Exit.inBlock, Exit.then]
    refine bodyPost_ret (by simp [results, Tryd.results14, go_sem, s0, s1, s2, s3, s4, s5]; try rfl) rfl ?_
    exact ⟨by rw [HE.out], ((((((HOO.out.set_ HN0.out HH.out _ _).set_ HN0.out HH.out _ _).set_ HN0.out HH.out _ _).set_ HN0.out HH.out _ _).set_ HN0.out HH.out _ _).set_ HN0.out HH.out _ _)⟩
  · have HE := Lib.hid (decT_ok (l := l) (by unfold decErr; rw [if_neg HLL.out, if_neg (fun h => h K1.out), if_neg (fun h => h K2.out), if_neg (fun h => h (HVV.out.trans HU.out.symm)), if_neg (by rw [J1.out, J2.out, J3.out, J4.out, hr]; decide)]))
    have HD := Lib.hid (show decH l = headV v1 v2 v3 v4 v5 v6 by unfold decH; rw [J1.out, J2.out, J3.out, J4.out, J5.out, J6.out])
    clear hr
    go_wp2_with fail
    obtain ⟨s0, s1, s2, s3, s4, s5⟩ := sets6 w3 w.heap.size z0 z1 z2 z3 z4 z5 (.int .i64 v1) (.int .i64 v2) (.int .i64 v3) (.int .i64 v4) (.int .u64 v5) (.int .u32 v6)
    try simp only [Exit.inBlock, Exit.then]
    refine bodyPost_ret (by simp [results, Tryd.results14, go_sem, s0, s1, s2, s3, s4, s5]; try rfl) rfl ?_
    exact ⟨by rw [HE.out, HD.out], ((((((HOO.out.set_ HN0.out HH.out _ _).set_ HN0.out HH.out _ _).set_ HN0.out HH.out _ _).set_ HN0.out HH.out _ _).set_ HN0.out HH.out _ _).set_ HN0.out HH.out _ _)⟩
theorem refDec_any (A : Option Addr) (n c B : Nat) (l : List Int) (w0 w : World) (H : On w0 w) (hnc : n ≤ c) (hl : Bytes w B A n l) (hB : B ≤ w.heap.size) :
    Calls Tryd.prog 14 #[.slice A n c] w fun e w' => e = .returned (decT l) ∧ On w0 w' := by
  by_cases hn : n < 28
  · exact refDec_short A n c l w0 w H hl.1 hn
  · obtain ⟨b, o, rfl, _, _⟩ := hl.2.2 (by omega)
    exact refDec_long b o n c B l w0 w H (by omega) hnc hl hB
end Go.Proofs.YtdafmjklkggbgaaDoor
