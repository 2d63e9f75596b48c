/-
  THE WALK OF HeadAgain.
-/
import Derived.Test.YtdafmjklkggbgaaDoorReads
import Derived.Deep.RegionLaw
import Derived.Deep.DeepCutAuto
namespace Go.Proofs.YtdafmjklkggbgaaDoor
open Ks Go.RowKit
theorem step_append {P : Program} {ops : Array Oper} {o : Oper} {a : Act} {w : World} {K : Act → World → Prop} {Q : Exit → Act → World → Prop} {E : Prop}
    (hg : o.guard = none) (s x : Operand) (t : TypeId) (hop : o.op = Op.call { callee := Callee.builtin Builtin.append, args := #[s, x], argTypes := #[t, t] })
    (v u : Value) (hs : a.eval s = v) (hx : a.eval x = u) (R : Value → World → Prop) (hrun : ∃ v' w', (Builtin.append_ #[t, t] o.type #[v, u]).run P w = .ok v' w' ∧ R v' w')
    (hK : ∀ v' w', R v' w' → K (a.put o.dst v') w') :
    if Region.wanted o (yielded ops a.tmps) = true then Oper.wp P o a w K Q else E := by
  have hw : Region.wanted o (yielded ops a.tmps) = true := by simp [Region.wanted, hg]
  rw [if_pos hw]
  obtain ⟨v', w', hr, hR⟩ := hrun
  have := hK v' w' hR
  unfold Oper.wp
  simp [execOp, hop, resolve, invoke, builtin, hs, hx, hr, Result.andThen]
  exact this
theorem same_in (W : World) (p : Regrown) (A1 A2 : Option Addr) (n c1 c2 : Nat) (a b : List Int) (r : Bool) (hn : n ≤ maxLen) (ha : Bytes W W.heap.size A1 n a) (hb : Bytes W W.heap.size A2 n b) (hr : decide (a = b) = r) :
    Calls Tryd.prog 12 #[.slice A1 n c1, .slice A2 n c2] (In W p) fun e w'' => e = .returned (.bool r) ∧ ∃ q : Regrown, w'' = In W q := by
  apply Calls.regrown_of
  subst hr
  exact (same_any A1 A2 n c1 c2 _ a b _ hn (bytes_below ha (in_below W p)) (bytes_below hb (in_below W p)) (in_below W p).size).mono fun _ _ h => h
/-- what is to be decoded -/
def AgainAt (w : World) (v : Value) (wx : World) : Prop := ∃ A n c l, v = .slice A n c ∧ n ≤ c ∧ 28 ≤ n ∧ n ≤ 60 ∧ Bytes wx wx.heap.size A n l ∧ On w wx
theorem again_of_own {w wx : World} {base : Nat} {v : Value} {l : List Int} (h : On w wx) (ho : Own base wx v l) (hv : ∀ v ∈ l, 0 ≤ v ∧ v ≤ 255) (h1 : 28 ≤ l.length) (h2 : l.length ≤ 60) : AgainAt w v wx := by
  obtain ⟨A, c, rfl, hc, hb⟩ := ho.bytes hv
  exact ⟨A, _, c, l, rfl, hc, h1, h2, hb, h⟩
theorem clone_in {w : World} {A : Option Addr} {m c : Nat} {t : List Int} (hl : Bytes w w.heap.size A m t) (hm : m ≤ 1000) :
    ∃ v' w', (Builtin.append_ #[29, 29] 29 #[.slice (some ⟨w.heap.size, 0, none⟩) 0 0, .slice A m c]).run Tryd.prog (w.drew.alloc (.cells #[] 5)) = .ok v' w' ∧ (Own w.heap.size w' v' t ∧ Below w.heap.size w w') := by
  obtain ⟨v', w', h1, h2, h3⟩ := clone_run w.drew _ rfl A m c _ t (bytes_drew hl) (Nat.le_refl _) hm
  exact ⟨v', w', h1, h2, below_of_drew h3⟩
theorem seal_in {w w2 w3 w4 : World} {v3 : Value} {t : List Int} {u : Int} {A4 : Option Addr} {c4 : Nat} (h2 : On w w2) (h3 : Own w2.heap.size w3 v3 t ∧ Below w2.heap.size w2 w3) (hy : BytAt w3 u 4 (.slice A4 4 c4) w4) (ht : t.length = 24) (hv : ∀ v ∈ t, 0 ≤ v ∧ v ≤ 255) :
    ∃ v' w', (Builtin.append_ #[29, 29] 29 #[v3, .slice A4 4 c4]).run Tryd.prog w4 = .ok v' w' ∧ AgainAt w v' w' := by
  have ho : Own w3.heap.size w4 (.slice A4 4 c4) (le 4 u) := by unfold Own; rw [le_len]; exact hy.1
  obtain ⟨A5, c5, e5, _, hb5⟩ := ho.bytes (le_in 4 u)
  cases e5
  rw [le_len] at hb5
  obtain ⟨v6, w6, hap, hown6, hb6⟩ := append_own w4 w2.heap.size 29 v3 t (h3.1.below hy.2) A4 4 c4 _ (le 4 u) hb5 (by rw [ht]; omega) (Nat.le_trans h3.2.size hy.2.size)
  refine ⟨v6, w6, hap, again_of_own (h2.next ((h3.2.trans (hy.2.mono h3.2.size)).trans hb6)) hown6 (fun v hm => (List.mem_append.1 hm).elim (hv v) (le_in 4 u v)) ?_ ?_⟩
  · rw [List.length_append, ht, le_len]; omega
  · rw [List.length_append, ht, le_len]; omega
/-- what is decoded, told for Encode -/
theorem dec_told {l : List Int} (h : decErr l = 0) (hv : ∀ v ∈ l, 0 ≤ v ∧ v ≤ 255) :
    ∃ a b c n q s, decT l = .tuple #[headV a b c n q s, .int .i64 0] ∧ can a b c n = true ∧ (0 ≤ q ∧ q < 18446744073709551616) ∧ (0 ≤ s ∧ s < 4294967296) ∧ enc a b c n q s = Ks.part l 0 28 := by
  refine ⟨_, _, _, _, _, _, decT_ok h, (dec_ok h).2.2.2.2, ?_, ?_, ?_⟩
  · have h1 := (dec_ok h).1
    have := num_in (Ks.part l 12 8) (part_in l hv 12 8)
    rw [part_len l 12 8 (by omega)] at this
    simpa using this
  · have h1 := (dec_ok h).1
    have := num_in (Ks.part l 20 4) (part_in l hv 20 4)
    rw [part_len l 20 4 (by omega)] at this
    simpa using this
  · rw [enc_dec h hv]; unfold Ks.part; rw [List.drop_zero]
theorem can_right {a b c n : Int} (h : can a b c n = true) : right a b c = true := by
  unfold can at h
  simp only [Bool.and_eq_true] at h
  exact h.1
set_option maxHeartbeats 4000000 in
theorem headAgain_walk (w : World) (A : Option Addr) (n c : Nat) (z : List Int) (hr : IsRow .u8 w A n c z) (seal_ : Bool) (hT : Tab w) :
    Calls Tryd.prog 7 #[.slice A n c, .bool seal_] w fun e w' => e = .returned (.bool true) ∧ Below w.heap.size w w' := by
  have HN := Lib.hid hr.len_le
  have HT := Lib.hid hT
  have HR := Lib.hid hr.bytes
  clear hT hr
  obtain ⟨l, hl⟩ : ∃ l, z.take n = l := ⟨_, rfl⟩
  rw [hl] at HR
  clear hl
  by_cases h28 : (n : Int) < 28
  · go_enter Tryd.func7, Tryd.ntmps7
    go_wp2_with fail
    refine (awake_any _ _ (On.start HT.out)).mono ?_
    rintro e w1 ⟨rfl, hw1⟩
    have H1 := Lib.hid hw1.bel
    clear hw1
    go_wp2_with fail
    go_ret
    exact ⟨rfl, H1.out⟩
  have hd28 : decide ((n : Int) < 28) = false := by simp; omega
  by_cases h60 : (60 : Int) < (n : Int)
  · go_enter Tryd.func7, Tryd.ntmps7
    go_wp2_with fail
    refine (awake_any _ _ (On.start HT.out)).mono ?_
    rintro e w1 ⟨rfl, hw1⟩
    have H1 := Lib.hid hw1.bel
    clear hw1
    go_wp2_with fail
    go_ret
    exact ⟨rfl, H1.out⟩
  have hd60 : decide ((60 : Int) < (n : Int)) = false := by simp; omega
  have HW1 := Lib.hid (tab_pos HT.out)
  obtain ⟨b0, o0, rfl, _, _⟩ := HR.out.2.2 (by omega)
  go_enter Tryd.func7, Tryd.ntmps7
  go_wp2_with fail
  refine (awake_any _ _ (On.start HT.out)).mono ?_
  rintro e w1 ⟨rfl, hw1⟩
  have H1 := Lib.hid hw1
  have B1 := Lib.hid (bytes_more (bytes_below HR.out hw1.bel) hw1.bel.size)
  clear hw1 HR
  obtain ⟨v2, w2, hap, hown, hb2⟩ := clone_run w1 _ rfl _ n c _ l B1.out (Nat.le_refl _) (by omega)
  have AP := Lib.hid hap
  have H2 := Lib.hid (H1.out.next hb2)
  have B2 := Lib.hid (bytes_more (bytes_below B1.out hb2) hb2.size)
  have A2 := Lib.hid (again_of_own H2.out hown B1.out.2.1 (by rw [B1.out.1]; omega) (by rw [B1.out.1]; omega))
  clear hap hown hb2 H1 B1
  cases seal_
  · obtain ⟨A6, n6, c6, l6, rfl, hnc, h1, h2, hb6, h6⟩ := A2.out
    have B6 := Lib.hid hb6
    have H6 := Lib.hid h6
    clear A2 B2 H2 hb6 h6
    go_wp2_with (at_builtin; refine Lib.wpList_append_run _ rfl _ _ _ _ rfl _ _ rfl rfl _ _ AP.out ?_)
    clear AP
    obtain ⟨b6, o6, rfl, _, _⟩ := B6.out.2.2 (by omega)
    refine (dec_any _ n6 c6 _ l6 _ _ (On.start H6.out.tab) hnc B6.out (Nat.le_refl _)).mono ?_
    by_cases hz : decErr l6 = 0
    rotate_left
    · rw [decT_of rfl hz]
      obtain ⟨er, her⟩ : ∃ e, decErr l6 = e := ⟨_, rfl⟩
      rw [her] at hz ⊢
      have hne : (er != 0) = true := by simpa using hz
      have hne2 : (er == 0) = false := by simpa using hz
      rintro e w7 ⟨rfl, hw7⟩
      have hbx := below_box w7 (.cells #[.int .i64 0, .int .i64 0, .int .i64 0, .int .i64 0, .int .u64 0, .int .u32 0] 27)
      have H7 := Lib.hid ((H6.out.next hw7.bel).next hbx)
      obtain ⟨x0, x1, x2, x3, x4, x5⟩ := (Box.new w7 0 0 0 0 0 0).six
      have hst : ∀ (w : World), (Instr.build 27 #[]).run Tryd.prog w = .ok (headV 0 0 0 0 0 0) w := fun w => by kernel_rfl
      clear hw7 hbx H6 B6 her hz
      go_wp2_with fail
      go_ret
      exact ⟨rfl, H7.out.bel⟩
    · obtain ⟨xa, xb, xc, xn, xq, xs, hdt, hcan, hq, hs, henc⟩ := dec_told hz B6.out.2.1
      have HCAN := Lib.hid hcan
      have HQ := Lib.hid hq
      have HS := Lib.hid hs
      have HENC := Lib.hid henc
      rw [hdt]
      clear hdt hcan hq hs henc hz
      rintro e w7 ⟨rfl, hw7⟩
      have hbx := below_box w7 (.cells #[.int .i64 xa, .int .i64 xb, .int .i64 xc, .int .i64 xn, .int .u64 xq, .int .u32 xs] 27)
      have H7 := Lib.hid ((H6.out.next hw7.bel).next hbx)
      have X7 := Lib.hid (Box.new w7 xa xb xc xn xq xs)
      have B7 := Lib.hid (bytes_more (bytes_below (bytes_more (bytes_below B6.out hw7.bel) hw7.bel.size) hbx) hbx.size)
      clear hw7 hbx H6 B6
      obtain ⟨x0, x1, x2, x3, x4, x5⟩ := X7.out.six
      go_wp2_with fail
      clear x0 x1 x2 x3 x4 x5
      generalize w7.alloc (.cells #[.int .i64 xa, .int .i64 xb, .int .i64 xc, .int .i64 xn, .int .u64 xq, .int .u32 xs] 27) = W7 at *
      generalize w7.heap.size = p7 at *
      refine (enc_ok xa xb xc xn xq xs _ _ (On.start H7.out.tab) HCAN.out HQ.out HS.out).mono ?_
      rintro e w8 ⟨g, rfl, hw8, hg, hrow⟩
      have H8 := Lib.hid (H7.out.next hw8.bel)
      have X8 := Lib.hid (X7.out.below hw8.bel X7.out.lt)
      have B8 := Lib.hid (bytes_part (bytes_more (bytes_below B7.out hw8.bel) hw8.bel.size) 0 28 (by omega))
      have R8 := Lib.hid (hrow.bytes (enc_in xa xb xc xn xq xs) (enc_len xa xb xc xn xq xs))
      rw [Nat.add_zero] at B8
      have HSA := Lib.hid (decide_eq_true HENC.out)
      have HRI := Lib.hid (can_right HCAN.out)
      have HTO := Lib.hid (can_total HCAN.out).symm
      clear hw8 hg hrow H7 X7 B7 HENC HCAN HQ HS
      obtain ⟨x0, x1, x2, x3, x4, x5⟩ := X8.out.six
      go_wp2_with fail
      have r0 := fun d os => cell_regrown x0 d os
      have r1 := fun d os => cell_regrown x1 d os
      have r2 := fun d os => cell_regrown x2 d os
      have r3 := fun d os => cell_regrown x3 d os
      have hc28 : (28 : Int) ≤ (c6 : Int) := by omega
      clear x0 x1 x2 x3 x4 x5
      refine wp_region_quiet_below (by kernel_rfl) (by kernel_rfl) ?_
      iterate 9 go_big_quiet_step (fail)
      go_big_quiet_step ((refine same_in w8 _ _ _ 28 _ _ _ _ true (by unfold maxLen; omega) R8.out B8.out HSA.out))
      iterate 4 go_big_quiet_step (fail)
      go_big_quiet_step ((refine right_in w8 _ xa xb xc true H8.out.tab HRI.out))
      iterate 6 go_big_quiet_step (fail)
      go_big_quiet_step ((refine refTotal_in w8 _ xa xb xc xn H8.out.tab HTO.out))
      repeat (go_big_quiet_step (fail))
      refine wpQuiet_nil ?_
      rintro w' ⟨q, rfl⟩
      have HQ := Lib.hid (H8.out.next (in_below w8 q))
      go_wp2_with fail
      go_ret
      exact ⟨by simp, HQ.out.bel⟩
  · have B3 := Lib.hid (bytes_part B2.out 0 24 (by omega))
    rw [Nat.add_zero] at B3
    have hc24 : (24 : Int) ≤ (c : Int) := by have := HN.out.1; omega
    clear A2
    go_upto_region 6 with (at_builtin; refine Lib.wpList_append_run _ rfl _ _ _ _ rfl _ _ rfl rfl _ _ AP.out ?_)
    clear AP
    obtain ⟨t, ht⟩ : ∃ t, Ks.part l 0 24 = t := ⟨_, rfl⟩
    rw [ht] at B3
    clear ht B2
    obtain ⟨u, hu⟩ : ∃ v, sumOf t = v := ⟨_, rfl⟩
    have HU := Lib.hid hu
    have hui : 0 ≤ u ∧ u < 4294967296 := by rw [← hu]; exact sumOf_in _
    obtain ⟨hu0, hu1⟩ := hui
    clear hu
    have hwr : IntKind.u64.wrap u = u := IntWalk.u64_in u ⟨hu0, by omega⟩
    go_cut [6] (fun s6 wx => AgainAt w s6 wx)
    case first =>
      go_region_law (first
        | (refine step_append (by rfl) _ _ _ (by rfl) (.slice (some ⟨w2.heap.size, 0, none⟩) 0 0) (.slice (some ⟨b0, o0, none⟩) 24 c) (by rfl) (by rfl) (fun v' w' => Own w2.heap.size w' v' t ∧ Below w2.heap.size w2 w') (clone_in B3.out (by omega)) ?_
           rintro v3 w3 ho3
           have HO3 := Lib.hid ho3
           clear ho3)
        | (go_simp; go_at_call 16; refine (sum_at (some ⟨b0, o0, none⟩) 24 c w2.heap.size t u w3 (H2.out.next HO3.out.2).tab (by unfold maxLen; omega) (bytes_below B3.out HO3.out.2) HU.out).mono ?_; rintro e w3 ⟨rfl, rfl⟩)
        | (go_simp; go_at_call 15; refine (refBytes_any u 4 w3 hu0 (by omega) (by omega)).mono ?_; rintro e w4 ⟨v4, rfl, hy⟩
           obtain ⟨A4, c4, rfl⟩ : ∃ A4 c4, v4 = .slice A4 4 c4 := by
             rcases hy.1.2 with ⟨_, h9⟩ | ⟨g, cap, cur, rfl, _⟩
             · cases h9
             · exact ⟨_, _, rfl⟩
           have HY := Lib.hid hy
           clear hy)
        | (refine step_append (by rfl) _ _ _ (by rfl) v3 (.slice A4 4 c4) (by rfl) (by rfl) (AgainAt w) (seal_in H2.out HO3.out HY.out B3.out.1 B3.out.2.1) ?_
           rintro v5 w5 ho5
           have HO5 := Lib.hid ho5
           clear ho5))
      all_goals
        go_wp2_with fail
        go_meet
        case rel => exact HO5.out
    case rest =>
      obtain ⟨A6, n6, c6, l6, rfl, hnc, h1, h2, hb6, h6⟩ := hcut
      have B6 := Lib.hid hb6
      have H6 := Lib.hid h6
      clear B3 H2 hb6 h6 HU hu0 hu1 hwr
      go_wp2_with fail
      obtain ⟨b6, o6, rfl, _, _⟩ := B6.out.2.2 (by omega)
      refine (dec_any _ n6 c6 _ l6 _ _ (On.start H6.out.tab) hnc B6.out (Nat.le_refl _)).mono ?_
      by_cases hz : decErr l6 = 0
      rotate_left
      · rw [decT_of rfl hz]
        obtain ⟨er, her⟩ : ∃ e, decErr l6 = e := ⟨_, rfl⟩
        rw [her] at hz ⊢
        have hne : (er != 0) = true := by simpa using hz
        have hne2 : (er == 0) = false := by simpa using hz
        rintro e w7 ⟨rfl, hw7⟩
        have hbx := below_box w7 (.cells #[.int .i64 0, .int .i64 0, .int .i64 0, .int .i64 0, .int .u64 0, .int .u32 0] 27)
        have H7 := Lib.hid ((H6.out.next hw7.bel).next hbx)
        obtain ⟨x0, x1, x2, x3, x4, x5⟩ := (Box.new w7 0 0 0 0 0 0).six
        have hst : ∀ (w : World), (Instr.build 27 #[]).run Tryd.prog w = .ok (headV 0 0 0 0 0 0) w := fun w => by kernel_rfl
        clear hw7 hbx H6 B6 her hz
        go_wp2_with fail
        go_ret
        exact ⟨rfl, H7.out.bel⟩
      · obtain ⟨xa, xb, xc, xn, xq, xs, hdt, hcan, hq, hs, henc⟩ := dec_told hz B6.out.2.1
        have HCAN := Lib.hid hcan
        have HQ := Lib.hid hq
        have HS := Lib.hid hs
        have HENC := Lib.hid henc
        rw [hdt]
        clear hdt hcan hq hs henc hz
        rintro e w7 ⟨rfl, hw7⟩
        have hbx := below_box w7 (.cells #[.int .i64 xa, .int .i64 xb, .int .i64 xc, .int .i64 xn, .int .u64 xq, .int .u32 xs] 27)
        have H7 := Lib.hid ((H6.out.next hw7.bel).next hbx)
        have X7 := Lib.hid (Box.new w7 xa xb xc xn xq xs)
        have B7 := Lib.hid (bytes_more (bytes_below (bytes_more (bytes_below B6.out hw7.bel) hw7.bel.size) hbx) hbx.size)
        clear hw7 hbx H6 B6
        obtain ⟨x0, x1, x2, x3, x4, x5⟩ := X7.out.six
        go_wp2_with fail
        clear x0 x1 x2 x3 x4 x5
        generalize w7.alloc (.cells #[.int .i64 xa, .int .i64 xb, .int .i64 xc, .int .i64 xn, .int .u64 xq, .int .u32 xs] 27) = W7 at *
        generalize w7.heap.size = p7 at *
        refine (enc_ok xa xb xc xn xq xs _ _ (On.start H7.out.tab) HCAN.out HQ.out HS.out).mono ?_
        rintro e w8 ⟨g, rfl, hw8, hg, hrow⟩
        have H8 := Lib.hid (H7.out.next hw8.bel)
        have X8 := Lib.hid (X7.out.below hw8.bel X7.out.lt)
        have B8 := Lib.hid (bytes_part (bytes_more (bytes_below B7.out hw8.bel) hw8.bel.size) 0 28 (by omega))
        have R8 := Lib.hid (hrow.bytes (enc_in xa xb xc xn xq xs) (enc_len xa xb xc xn xq xs))
        rw [Nat.add_zero] at B8
        have HSA := Lib.hid (decide_eq_true HENC.out)
        have HRI := Lib.hid (can_right HCAN.out)
        have HTO := Lib.hid (can_total HCAN.out).symm
        clear hw8 hg hrow H7 X7 B7 HENC HCAN HQ HS
        obtain ⟨x0, x1, x2, x3, x4, x5⟩ := X8.out.six
        go_wp2_with fail
        have r0 := fun d os => cell_regrown x0 d os
        have r1 := fun d os => cell_regrown x1 d os
        have r2 := fun d os => cell_regrown x2 d os
        have r3 := fun d os => cell_regrown x3 d os
        have hc28 : (28 : Int) ≤ (c6 : Int) := by omega
        clear x0 x1 x2 x3 x4 x5
        refine wp_region_quiet_below (by kernel_rfl) (by kernel_rfl) ?_
        iterate 9 go_big_quiet_step (fail)
        go_big_quiet_step ((refine same_in w8 _ _ _ 28 _ _ _ _ true (by unfold maxLen; omega) R8.out B8.out HSA.out))
        iterate 4 go_big_quiet_step (fail)
        go_big_quiet_step ((refine right_in w8 _ xa xb xc true H8.out.tab HRI.out))
        iterate 6 go_big_quiet_step (fail)
        go_big_quiet_step ((refine refTotal_in w8 _ xa xb xc xn H8.out.tab HTO.out))
        repeat (go_big_quiet_step (fail))
        refine wpQuiet_nil ?_
        rintro w' ⟨q, rfl⟩
        have HQ := Lib.hid (H8.out.next (in_below w8 q))
        go_wp2_with fail
        go_ret
        exact ⟨by simp, HQ.out.bel⟩
end Go.Proofs.YtdafmjklkggbgaaDoor
