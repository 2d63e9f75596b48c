/-
  THE WALK OF DiskFails.
-/
import Derived.Test.YtconholnjhjhcaaJoin
import Derived.Test.YtconholnjhjhcaaModel
import Derived.Test.YtconholnjhjhcaaCopies
namespace Go.Proofs.Ytconholnjhjhcaa
open Ks Go.RowKit

theorem op_cells {w1 W : World} {p : Nat} {a b c d : Value} (hb : w1.heap[p]? = some (.cells #[a, b, c, d] 36 (0, 0))) (hk : Keeps No w1 W) :
    W.cell? ⟨p, 0, none⟩ = some a ∧ W.cell? ⟨p, 1, none⟩ = some b ∧ W.cell? ⟨p, 2, none⟩ = some c ∧ W.cell? ⟨p, 3, none⟩ = some d ∧ p < W.heap.size := by
  have h : W.heap[p]? = some (.cells #[a, b, c, d] 36 (0, 0)) := (hk.block p (lt_of_heap hb) (fun h => h)).trans hb
  exact ⟨cell_of_row _ _ _ _ _ _ h, cell_of_row _ _ _ _ _ _ h, cell_of_row _ _ _ _ _ _ h, cell_of_row _ _ _ _ _ _ h, lt_of_heap h⟩

theorem alloc_old {w : World} {g : Nat} {x o : Obj} (h : w.heap[g]? = some x) : (w.alloc o).heap[g]? = some x := by
  have := ((Keeps.refl No w).alloc o).block g (lt_of_heap h) (fun h => h)
  exact this.trans h
theorem alloc_new {w : World} {g : Nat} {o : Obj} (h : w.heap.size = g) : (w.alloc o).heap[g]? = some o := by
  subst h
  exact heap_alloc_new w o

theorem apart_grow {Fc F : Nat → Prop} {w w' : World} (h : ∀ b, Fc b → ¬ F b) (ht : ∀ b, Fc b → b < w.heap.size) : ∀ b, Fc b → ¬ Grow F w w' b := by
  rintro b hb (hc | hc)
  · exact h b hb hc
  · have := ht b hb
    omega
theorem from_grow {N : Nat} {F : Nat → Prop} {w w' : World} (h : ∀ b, F b → N ≤ b) (hN : N ≤ w.heap.size) : ∀ b, Grow F w w' b → N ≤ b := by
  rintro b (hb | hb)
  · exact h b hb
  · omega

/-- what is planned, counted apart -/
def Like (s t : St) : Prop := t.last = s.last ∧ t.cach = s.cach ∧ t.size = s.size
theorem Like.uns {s t : St} (h : Like s t) : t.uns = s.uns := by
  unfold Ks.St.uns
  rw [h.1, h.2.1]
theorem Like.left {s t : St} (h : Like s t) (i k : Int) (tb : List Int) : leftOf t i k tb = leftOf s i k tb := by
  unfold leftOf
  rw [h.1, h.2.1, h.2.2]
theorem Like.settled {s t : St} (h : Like s t) (i : Int) (bs : List Int) : Like (s.settled i bs) (t.settled i bs) := by
  unfold Ks.St.settled
  exact ⟨by simp [h.1], by simp [h.2.1], h.2.2⟩
theorem Like.crashL : ∀ (us : List Int) {s t : St} (_ : Like s t) (ts : List (Int × List Int)), Like (crashL s us ts) (crashL t us ts)
  | [], _, _, h, _ => h
  | i :: us, s, t, h, ts => by
    show Like (Ytconholnjhjhcaa.crashL (s.settled i _) us ts.tail) (Ytconholnjhjhcaa.crashL (t.settled i _) us ts.tail)
    rw [h.left]
    exact Like.crashL us (h.settled i _) ts.tail
theorem Like.crash {s t : St} (h : Like s t) (ts : List (Int × List Int)) : Like (s.crash ts) (t.crash ts) := by
  unfold Ks.St.crash
  rw [h.uns]
  exact Like.crashL _ h ts
/-- behind the plan: the next one fails, and does nothing -/
theorem fail_next (s : St) : (s.fail ((s.ops : Int) + 1)).fails = true ∧ Like s (s.fail ((s.ops : Int) + 1)).tick ∧ (s.fail ((s.ops : Int) + 1)).tick.ops = s.ops + 1 ∧ (s.fail ((s.ops : Int) + 1)).tick.wr = s.wr := by
  have e : s.fail ((s.ops : Int) + 1) = { s with plan := fun k => if k = (s.ops : Int) + 1 then true else s.plan k, pn := s.pn + 1 } := by
    unfold Ks.St.fail
    rw [if_neg (by omega)]
  rw [e]
  exact ⟨by simp [Ks.St.fails], ⟨rfl, rfl, rfl⟩, rfl, rfl⟩
theorem fails_said {s : St} (h : s.fails = true) {o : OpD} (h0 : 0 ≤ o.kind) (h2 : o.kind ≤ 2) : said s o = ([], 3) ∧ act s o = s.tick := by
  unfold said act Ks.St.write St.read Ks.St.sync
  rw [h]
  by_cases k0 : o.kind = 0
  · simp [k0]
  by_cases k1 : o.kind = 1
  · simp [k1]
  · have k2 : o.kind = 2 := by omega
    simp [k2]
theorem fail_fits {s : St} {N : Nat} (h : s.fits N) (n : Int) : (s.fail n).fits (N + 1) := by
  obtain ⟨h1, h2, h3, h4, h5, h6⟩ := h
  unfold Ks.St.fail
  split
  · exact ⟨by omega, by omega, by omega, by omega, h5, h6⟩
  · exact ⟨show s.ops ≤ _ by omega, show s.wr ≤ _ by omega, show s.cn ≤ _ by omega, show s.pn + 1 ≤ _ by omega, h5, h6⟩
def eightNew : List (Int × List Int) := [(1, []), (1, []), (1, []), (1, []), (1, []), (1, []), (1, []), (1, [])]
theorem tears_eight (w : World) : Tears (w.alloc (.cells #[.int .i64 1, .slice none 0 0, .int .i64 1, .slice none 0 0, .int .i64 1, .slice none 0 0, .int .i64 1, .slice none 0 0, .int .i64 1, .slice none 0 0, .int .i64 1, .slice none 0 0, .int .i64 1, .slice none 0 0, .int .i64 1, .slice none 0 0] 59)) (fun b => b = w.heap.size) (.slice (some ⟨w.heap.size, 0, none⟩) 8 8) eightNew := by
  refine ⟨_, _, rfl, Nat.le_refl _, fun _ => ⟨w.heap.size, 0, rfl, rfl, fun k hk => ?_⟩⟩
  refine ⟨?_, .slice none 0 0, ?_, ?_⟩
  · rw [cell_of_row _ _ _ _ _ _ (heap_alloc_new w _)]
    match k, hk with
    | 0, _ | 1, _ | 2, _ | 3, _ | 4, _ | 5, _ | 6, _ | 7, _ => rfl
  · rw [cell_of_row _ _ _ _ _ _ (heap_alloc_new w _)]
    match k, hk with
    | 0, _ | 1, _ | 2, _ | 3, _ | 4, _ | 5, _ | 6, _ | 7, _ => rfl
  · match k, hk with
    | 0, _ | 1, _ | 2, _ | 3, _ | 4, _ | 5, _ | 6, _ | 7, _ => exact Bys.nil _ _
theorem few_left {l m : List OpD} (h : few (l ++ m) = true) : few l = true := by
  unfold few at h ⊢
  simp at h ⊢
  exact ⟨fun x hx => h.1.1 x hx, by omega⟩
theorem few_right {l : List OpD} {o : OpD} (h : few (l ++ [o]) = true) : o.tears.length ≤ 40 := (few_tears h (by simp)).1

set_option maxRecDepth 100000 in
set_option maxHeartbeats 8000000 in
theorem diskFails_walk (w : World) (v : Value) (l : List OpD) (h : OpsAt w (Lower w.heap.size) v l) (hl : l.length ≤ maxLen) (hok : ∀ o ∈ l, o.ok) (o : OpD) (bv tv : Value) (hv : OpVals w (Lower w.heap.size) bv tv o) (hoo : o.ok) (h64 : (l.length + 1) * 64 ≤ 140737488355328) :
    Calls Try.prog 7 #[v, .agg #[.int .u8 o.kind, .int .i64 o.i, bv, tv]] w (Holds w) := by
  have HLM := Lib.hid hl
  have HOK := Lib.hid hok
  have HOO := Lib.hid hoo
  have H64 := Lib.hid h64
  obtain ⟨A, c, rfl⟩ := h.form
  obtain ⟨A1, c1, rfl⟩ := hv.1.form
  obtain ⟨A2, c2, rfl⟩ := hv.2.form
  obtain ⟨w0, hw0⟩ : ∃ w0, w.alloc (.cells #[.int .u8 o.kind, .int .i64 o.i, .slice A1 o.b.length c1, .slice A2 o.tears.length c2] 36) = w0 := ⟨_, rfl⟩
  have hkw : Keeps No w w0 := by rw [← hw0]; exact (Keeps.refl No w).alloc _
  have HP := Lib.hid (show w0.heap[w.heap.size]? = some (.cells #[.int .u8 o.kind, .int .i64 o.i, .slice A1 o.b.length c1, .slice A2 o.tears.length c2] 36 (0, 0)) by rw [← hw0]; exact heap_alloc_new w _)
  have HKW := Lib.hid hkw
  have H := Lib.hid (h.keeps hkw (fun _ _ _ h => h))
  have HV := Lib.hid (hv.keeps hkw (fun _ _ _ h => h))
  clear h hok hl hkw hv hoo h64
  go_enter Try.func7, Try.ntmps7
  go_wp2_with fail
  clear hw0
  refine (awake_any w0).mono ?_
  rintro e w1 ⟨rfl, hk1⟩
  have HK1 := Lib.hid (HKW.out.trans hk1)
  have H1 := Lib.hid (H.out.keeps hk1 (fun _ _ _ h => h))
  have HV1 := Lib.hid (HV.out.keeps hk1 (fun _ _ _ h => h))
  have HP1 := Lib.hid (show w1.heap[w.heap.size]? = some (.cells #[.int .u8 o.kind, .int .i64 o.i, .slice A1 o.b.length c1, .slice A2 o.tears.length c2] 36 (0, 0)) from (hk1.block _ (lt_of_heap HP.out) (fun h => h)).trans HP.out)
  obtain ⟨p, hp⟩ : ∃ p, w.heap.size = p := ⟨_, rfl⟩
  rw [hp] at H1 HV1 HP1 ⊢
  have HPE := Lib.hid hp
  have HPL := Lib.hid (lt_of_heap HP1.out)
  clear hk1 H HKW HV HP hp
  go_upto_region 2 with fail
  go_cut [6] (fun s6 wx => s6 = .bool (few (l ++ [o])) ∧ Keeps No w1 wx)
  case first =>
    obtain ⟨z0, z1, z2, z3, hpl⟩ := op_cells HP1.out (Keeps.refl No w1)
    have HOKS := Lib.hid (show ∀ x ∈ l ++ [o], x.ok from fun x hx => by
      rcases List.mem_append.1 hx with hx | hx
      · exact HOK.out x hx
      · rw [List.mem_singleton.1 hx]; exact HOO.out)
    go_region_law (first
      | (refine step_append (by rfl) _ _ _ (by rfl) (.slice (some ⟨w1.heap.size, 0, none⟩) 0 0) (.slice A l.length c) (by rfl) (by rfl) (Joined w1 p w1.heap.size (w1.drew.alloc (.cells #[] 36)) l) (join1 (Nat.le_of_lt HPL.out) H1.out H64.out (Nat.le_refl _) (heap_alloc_new _ _) ((Keeps.refl No w1).drew.alloc _)) ?_
         rintro v2 w2 ⟨ho2, hk2, hb2⟩
         have HO2 := Lib.hid ho2
         have HK2 := Lib.hid hk2
         obtain ⟨y0, y1, y2, y3, hpl2⟩ := op_cells HP1.out hk2
         clear ho2 hk2 hb2)
      | (refine step_append (by rfl) _ _ _ (by rfl) (.slice (some ⟨w1.heap.size, 0, none⟩) 0 0) (.slice A l.length c) (by rfl) (by rfl) (Joined w1 p w1.heap.size ((w1.drew.alloc (.cells #[] 36)).alloc (.cells #[.int .u8 o.kind, .int .i64 o.i, .slice A1 o.b.length c1, .slice A2 o.tears.length c2] 36)) l) (join1 (Nat.le_of_lt HPL.out) H1.out H64.out (Nat.le_refl _) (alloc_old (heap_alloc_new _ _)) (((Keeps.refl No w1).drew.alloc _).alloc _)) ?_
         rintro v2 w2 ⟨ho2, hk2, hb2⟩
         have HO2 := Lib.hid ho2
         have HK2 := Lib.hid hk2
         have HX := Lib.hid (show w2.heap[w1.heap.size + 1]? = some (.cells #[.int .u8 o.kind, .int .i64 o.i, .slice A1 o.b.length c1, .slice A2 o.tears.length c2] 36 (0, 0)) from (hb2 _ (by simp) (by omega)).trans (alloc_new (by simp)))
         obtain ⟨y0, y1, y2, y3, hpl2⟩ := op_cells HP1.out hk2
         clear ho2 hk2 hb2)
      | (refine step_append (by rfl) _ _ _ (by rfl) (.slice (some ⟨w1.heap.size + 1, 0, none⟩) 0 0) (.slice A l.length c) (by rfl) (by rfl) (Joined w1 p (w1.heap.size + 1) ((w1.drew.alloc (.cells #[.int .u8 o.kind, .int .i64 o.i, .slice A1 o.b.length c1, .slice A2 o.tears.length c2] 36)).alloc (.cells #[] 36)) l) (join1 (Nat.le_of_lt HPL.out) H1.out H64.out (Nat.le_succ _) (alloc_new (by simp)) (((Keeps.refl No w1).drew.alloc _).alloc _)) ?_
         rintro v2 w2 ⟨ho2, hk2, hb2⟩
         have HO2 := Lib.hid ho2
         have HK2 := Lib.hid hk2
         have HX := Lib.hid (show w2.heap[w1.heap.size]? = some (.cells #[.int .u8 o.kind, .int .i64 o.i, .slice A1 o.b.length c1, .slice A2 o.tears.length c2] 36 (0, 0)) from (hb2 _ (by simp; omega) (by omega)).trans (alloc_old (heap_alloc_new _ _)))
         obtain ⟨y0, y1, y2, y3, hpl2⟩ := op_cells HP1.out hk2
         clear ho2 hk2 hb2)
      | (refine step_append (by rfl) _ _ _ (by rfl) v2 (.slice (some ⟨w2.heap.size, 0, none⟩) 1 1) (by rfl) (by rfl) (fun v' w' => OpsAt w' (fun _ => True) v' (l ++ [o]) ∧ Keeps No w1 w') (join2 (Nat.le_of_lt HPL.out) (HO2.out.keeps ((Keeps.refl No w2).alloc _)) H64.out (heap_alloc_new w2 _) (HK2.out.alloc _) HV1.out) ?_
         rintro v3 w3 ⟨ho3, hk3⟩
         have HO3 := Lib.hid ho3
         have HK3 := Lib.hid hk3
         clear ho3 hk3)
      | (refine step_append (by rfl) _ _ _ (by rfl) v2 (.slice (some ⟨_, 0, none⟩) 1 1) (by rfl) (by rfl) (fun v' w' => OpsAt w' (fun _ => True) v' (l ++ [o]) ∧ Keeps No w1 w') (join2 (Nat.le_of_lt HPL.out) HO2.out H64.out HX.out HK2.out HV1.out) ?_
         rintro v3 w3 ⟨ho3, hk3⟩
         have HO3 := Lib.hid ho3
         have HK3 := Lib.hid hk3
         clear ho3 hk3)
      | (go_simp; go_at_call 12; refine (few_any w3 _ _ (l ++ [o]) HO3.out (by rw [List.length_append]; have := H64.out; unfold maxLen; simp; omega) HOKS.out).mono ?_; rintro e w' ⟨rfl, rfl⟩))
    all_goals
      go_wp2_with fail
      go_meet
      case rel => exact ⟨rfl, HK3.out⟩
  case rest =>
    obtain ⟨rfl, hkc⟩ := hcut
    obtain ⟨z0, z1, z2, z3, hpl⟩ := op_cells HP1.out hkc
    have H2 := Lib.hid (H1.out.keeps hkc (fun _ _ _ h => h))
    have HV2 := Lib.hid (HV1.out.keeps hkc (fun _ _ _ h => h))
    have HP2 := Lib.hid (show wc.heap[p]? = some (.cells #[.int .u8 o.kind, .int .i64 o.i, .slice A1 o.b.length c1, .slice A2 o.tears.length c2] 36 (0, 0)) from (hkc.block _ (lt_of_heap HP1.out) (fun h => h)).trans HP1.out)
    have HK2 := Lib.hid (HK1.out.trans hkc)
    have HPW := Lib.hid (show p ≤ wc.heap.size by omega)
    have HPS := Lib.hid hpl
    clear hkc H1 HV1 HP1 HK1
    cases hfew : few (l ++ [o])
    · clear hfew
      go_wp2_with fail
      go_ret
      exact ⟨rfl, HK2.out.all⟩
    have HFEW := Lib.hid (few_left hfew)
    have HT40 := Lib.hid (few_right hfew)
    clear hfew
    have hkk := HOO.out.1
    by_cases hkd : 2 < o.kind
    · go_wp2_with fail
      go_ret
      exact ⟨rfl, HK2.out.all⟩
    have HKD := Lib.hid (show o.kind ≤ 2 by omega)
    go_wp2_with fail
    refine (made_any wc p _ l H2.out HPW.out HFEW.out HOK.out).mono ?_
    rintro e w2 ⟨pd, rfl, Fd, hd2, hF2, hk2⟩
    have HD2 := Lib.hid hd2
    have HF2 := Lib.hid hF2
    have HK3 := Lib.hid (HK2.out.trans hk2)
    have HV3 := Lib.hid (HV2.out.keeps hk2 (fun _ _ _ h => h))
    have HP3 := Lib.hid ((hk2.block _ (lt_of_heap HP2.out) (fun h => h)).trans HP2.out)
    have HFIT := Lib.hid (made_fits HFEW.out HOK.out)
    have HN2 := Lib.hid hk2.size
    obtain ⟨sd, hsd⟩ : ∃ s, acts eight l = s := ⟨_, rfl⟩
    rw [hsd] at HD2 HFIT
    clear hd2 hF2 hk2 hsd z0 z1 z2 z3 hpl HP2 HV2 HK2 H2
    go_wp2_with fail
    refine (copy_any w2 pd Fd sd HD2.out HFIT.out.2.2.2.2.1 HFIT.out.2.2.2.2.2 (by have := HFIT.out.2.2.1; omega)).mono ?_
    rintro e w3 ⟨pc, rfl, hc3, hk3⟩
    obtain ⟨Fc, hFc⟩ : ∃ F, Grow No w2 w3 = F := ⟨_, rfl⟩
    have HAC := Lib.hid (show ∀ b, Fc b → w2.heap.size ≤ b by
      intro b hb
      rw [← hFc] at hb
      rcases hb with hb | hb
      · exact hb.elim
      · exact hb.1)
    rw [hFc] at hc3
    have HC3 := Lib.hid hc3
    have HD3 := Lib.hid (HD2.out.keeps hk3 (fun _ _ h => h))
    have HA3 := Lib.hid (show ∀ b, Fc b → ¬ Fd b from fun b hb hF => by have := HD2.out.there b hF; have := HAC.out b hb; omega)
    have HK4 := Lib.hid (HK3.out.trans hk3)
    have HV4 := Lib.hid (HV3.out.keeps hk3 (fun _ _ _ h => h))
    have HP4 := Lib.hid ((hk3.block _ (lt_of_heap HP3.out) (fun h => h)).trans HP3.out)
    have HN3 := Lib.hid (Nat.le_trans HN2.out hk3.size)
    have HN2' := Lib.hid HN2.out
    clear hc3 hk3 hFc HD2 HK3 HV3 HP3 HN2
    go_wp2_with fail
    refine (ops_any w3 pd Fd sd HD3.out).mono ?_
    rintro e w' ⟨rfl, rfl⟩
    have hwr : IntKind.i64.wrap ((sd.ops : Int) + 1) = (sd.ops : Int) + 1 := IntWalk.i64_in _ (by have := HFIT.out.1; omega)
    go_wp2_with fail
    refine (fail_any w3 pd Fd sd ((sd.ops : Int) + 1) HD3.out (by have := HFIT.out.1; omega) (by have := HFIT.out.2.2.2.1; omega) (by omega) (by have := HFIT.out.1; omega)).mono ?_
    rintro e w4 ⟨rfl, hd4, hk4⟩
    have HFN := Lib.hid (fail_next sd)
    have HFF := Lib.hid (fail_fits HFIT.out ((sd.ops : Int) + 1))
    obtain ⟨sF, hsF⟩ : ∃ s, sd.fail ((sd.ops : Int) + 1) = s := ⟨_, rfl⟩
    rw [hsF] at HFN HFF hd4
    obtain ⟨F4, hF4⟩ : ∃ F, Grow Fd w3 w4 = F := ⟨_, rfl⟩
    have HF4 := Lib.hid (from_grow (w' := w4) HF2.out HN3.out)
    have HA4 := Lib.hid (apart_grow (w' := w4) HA3.out HC3.out.there)
    rw [hF4] at hd4 HF4 HA4
    have HD4 := Lib.hid hd4
    have HC4 := Lib.hid (HC3.out.keeps hk4 (fun b hb => HA3.out b hb))
    have HK5 := Lib.hid (HK4.out.then hk4 (fun b hb => .inr (by have := HF2.out b hb; have := HPW.out; have := HPE.out; omega)))
    have HV5 := Lib.hid (HV4.out.keeps hk4 (fun b hb _ hF => by have := HF2.out b hF; have := HPW.out; unfold Lower at hb; omega))
    have HP5 := Lib.hid ((hk4.block _ (lt_of_heap HP4.out) (fun hF => by have := HF2.out _ hF; have := HPS.out; omega)).trans HP4.out)
    have HN4 := Lib.hid (Nat.le_trans HN3.out hk4.size)
    obtain ⟨y0, y1, y2, y3, ypl⟩ := op_cells HP5.out (Keeps.refl No w4)
    have HSA := Lib.hid (fails_said HFN.out.1 HOO.out.1 HKD.out)
    clear hd4 hk4 hsF hF4 HD3 HC3 HK4 HV4 HP4 HN3 HA3
    go_wp2_with fail
    refine (do_any w4 pd F4 (Lower p) sF o _ _ HD4.out HV5.out HOO.out (fun b hb => ⟨Nat.lt_of_lt_of_le hb (Nat.le_trans HPW.out HN4.out), fun hF => by have := HF4.out b hF; have := HPW.out; unfold Lower at hb; omega⟩) (fits_mono HFF.out (by omega)) (by have := HT40.out; omega)).mono ?_
    rintro e w5 ⟨v5, rfl, hv5, hd5, hk5⟩
    rw [HSA.out.1] at hv5 ⊢
    rw [HSA.out.2] at hd5
    obtain ⟨s5, hs5⟩ : ∃ s, sF.tick = s := ⟨_, rfl⟩
    rw [hs5] at HFN hd5
    obtain ⟨F5, hF5⟩ : ∃ F, Grow F4 w4 w5 = F := ⟨_, rfl⟩
    have HF5 := Lib.hid (from_grow (w' := w5) HF4.out HN4.out)
    have HA5 := Lib.hid (apart_grow (w' := w5) HA4.out HC4.out.there)
    rw [hF5] at hd5 HF5 HA5
    have HD5 := Lib.hid hd5
    have HC5 := Lib.hid (HC4.out.keeps hk5 (fun b hb => HA4.out b hb))
    have HK6 := Lib.hid (HK5.out.then hk5 (fun b hb => .inr (by have := HF4.out b hb; have := HPW.out; have := HPE.out; omega)))
    have HN5 := Lib.hid (Nat.le_trans HN4.out hk5.size)
    obtain ⟨A5, c5, rfl⟩ := Bys.form hv5
    have h50 : s5.ops = sd.ops + 1 := HFN.out.2.2.1
    have h51 : s5.wr = sd.wr := HFN.out.2.2.2
    have HLK := Lib.hid HFN.out.2.1
    have h52 : s5.cn ≤ 41 := by rw [← hs5]; exact HFF.out.2.2.1
    have hnd : sd.last.length ≤ 4096 := HFIT.out.2.2.2.2.1
    have hzd : sd.size ≤ 4096 := HFIT.out.2.2.2.2.2
    have hn5 : s5.last.length ≤ 4096 := by rw [HLK.out.1]; exact hnd
    have hz5 : s5.size ≤ 4096 := by rw [HLK.out.2.2]; exact hzd
    clear hv5 hd5 hk5 hF5 hs5 HD4 HC4 HK5 HV5 HP5 HN4 HA4 HF4 y0 y1 y2 y3 ypl HSA HFN
    simp only [List.length_nil]
    go_wp2_with fail
    refine (ops_any w5 pd F5 s5 HD5.out).mono ?_
    rintro e w' ⟨rfl, rfl⟩
    rw [h50]
    have hcs : ((sd.ops + 1 : Nat) : Int) = (sd.ops : Int) + 1 := by omega
    rw [hcs]
    go_wp2_with fail
    refine (writes_any w5 pd F5 s5 HD5.out).mono ?_
    rintro e w' ⟨rfl, rfl⟩
    rw [h51]
    go_wp2_with fail
    refine (writes_any w5 pc Fc sd HC5.out).mono ?_
    rintro e w' ⟨rfl, rfl⟩
    go_wp2_with fail
    refine (bytes_any w5 pd F5 s5 HD5.out hn5 hz5).mono ?_
    rintro e w6 ⟨v6, rfl, hv6, hk6⟩
    obtain ⟨fl, hfl⟩ : ∃ f, sd.last.flatten = f := ⟨_, rfl⟩
    have HFL := Lib.hid hfl
    have HFLEN := Lib.hid (show fl.length ≤ 100000000 by rw [← hfl]; exact flat_len HC5.out hnd hzd)
    rw [HLK.out.1, hfl] at hv6
    have HV6 := Lib.hid hv6
    obtain ⟨A6, c6, rfl⟩ := Bys.form hv6
    have HD6 := Lib.hid (HD5.out.keeps hk6 (fun _ _ h => h))
    have HC6 := Lib.hid (HC5.out.keeps hk6 (fun _ _ h => h))
    have HK7 := Lib.hid (HK6.out.trans hk6)
    have HN6 := Lib.hid (Nat.le_trans HN5.out hk6.size)
    clear hv6 hk6 hfl HD5 HC5 HK6 HN5
    go_wp2_with fail
    refine (bytes_any w6 pc Fc sd HC6.out hnd hzd).mono ?_
    rintro e w7 ⟨v7, rfl, hv7, hk7⟩
    rw [HFL.out] at hv7
    have HV7 := Lib.hid hv7
    obtain ⟨A7, c7, rfl⟩ := Bys.form hv7
    have HV6' := Lib.hid (HV6.out.keeps hk7 (fun _ _ h => h))
    have HD7 := Lib.hid (HD6.out.keeps hk7 (fun _ _ h => h))
    have HC7 := Lib.hid (HC6.out.keeps hk7 (fun _ _ h => h))
    have HK8 := Lib.hid (HK7.out.trans hk7)
    have HN7 := Lib.hid (Nat.le_trans HN6.out hk7.size)
    clear hv7 hk7 HD6 HC6 HK7 HN6 HV6
    go_wp2_with fail
    refine (same_any w7 _ _ _ _ fl fl HV6'.out.bys HV7.out.bys HFLEN.out HFLEN.out).mono ?_
    rintro e w8 ⟨rfl, n8, rfl⟩
    have htr : decide (fl = fl) = true := by simp
    rw [htr]
    clear htr
    obtain ⟨w8, hw8⟩ : ∃ x, w7.drewN n8 = x := ⟨_, rfl⟩
    have hk8 : Keeps No w7 w8 := by rw [← hw8]; exact (Keeps.refl No w7).drewN n8
    rw [hw8]
    have HD8 := Lib.hid (HD7.out.keeps hk8 (fun _ _ h => h))
    have HC8 := Lib.hid (HC7.out.keeps hk8 (fun _ _ h => h))
    have HK9 := Lib.hid (HK8.out.trans hk8)
    have HN8 := Lib.hid (Nat.le_trans HN7.out hk8.size)
    clear hw8 hk8 HD7 HC7 HK8 HN7 HV6' HV7
    obtain ⟨uk, huk⟩ : ∃ u, sd.uns = u := ⟨_, rfl⟩
    have HUK := Lib.hid huk
    have HULEN := Lib.hid (show uk.length ≤ 100000000 by rw [← huk]; exact uns_len sd hnd)
    clear huk
    go_wp2_with fail
    refine (uns_any w8 pd F5 s5 HD8.out (by omega)).mono ?_
    rintro e w9 ⟨v9, rfl, hv9, hk9⟩
    rw [HLK.out.uns, HUK.out] at hv9
    have HV9 := Lib.hid hv9
    obtain ⟨A9, c9, rfl⟩ : ∃ A c, v9 = .slice A uk.length c := (by obtain ⟨A, c, e, _⟩ := hv9; exact ⟨A, c, e⟩)
    have HD9 := Lib.hid (HD8.out.keeps hk9 (fun _ _ h => h))
    have HC9 := Lib.hid (HC8.out.keeps hk9 (fun _ _ h => h))
    have HK10 := Lib.hid (HK9.out.trans hk9)
    have HN9 := Lib.hid (Nat.le_trans HN8.out hk9.size)
    clear hv9 hk9 HD8 HC8 HK9 HN8
    go_wp2_with fail
    refine (uns_any w9 pc Fc sd HC9.out (by have := HFIT.out.2.2.1; omega)).mono ?_
    rintro e w10 ⟨v10, rfl, hv10, hk10⟩
    rw [HUK.out] at hv10
    have HV10 := Lib.hid hv10
    obtain ⟨A10, c10, rfl⟩ : ∃ A c, v10 = .slice A uk.length c := (by obtain ⟨A, c, e, _⟩ := hv10; exact ⟨A, c, e⟩)
    have HV9' := Lib.hid (HV9.out.keeps hk10 (fun _ _ _ h => h))
    have HD10 := Lib.hid (HD9.out.keeps hk10 (fun _ _ h => h))
    have HC10 := Lib.hid (HC9.out.keeps hk10 (fun _ _ h => h))
    have HK11 := Lib.hid (HK10.out.trans hk10)
    have HN10 := Lib.hid (Nat.le_trans HN9.out hk10.size)
    clear hv10 hk10 HD9 HC9 HK10 HN9 HV9
    go_wp2_with fail
    refine (ints_any w10 _ _ _ _ uk uk HV9'.out HV10.out HULEN.out HULEN.out).mono ?_
    rintro e w11 ⟨rfl, n11, rfl⟩
    have htr : decide (uk = uk) = true := by simp
    rw [htr]
    clear htr
    obtain ⟨w11, hw11⟩ : ∃ x, w10.drewN n11 = x := ⟨_, rfl⟩
    have hk11 : Keeps No w10 w11 := by rw [← hw11]; exact (Keeps.refl No w10).drewN n11
    rw [hw11]
    have HD11 := Lib.hid (HD10.out.keeps hk11 (fun _ _ h => h))
    have HC11 := Lib.hid (HC10.out.keeps hk11 (fun _ _ h => h))
    have HK12 := Lib.hid (HK11.out.trans hk11)
    have HN11 := Lib.hid (Nat.le_trans HN10.out hk11.size)
    clear hw11 hk11 HD10 HC10 HK11 HN10 HV9' HV10
    have hwa : Keeps No w11 (w11.alloc (.cells #[.int .i64 1, .slice none 0 0, .int .i64 1, .slice none 0 0, .int .i64 1, .slice none 0 0, .int .i64 1, .slice none 0 0, .int .i64 1, .slice none 0 0, .int .i64 1, .slice none 0 0, .int .i64 1, .slice none 0 0, .int .i64 1, .slice none 0 0] 59)) := (Keeps.refl No w11).alloc _
    have HTE := Lib.hid (tears_eight w11)
    obtain ⟨w12, hw12⟩ : ∃ x, w11.alloc (.cells #[.int .i64 1, .slice none 0 0, .int .i64 1, .slice none 0 0, .int .i64 1, .slice none 0 0, .int .i64 1, .slice none 0 0, .int .i64 1, .slice none 0 0, .int .i64 1, .slice none 0 0, .int .i64 1, .slice none 0 0, .int .i64 1, .slice none 0 0] 59) = x := ⟨_, rfl⟩
    rw [hw12] at hwa HTE
    have HD12 := Lib.hid (HD11.out.keeps hwa (fun _ _ h => h))
    have HC12 := Lib.hid (HC11.out.keeps hwa (fun _ _ h => h))
    have HK13 := Lib.hid (HK12.out.trans hwa)
    have HN12 := Lib.hid (Nat.le_trans HN11.out hwa.size)
    have HL12 := Lib.hid (show w11.heap.size < w12.heap.size by rw [← hw12]; simp)
    clear hwa
    go_wp2_with fail
    clear hw12
    refine (crash_any w12 pd F5 (fun b => b = w11.heap.size) s5 _ eightNew HD12.out HTE.out (fun b hb => ⟨by have := HL12.out; omega, fun hF => by have := HD11.out.there b hF; omega⟩) (by omega) hn5 hz5 (by decide)).mono ?_
    rintro e w13 ⟨rfl, hd13, hk13⟩
    obtain ⟨F13, hF13⟩ : ∃ F, Grow F5 w12 w13 = F := ⟨_, rfl⟩
    have HF13 := Lib.hid (from_grow (w' := w13) HF5.out HN12.out)
    have HA13 := Lib.hid (apart_grow (w' := w13) HA5.out HC12.out.there)
    rw [hF13] at hd13 HF13 HA13
    have HD13 := Lib.hid hd13
    have HC13 := Lib.hid (HC12.out.keeps hk13 (fun b hb => HA5.out b hb))
    have HK14 := Lib.hid (HK13.out.then hk13 (fun b hb => .inr (by have := HF5.out b hb; have := HPW.out; have := HPE.out; omega)))
    have HN13 := Lib.hid (Nat.le_trans HN12.out hk13.size)
    clear hd13 hk13 hF13 HD12 HC12 HK13 HN12 HTE HL12 HD11 HC11
    have hwb : Keeps No w13 (w13.alloc (.cells #[.int .i64 1, .slice none 0 0, .int .i64 1, .slice none 0 0, .int .i64 1, .slice none 0 0, .int .i64 1, .slice none 0 0, .int .i64 1, .slice none 0 0, .int .i64 1, .slice none 0 0, .int .i64 1, .slice none 0 0, .int .i64 1, .slice none 0 0] 59)) := (Keeps.refl No w13).alloc _
    have HTE := Lib.hid (tears_eight w13)
    obtain ⟨w14, hw14⟩ : ∃ x, w13.alloc (.cells #[.int .i64 1, .slice none 0 0, .int .i64 1, .slice none 0 0, .int .i64 1, .slice none 0 0, .int .i64 1, .slice none 0 0, .int .i64 1, .slice none 0 0, .int .i64 1, .slice none 0 0, .int .i64 1, .slice none 0 0, .int .i64 1, .slice none 0 0] 59) = x := ⟨_, rfl⟩
    rw [hw14] at hwb HTE
    have HD14 := Lib.hid (HD13.out.keeps hwb (fun _ _ h => h))
    have HC14 := Lib.hid (HC13.out.keeps hwb (fun _ _ h => h))
    have HK15 := Lib.hid (HK14.out.trans hwb)
    have HL14 := Lib.hid (show w13.heap.size < w14.heap.size by rw [← hw14]; simp)
    clear hwb
    go_wp2_with fail
    clear hw14
    refine (crash_any w14 pc Fc (fun b => b = w13.heap.size) sd _ eightNew HC14.out HTE.out (fun b hb => ⟨by have := HL14.out; omega, fun hF => by have := HC13.out.there b hF; omega⟩) (by have := HFIT.out.2.2.1; omega) hnd hzd (by decide)).mono ?_
    rintro e w15 ⟨rfl, hd15, hk15⟩
    have HC15 := Lib.hid hd15
    have HD15 := Lib.hid (HD14.out.keeps hk15 (fun b hb hF => HA13.out b hF hb))
    have HK16 := Lib.hid (HK15.out.then hk15 (fun b hb => .inr (by have := HAC.out b hb; have := HPW.out; have := HPE.out; have := HN2'.out; omega)))
    have HLC := Lib.hid (HLK.out.crash eightNew)
    have hal := crashL_alike sd.uns sd eightNew
    obtain ⟨sc, hsc⟩ : ∃ s, sd.crash eightNew = s := ⟨_, rfl⟩
    obtain ⟨se, hse⟩ : ∃ s, s5.crash eightNew = s := ⟨_, rfl⟩
    have hal' : Alike sd sc := by rw [← hsc]; exact hal
    rw [hsc, hse] at HLC
    rw [hsc] at HC15
    rw [hse] at HD15
    have hnc : sc.last.length ≤ 4096 := by rw [hal'.2.1]; exact hnd
    have hzc : sc.size ≤ 4096 := by rw [hal'.1]; exact hzd
    have hne : se.last.length ≤ 4096 := by rw [HLC.out.1]; exact hnc
    have hze : se.size ≤ 4096 := by rw [HLC.out.2.2]; exact hzc
    obtain ⟨fm, hfm⟩ : ∃ f, sc.last.flatten = f := ⟨_, rfl⟩
    have HFM := Lib.hid hfm
    have HFMLEN := Lib.hid (show fm.length ≤ 100000000 by rw [← hfm]; exact flat_len HC15.out hnc hzc)
    clear hd15 hk15 HD14 HC14 HK15 HTE HL14 hal hal' hsc hse hfm HD13 HC13
    go_wp2_with fail
    refine (bytes_any w15 pd F13 se HD15.out hne hze).mono ?_
    rintro e w16 ⟨v16, rfl, hv16, hk16⟩
    rw [HLC.out.1, HFM.out] at hv16
    have HV16 := Lib.hid hv16
    obtain ⟨A16, c16, rfl⟩ := Bys.form hv16
    have HC16 := Lib.hid (HC15.out.keeps hk16 (fun _ _ h => h))
    have HK17 := Lib.hid (HK16.out.trans hk16)
    clear hv16 hk16 HC15 HD15 HK16
    go_wp2_with fail
    refine (bytes_any w16 pc _ sc HC16.out hnc hzc).mono ?_
    rintro e w17 ⟨v17, rfl, hv17, hk17⟩
    rw [HFM.out] at hv17
    have HV17 := Lib.hid hv17
    obtain ⟨A17, c17, rfl⟩ := Bys.form hv17
    have HV16' := Lib.hid (HV16.out.keeps hk17 (fun _ _ h => h))
    have HK18 := Lib.hid (HK17.out.trans hk17)
    clear hv17 hk17 HV16
    go_wp2_with fail
    refine (same_any w17 _ _ _ _ fm fm HV16'.out.bys HV17.out.bys HFMLEN.out HFMLEN.out).mono ?_
    rintro e w18 ⟨rfl, n18, rfl⟩
    have htr : decide (fm = fm) = true := by simp
    rw [htr]
    have HK19 := Lib.hid (HK18.out.drewN n18)
    go_wp2_with fail
    go_ret
    exact ⟨rfl, HK19.out.all⟩
end Go.Proofs.Ytconholnjhjhcaa
