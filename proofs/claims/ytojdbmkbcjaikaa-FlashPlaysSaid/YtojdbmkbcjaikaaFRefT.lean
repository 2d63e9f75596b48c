/-
  WHAT WAITS, DONE, AS THE DOCUMENT HAS IT; THE WALKS OF THE DOCUMENT's New, (*Chip).Tick, Cut.
-/
import Derived.Test.YtojdbmkbcjaikaaFRefR
import Derived.Test.YtojdbmkbcjaikaaFRefC
import Derived.Test.YtojdbmkbcjaikaaFVals
import Derived.Test.YtojdbmkbcjaikaaFGet
import Derived.Deep.DeepCutAuto
namespace Go.Proofs.Ytojdbmkbcjaikaa
open Go.RowKit
set_option maxRecDepth 20000

theorem pairsL_const (l : List Int) (c : Int) (xs : List (Int × Int)) (h : ∀ x ∈ xs, x.2 = c) (i : Nat) (hi : i < l.length) : (pairsL l xs).getD i 0 = if (i : Int) ∈ xs.map (·.1) then c else l.getD i 0 := by
  induction xs using snoc_rec with
  | h0 => simp [pairsL]
  | h1 xs x ih =>
    rw [pairsL_snoc, putL_get _ _ _ _ (by rw [pairsL_len]; exact hi), ih fun y hy => h y (by simp [hy])]
    by_cases e : x.1 = i
    · rw [if_pos e, if_pos (by simp [← e]), h x (by simp)]
    · rw [if_neg e]
      have : ((i : Int) ∈ (xs ++ [x]).map (·.1)) ↔ ((i : Int) ∈ xs.map (·.1)) := by
        rw [List.map_append, List.mem_append]
        constructor
        · rintro (h1 | h1)
          · exact h1
          · simp at h1; exact absurd h1.symm e
        · exact .inl
      simp only [this]
theorem rowL_at' (a t : Int) (h0 : 0 ≤ a) (h1 : a ≤ 100000) (h2 : t ≤ 100000) (i : Nat) : (i : Int) ∈ rowL a t ↔ a ≤ (i : Int) ∧ (i : Int) < a + t := by
  constructor
  · intro h
    obtain ⟨j, hj, e⟩ := List.mem_map.1 h
    have := List.mem_range.1 hj
    omega
  · intro h
    refine List.mem_map.2 ⟨((i : Int) - a).toNat, List.mem_range.2 (by omega), ?_⟩
    omega
theorem done_range (s : Flash) (hk : s.wk = 2) (hf : 0 ≤ s.wf) (hm : 0 ≤ s.wm) (hx : s.wf + s.wm ≤ s.data.length) (hl : s.data.length ≤ 16384) : s.finish.data = cellsL s.data (rowL s.wf s.wm) (List.replicate s.wm.toNat 255) := by
  refine ext_getD (by rw [cellsL_len]; exact (Flash.doneTo_len _ _).symm) fun i hi => ?_
  have hi' : i < s.data.length := by
    have h := Flash.doneTo_len s s.wm.toNat
    have h2 : s.finish.data.length = s.data.length := h
    omega
  show (s.doneTo s.wm.toNat).getD i 0 = _
  rw [Flash.doneTo_get _ _ _ hi', cellsL_pairs, pairsL_const _ 255 _ (fun x hx => by
    have := (List.of_mem_zip hx).2
    exact List.eq_of_mem_replicate this) i hi']
  have hz : ((rowL s.wf s.wm).zip (List.replicate s.wm.toNat (255 : Int))).map (·.1) = rowL s.wf s.wm := List.map_fst_zip (by rw [rowL_len, List.length_replicate]; exact Nat.le_refl _)
  rw [hz]
  have hu : s.upd (s.data.getD i 0) = 255 := if_neg (by omega)
  rw [hu]
  have hiff := rowL_at' s.wf s.wm hf (by omega) (by omega) i
  by_cases h : s.wf ≤ (i : Int) ∧ (i : Int) < s.wf + s.wm
  · rw [if_pos (by omega), if_pos (hiff.2 h)]
  · rw [if_neg (by omega), if_neg (fun e => h (hiff.1 e))]
theorem done_prog (s : Flash) (hk : s.wk = 1) (hm : s.wm = 1) (hf : 0 ≤ s.wf) (hx : s.wf + 1 ≤ s.data.length) : s.finish.data = progL s.data s.wf s.wv := by
  have h := Flash.done_byte (s := s) hk hm s.wf.toNat (Int.toNat_of_nonneg hf).symm (by omega)
  rw [h]
  unfold progL
  rw [if_pos ⟨hf, by omega⟩]
set_option maxHeartbeats 1000000 in
theorem refNew_any (k : Nat) (A : Option Addr) (n c B : Nat) (bs : List Int) (w : World) (hl : Nums .u8 w B A n bs) (hB : B ≤ w.heap.size) (hk : 1 ≤ k ∧ k ≤ 64) (hn : n = 256 * k) :
    Calls Try.prog 14 #[.int .i64 k, .slice A n c] w fun e w' => ∃ q, e = .returned (.pointer (some ⟨q, 0, none⟩)) ∧ RefAt w.heap.size w' q (fresh bs) 0 ∧ Below w.heap.size w w' := by
  have HF := Lib.hid (show flashOf k = (n : Int) by unfold flashOf; rw [if_pos (by omega)]; omega)
  have h1 : ((n : Int) != (n : Int)) = false := by simp
  have hlo : decide ((k : Int) < 1) = false := decide_eq_false (by omega)
  have hhi : decide (64 < (k : Int)) = false := decide_eq_false (by omega)
  have HL := Lib.hid hl
  have hlen : bs.length = n := hl.1
  have HK := Lib.hid (show (k : Int) = (bs.length : Int) / 256 by rw [hlen]; omega)
  obtain ⟨v', w', hrun, ho, hb⟩ := append_any elemB (w.alloc (.cells #[] 5)) w.heap.size 22 (.slice (some ⟨w.heap.size, 0, none⟩) 0 0) [] (own_empty .u8 5 _ w (Nat.le_refl _)) A n c B bs (hl.below ((below_box w _).mono hB)) (by simp; omega) (by simp)
  obtain ⟨A2, c2, rfl⟩ := ho.form
  rw [List.nil_append] at hrun ho
  have HO := Lib.hid ho
  have HRUN := Lib.hid hrun
  have HBB := Lib.hid ((below_box w (.cells #[] 5)).trans hb)
  clear hl hk hrun ho hb hn hlen
  go_enter Try.func14, Try.ntmps14
  go_wp2_with fail
  refine (refFlash_any k w).mono ?_
  rintro e w1 ⟨rfl, rfl⟩
  rw [HF.out]
  go_wp2_with (at_builtin; refine Lib.wpList_append_run _ rfl _ _ _ _ rfl _ _ rfl rfl _ _ HRUN.out ?_)
  go_ret
  have hbx := below_box w' (.cells (refCells (.slice A2 bs.length c2) (.slice none 0 0) (fresh bs) 0) 41)
  have hcs : (#[.int .i64 (k : Int), .slice A2 bs.length c2, .slice none 0 0, .bool false, .int .i64 0, .int .i64 0, .int .i64 0, .int .i64 0, .int .u8 0, .int .i64 0] : Array Value) = refCells (.slice A2 bs.length c2) (.slice none 0 0) (fresh bs) 0 := by
    rw [HK.out]
    simp [refCells, fresh]
  refine ⟨w'.heap.size, rfl, ?_, ?_⟩
  · rw [hcs]
    exact ⟨_, _, [], 0, { blk := Blk.new w' _ _, data := HO.out.below hbx, seq := OwnM.nil _ _ _ _, low := HBB.out.size }, Nat.le_refl _, fun e => absurd e (by show ¬ (0 : Int) < 0; decide), rfl, fun _ h => by cases h⟩
  · rw [hcs]
    exact HBB.out.trans (hbx.mono HBB.out.size)
theorem OwnK.low {k : IntKind} {t base base' : Nat} {w : World} {v : Value} {l : List Int} (h : OwnK k t base w v l) (hb : base' ≤ base) : OwnK k t base' w v l := by
  refine ⟨h.1, ?_⟩
  rcases h.2 with h0 | ⟨g, cap, cur, h1, hg, r⟩
  · exact .inl h0
  · exact .inr ⟨g, cap, cur, h1, Nat.le_trans hb hg, r⟩
set_option maxRecDepth 100000 in
set_option maxHeartbeats 2000000 in
theorem refTick_any (N : Nat) (w : World) (q : Nat) (s : Flash) (m : Nat) (h : RefAt N w q s m) (hN : N ≤ w.heap.size) (hok : s.Ok) :
    Calls Try.prog 20 #[.pointer (some ⟨q, 0, none⟩)] w (RefDid N q s.tick m w) := by
  have HA := Lib.hid h
  obtain ⟨vd, vs, seq, rd, h1, hm, ht, hs, hp⟩ := h
  obtain ⟨Ad, cd, hvd⟩ := h1.data.form
  obtain ⟨As, cs, hvs⟩ := h1.seq.form
  subst hvd hvs
  have c9 := h1.blk.cell 9
  have f9 := h1.blk.frozen 9
  simp only [refCells, List.getElem?_toArray, List.getElem?_cons_zero, List.getElem?_cons_succ] at c9
  by_cases hl : s.left = 0
  · have HE := Lib.hid (show s.tick = s from if_pos hl)
    have hl' : (s.left == 0) = true := by simp [hl]
    clear h1 hm ht hs hp hok hl
    go_enter Try.func20, Try.ntmps20
    go_wp2_with fail
    go_end0
    rw [HE.out]
    exact ⟨rfl, HA.out, Keeps.refl _ _⟩
  · have hl' : (s.left == 0) = false := by simp [hl]
    have hlr := hok.left
    obtain ⟨hlr0, hlr1⟩ := hlr
    have hpos : 0 < s.left := by omega
    by_cases ho : s.left - 1 = 0
    · have HE := Lib.hid (show s.tick = ({ s with left := 0 } : Flash).finish by unfold Flash.tick; rw [if_neg hl, if_pos ho, ho])
      have hw := hok.works hpos
      have hlen := hok.len
      obtain ⟨h3, h4⟩ := h1.sets (s' := { s with left := 0 }) (vd' := .slice Ad s.data.length cd) (vs' := .slice As seq.length cs) (seq' := seq) (rd' := rd) [(9, .int .i64 0)] h1.data h1.seq (by simp [refCells])
      have hL : s.left = 1 := by omega
      have H3 := Lib.hid h3
      have H4 := Lib.hid h4
      have HM := Lib.hid hm
      have HS := Lib.hid hs
      have HP := Lib.hid hp
      have HV := Lib.hid hok.val
      have HBY := Lib.hid hok.byte
      have hlen2 := hlen.2
      obtain ⟨z, hz⟩ : ∃ z, s.data.length = z := ⟨_, rfl⟩
      have HZ := Lib.hid hz
      obtain ⟨sl, hsl⟩ : ∃ n, seq.length = n := ⟨_, rfl⟩
      rw [hL] at c9
      have HDR := Lib.hid (H3.out.data.nums_at (fun v hv => byte_wf (HBY.out v hv))).1
      obtain ⟨W, hW⟩ : ∃ W, w.setCell ⟨q, 9, none⟩ (.int .i64 0) = W := ⟨_, rfl⟩
      have HWE := Lib.hid hW
      have hNW : N ≤ W.heap.size := by rw [← hW]; simpa [World.setCell] using hN
      have HNW := Lib.hid hNW
      simp only [List.foldl_cons, List.foldl_nil] at H3 H4 HDR
      rw [hW] at H3 H4 HDR
      rw [hz] at H3 HDR hlen2
      rw [hsl] at H3
      have e1 := H3.out.blk.cell 1
      have g1 := H3.out.blk.frozen 1
      have e5 := H3.out.blk.cell 5
      have e6 := H3.out.blk.cell 6
      have e7 := H3.out.blk.cell 7
      have e8 := H3.out.blk.cell 8
      have e9 := H3.out.blk.cell 9
      simp only [refCells, List.getElem?_toArray, List.getElem?_cons_zero, List.getElem?_cons_succ] at e1 e5 e6 e7 e8 e9
      have hqW := H3.out.blk.lt
      have HFIN := Lib.hid (show ∀ (w2 w3 : World) (A2 : Option Addr) (c2 : Nat) (D2 : List Int), Below W.heap.size W w2 → OwnK .u8 5 W.heap.size w2 (.slice A2 z c2) D2 → s.tick.data = D2 → D2.length = z →
          ([(1, .slice A2 z c2), (5, .int .i64 0), (6, .int .i64 0), (7, .int .i64 0), (8, .int .u8 0)] : List (Nat × Value)).foldl (fun w x => w.setCell ⟨q, x.1, none⟩ x.2) w2 = w3 → RefWent N q s.tick m w w3 from fun w2 w3 A2 c2 D2 hb ho2 hd hl2 e => by
        subst e
        have hr2 := H3.out.below hb
        have hss : s.tick = { s with left := 0, data := D2, wk := 0, wf := 0, wm := 0, wv := 0 } := by
          rw [← hd, HE.out]
          rfl
        obtain ⟨h5, h6⟩ := hr2.sets (s' := s.tick) (vd' := .slice A2 z c2) (vs' := .slice As sl cs) (seq' := seq) (rd' := rd) [(1, .slice A2 z c2), (5, .int .i64 0), (6, .int .i64 0), (7, .int .i64 0), (8, .int .u8 0)] (by rw [hd]; exact ho2.low HNW.out) hr2.seq (by rw [hss]; simp [refCells, hl2, HZ.out])
        refine ⟨⟨_, _, _, _, h5, HM.out, fun e => absurd e (by rw [hss]; show ¬ (0 : Int) < 0; decide), ?_, HP.out⟩, H4.out.trans ((Keeps.of_below hb).no.trans h6)⟩
        rw [hss]
        exact HS.out)
      have HQC := Lib.hid (show ∀ w2, Below W.heap.size W w2 → w2.cell? ⟨q, 1, none⟩ = some (.slice Ad z cd) ∧ w2.frozen? ⟨q, 1, none⟩ = false ∧ w2.cell? ⟨q, 5, none⟩ = some (.int .i64 s.wk) ∧ w2.frozen? ⟨q, 5, none⟩ = false ∧ w2.cell? ⟨q, 6, none⟩ = some (.int .i64 s.wf) ∧ w2.frozen? ⟨q, 6, none⟩ = false ∧ w2.cell? ⟨q, 7, none⟩ = some (.int .i64 s.wm) ∧ w2.frozen? ⟨q, 7, none⟩ = false ∧ w2.cell? ⟨q, 8, none⟩ = some (.int .u8 s.wv) ∧ w2.frozen? ⟨q, 8, none⟩ = false from fun w2 hb => by
        have hr := (H3.out.below hb).blk
        exact ⟨by rw [hr.cell]; simp [refCells, HZ.out], hr.frozen 1, hr.cell 5, hr.frozen 5, hr.cell 6, hr.frozen 6, hr.cell 7, hr.frozen 7, hr.cell 8, hr.frozen 8⟩)
      clear h1 hm ht hs hp hok hl h3 h4 hpos ho hz hsl hW hNW hN hlen hL
      obtain ⟨hw1, hw2, hw3, hw4⟩ := hw
      by_cases hk : s.wk = 1
      · have HDN := Lib.hid (show s.tick.data = progL s.data s.wf s.wv by rw [HE.out]; exact done_prog { s with left := 0 } hk (by show s.wm = 1; omega) hw2 (by show s.wf + 1 ≤ s.data.length; omega))
        have HDL := Lib.hid (show (progL s.data s.wf s.wv).length = z by rw [progL_len]; exact HZ.out)
        have hk' : (s.wk == 1) = true := by simp [hk]
        clear hk hw1
        go_enter Try.func20, Try.ntmps20
        go_upto_region 3 with fail
        rw [HWE.out]
        clear c9 f9
        go_upto_region 4 with fail
        go_region_with (go_at_call 44; refine (refProgram_big Ad z cd W.heap.size s.wf s.wv s.data _ (HDR.out.below (below_drewN (Below.refl _ W) 1)) HV.out (Nat.le_refl _) (by omega)).mono ?_; rintro e w2 ⟨v2, rfl, h5, h6⟩; obtain ⟨A2, c2, rfl⟩ : ∃ A2 c2, v2 = .slice A2 z c2 := (by obtain ⟨A, c, e⟩ := h5.form; exact ⟨A, c, by rw [e, HDL.out]⟩); obtain ⟨m1, n1, m5, n5, m6, n6, m7, n7, m8, n8⟩ := HQC.out w2 ((below_drewN (Below.refl _ W) 1).trans h6))
        all_goals
          have HO5 := Lib.hid h5
          have HB6 := Lib.hid ((below_drewN (Below.refl _ W) 1).trans h6)
          clear h5 h6 e1 g1 e5 e6 e7 e8 e9
          go_wp2_with fail
          go_end0
          exact ⟨rfl, HFIN.out w2 _ A2 c2 _ HB6.out HO5.out HDN.out HDL.out rfl⟩
      · have hk2 : s.wk = 2 := by omega
        have hk' : (s.wk == 1) = false := by simp [hk]
        obtain ⟨n, hn⟩ : ∃ n : Nat, s.wm = n := ⟨s.wm.toNat, by omega⟩
        have HDN := Lib.hid (show s.tick.data = cellsL s.data (rowL s.wf (n : Int)) (List.replicate n 255) by
          rw [HE.out]
          have := done_range { s with left := 0 } hk2 hw2 (Int.le_of_lt hw3) hw4 (by show s.data.length ≤ 16384; rw [HZ.out]; omega)
          rw [this]
          show cellsL s.data (rowL s.wf s.wm) (List.replicate s.wm.toNat 255) = _
          rw [hn, Int.toNat_natCast])
        have HDL := Lib.hid (show (cellsL s.data (rowL s.wf (n : Int)) (List.replicate n 255)).length = z by rw [cellsL_len]; exact HZ.out)
        have hnz : n ≤ 16384 := by have := HZ.out; omega
        have HWF := Lib.hid (show -1099511627776 ≤ s.wf ∧ s.wf ≤ 1099511627776 by have := HZ.out; omega)
        have HWM := Lib.hid (show (n : Int) ≤ 9223372036854775807 by omega)
        have HWN := Lib.hid hn
        clear hk hw1 hk2 hw2 hw3 hw4
        go_enter Try.func20, Try.ntmps20
        go_upto_region 3 with fail
        rw [HWE.out]
        clear c9 f9 hn
        rw [HWN.out] at e7
        go_wp2_with fail
        go_loopw [2, 3] (fun v i wr => ∃ t : Nat, t ≤ n ∧ i = .int .i64 t ∧ OwnK .u8 5 W.heap.size wr v (List.replicate t 255) ∧ Below W.heap.size W wr) (fun _ i _ => n - (intOf i).toNat)
        case atStart => exact ⟨0, Nat.zero_le _, rfl, OwnK.nil _ _ _ _, Below.refl _ _⟩
        case round =>
          obtain ⟨t, htn, rfl, hown, hbel⟩ := hrel
          have HOW := Lib.hid hown
          have HBE := Lib.hid hbel
          obtain ⟨m1, n1, m5, n5, m6, n6, m7, n7, m8, n8⟩ := HQC.out wr hbel
          rw [HWN.out] at m7
          clear hown hbel
          by_cases hlt : t < n
          · have hlt' : (t : Int) < (n : Int) := by omega
            obtain ⟨v', w', hrun, ho', hb'⟩ := append_one elemB wr W.heap.size 22 _ _ HOW.out 255 (by decide) (by rw [List.length_replicate]; omega) HBE.out.size
            have R := Lib.hid (And.intro (show OwnK .u8 5 W.heap.size w' v' (List.replicate (t + 1) 255) by rw [List.replicate_succ']; exact ho') (HBE.out.trans hb'))
            have HRUN := Lib.hid hrun
            clear hrun ho' hb'
            go_wp2_with (at_builtin; refine Lib.wpList_append_run _ rfl _ _ _ _ rfl _ _ rfl rfl _ _ HRUN.out ?_)
            go_roundw
            case rel => exact ⟨t + 1, by omega, by go_num, R.out.1, R.out.2⟩
            case measure => simp [intOf]; omega
          · obtain rfl : t = n := by omega
            obtain ⟨Af, cf, rfl, hcf, hmf⟩ := HOW.out.mine
            rw [List.length_replicate] at hcf hmf ⊢
            have HNF := Lib.hid (hmf.nums fun v hv => by rw [List.eq_of_mem_replicate hv]; decide)
            have HDW := Lib.hid ((HDR.out.below HBE.out).mono HBE.out.size)
            clear hmf hcf
            go_upto_region 10 with fail
            go_region_with (go_at_call 45; refine (refRange_big Ad Af z cd t cf wr.heap.size s.wf (t : Int) s.data (List.replicate t 255) _ (HDW.out.below (below_drewN (Below.refl _ wr) 1)) (HNF.out.below (below_drewN (Below.refl _ wr) 1)) (Nat.le_refl _) (by omega) (by omega) HWF.out HWM.out).mono ?_; rintro e w2 ⟨v2, rfl, h5, h6⟩; obtain ⟨A2, c2, rfl⟩ : ∃ A2 c2, v2 = .slice A2 z c2 := (by obtain ⟨A, c, e⟩ := h5.form; exact ⟨A, c, by rw [e, HDL.out]⟩); obtain ⟨q1, p1, q5, p5, q6, p6, q7, p7, q8, p8⟩ := HQC.out w2 (HBE.out.trans (((below_drewN (Below.refl _ wr) 1).trans h6).mono HBE.out.size)))
            all_goals
              have HO5 := Lib.hid (h5.low (base' := W.heap.size) HBE.out.size)
              have HB6 := Lib.hid (HBE.out.trans (((below_drewN (Below.refl _ wr) 1).trans h6).mono HBE.out.size))
              clear h5 h6 e1 g1 e5 e6 e7 e8 e9 m1 n1 m5 n5 m6 n6 m7 n7 m8 n8
              go_wp2_with fail
              go_end0
              exact ⟨rfl, HFIN.out w2 _ A2 c2 _ HB6.out HO5.out HDN.out HDL.out rfl⟩
    · have HE := Lib.hid (show s.tick = { s with left := s.left - 1 } by unfold Flash.tick; rw [if_neg hl, if_neg ho])
      have ho' : 0 < s.left - 1 := by omega
      obtain ⟨h3, h4⟩ := h1.sets (s' := { s with left := s.left - 1 }) (vd' := .slice Ad s.data.length cd) (vs' := .slice As seq.length cs) (seq' := seq) (rd' := rd) [(9, .int .i64 (s.left - 1))] h1.data h1.seq (by simp [refCells])
      have H3 := Lib.hid (show RefWent N q { s with left := s.left - 1 } m w _ from ⟨⟨_, _, _, _, h3, hm, fun _ => ht hpos, hs, hp⟩, h4⟩)
      clear h1 hm ht hs hp hok hl ho h3 h4
      go_enter Try.func20, Try.ntmps20
      go_wp2_with fail
      go_end0
      rw [HE.out]
      exact ⟨rfl, H3.out⟩
end Go.Proofs.Ytojdbmkbcjaikaa
