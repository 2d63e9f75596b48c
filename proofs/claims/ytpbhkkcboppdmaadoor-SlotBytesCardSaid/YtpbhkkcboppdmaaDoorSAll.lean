/-
  THE WALK OF keepsakeref06.can.
  MORE OF DISKS AS VALUES: Data alone, Seal alone, Wipe, Sync, Crash, and reads that may fail once.
  THE WALKS OF keepsakeref06.Few AND OF keepsakelaw06.fresh.
  WHAT SlotBack DOES, of disks as values; blocks beside the disk.
  THE WALK OF keepsakeref06.Read.
  THE WALKS OF keepsakeref06.Same AND OF SlotBytes.
-/
import Derived.Test.YtpbhkkcboppdmaaDoorSSpans
import Derived.Test.YtpbhkkcboppdmaaDoorDRefs
import Derived.Test.YtpbhkkcboppdmaaDoorHRefs
import Derived.Test.YtpbhkkcboppdmaaDoorSAwake
import Derived.Test.YtpbhkkcboppdmaaDoorDCrash
import Derived.Test.YtpbhkkcboppdmaaDoorDFail
namespace Go.Proofs.YtpbhkkcboppdmaaDoor
open Ks Go.RowKit
set_option maxRecDepth 20000

theorem _root_.Ks.RefAt.below_ {w w' : World} {q : Nat} {F : Nat → Prop} {r : RS} (h : RefAt w q F r) (hb : Below w.heap.size w w') : RefAt w' q F r := h.keeps (Keeps.of_below hb) (fun _ _ h => h)
/-- a reference's disk in memory: its size, and its row of sectors -/
theorem ref_cells {w : World} {q : Nat} {F : Nat → Prop} {r : RS} (h : RefAt w q F r) : w.cell? ⟨q, 0, none⟩ = some (.int .i64 r.size) ∧ ∃ A c, w.cell? ⟨q, 1, none⟩ = some (.slice A r.last.length c) := by
  obtain ⟨lastV, lv, cachV, cv, planV, h⟩ := h
  obtain ⟨A, c, rfl⟩ := Dsk.row_slice h.row
  exact ⟨h.c0, A, c, h.c1⟩
theorem ref_in {W : World} {q : Nat} {F : Nat → Prop} {r : RS} (h : RefAt W q F r) (p : Regrown) : RefAt (In W p) q F r := h.below_ (in_below W p)
theorem can_any (w : World) (q : Nat) (F : Nat → Prop) (s : St) (r : RS) (which a b c er z len : Int) (hT : Tab w) (h : RefAt w q F r) (hz : (s.size : Int) = z) (hlen : (s.last.length : Int) = len) (hrz : (r.size : Int) = z) (hrl : (r.last.length : Int) = len) (hz1 : z ≤ 4096) (her : findErr s which a b c = er) :
    Calls Tryd.prog 43 #[.pointer (some ⟨q, 0, none⟩), .int .i64 which, geoV a b c] w fun e w' => e = .returned (.int .i64 er) ∧ Below w.heap.size w w' := by
  obtain ⟨g0, g1, g2⟩ := boxed w (.int .i64 a) (.int .i64 b) (.int .i64 c) 23
  have HGE := Lib.hid (And.intro g0 (And.intro g1 g2))
  have HB := Lib.hid (below_box w (.cells #[.int .i64 a, .int .i64 b, .int .i64 c] 23))
  have HT := Lib.hid (tab_below hT HB.out (tab_pos hT))
  have HR := Lib.hid (h.below_ HB.out)
  have HER := Lib.hid (show (if right a b c = false then (9 : Int) else if which < 0 ∨ 1 < which ∨ z < 32 then 1 else if len < 2 * spanOf z a b c then 4 else 0) = er by
    rw [← her]; unfold findErr; rw [hlen, hz]
    by_cases hrr : right a b c = false
    · rw [if_pos hrr, if_pos hrr]
    · rw [if_neg hrr, if_neg hrr]
      by_cases hc : which < 0 ∨ 1 < which ∨ z < 32
      · rw [if_pos hc, if_pos (show which < 0 ∨ 1 < which ∨ s.size < 32 by omega)]
      · rw [if_neg hc, if_neg (show ¬ (which < 0 ∨ 1 < which ∨ s.size < 32) by omega)])
  obtain ⟨x, hx⟩ : ∃ x, right a b c = x := ⟨_, rfl⟩
  have HX := Lib.hid hx
  obtain ⟨sp, hsp⟩ : ∃ sp, spanOf z a b c = sp := ⟨_, rfl⟩
  have hsb := spanOf_bounds z a b c
  rw [hsp] at hsb
  obtain ⟨sb0, sb1⟩ := hsb
  have HSP := Lib.hid hsp
  have HRZ := Lib.hid (And.intro hrz hrl)
  clear hT h hz hlen hrz hrl her hx hsp g0 g1 g2
  go_enter Tryd.func43, Tryd.ntmps43
  go_wp2_with fail
  generalize w.alloc (.cells #[.int .i64 a, .int .i64 b, .int .i64 c] 23) = W at *
  obtain ⟨g0, g1, g2⟩ := HGE.out
  go_wp2_with fail
  refine (refRight_any a b c x _ _ (On.start HT.out) HX.out).mono ?_
  rintro e w1 ⟨rfl, hw1⟩
  have HB1 := Lib.hid (HB.out.trans (hw1.bel.mono HB.out.size))
  have HR1 := Lib.hid (HR.out.below_ hw1.bel)
  have HT1 := Lib.hid hw1.tab
  have HG1 := Lib.hid (geo_below HGE.out hw1.bel)
  clear hw1 g0 g1 g2
  cases x
  · have HE := Lib.hid (show er = 9 by rw [← HER.out, HX.out, if_pos rfl])
    go_wp2_with fail
    go_ret
    exact ⟨ret_int HE.out.symm, HB1.out⟩
  have HER2 := Lib.hid (show (if which < 0 ∨ 1 < which ∨ z < 32 then (1 : Int) else if len < 2 * sp then 4 else 0) = er by rw [← HER.out, HX.out, if_neg (show ¬ true = false by decide), HSP.out])
  clear HER
  obtain ⟨c0, A, cc, c1⟩ := ref_cells HR1.out
  rw [HRZ.out.1] at c0
  by_cases hw0 : which = 0 ∨ which = 1
  rotate_left
  · have n0 : (which != 0) = true := by simp; omega
    have n1 : (which != 1) = true := by simp; omega
    have HE := Lib.hid (show er = 1 by rw [← HER2.out, if_pos (by omega)])
    go_wp2_with fail
    go_ret
    exact ⟨ret_int HE.out.symm, HB1.out⟩
  by_cases hz32 : z < 32
  · have HE := Lib.hid (show er = 1 by rw [← HER2.out, if_pos (by omega)])
    rcases hw0 with rfl | rfl
    · go_wp2_with fail
      go_ret
      exact ⟨ret_int HE.out.symm, HB1.out⟩
    · go_wp2_with fail
      go_ret
      exact ⟨ret_int HE.out.symm, HB1.out⟩
  have hz32' : decide (z < 32) = false := by simpa using hz32
  have HE := Lib.hid (show er = if len < 2 * sp then 4 else 0 by rw [← HER2.out, if_neg (by omega)])
  have HLN := Lib.hid (show (r.last.length : Int) = len from HRZ.out.2)
  obtain ⟨ln, hln⟩ : ∃ ln, r.last.length = ln := ⟨_, rfl⟩
  rw [hln] at c1 HLN
  clear HER2 hln
  rcases hw0 with rfl | rfl
  all_goals
    go_wp2_with fail
    have r0 := fun d os => cell_regrown c0 d os
    have r1 := fun d os => cell_regrown c1 d os
    have r2 := fun d os => cell_regrown HG1.out.1 d os
    have r3 := fun d os => cell_regrown HG1.out.2.1 d os
    have r4 := fun d os => cell_regrown HG1.out.2.2 d os
    refine wp_region_quiet_below (by kernel_rfl) (by kernel_rfl) ?_
    iterate 10 go_big_quiet_step (fail)
    go_big_quiet_step ((refine refSpan_in w1 _ z a b c sp HT1.out HSP.out))
    repeat (go_big_quiet_step (fail))
    refine wpQuiet_nil ?_
    rintro w' ⟨qq, rfl⟩
    have HQ := Lib.hid (HB1.out.trans ((in_below w1 qq).mono HB1.out.size))
    clear r0 r1 r2 r3 r4 c0 c1
    by_cases hf : len < 2 * sp
    · have hf' : (ln : Int) < 2 * sp := by have := HLN.out; omega
      have HE2 := Lib.hid (show er = 4 by rw [HE.out, if_pos hf])
      go_wp2_with fail
      go_ret
      exact ⟨ret_int HE2.out.symm, HQ.out⟩
    · have hf' : ¬ (ln : Int) < 2 * sp := by have := HLN.out; omega
      have HE2 := Lib.hid (show er = 0 by rw [HE.out, if_neg hf])
      go_wp2_with fail
      go_ret
      exact ⟨ret_int HE2.out.symm, HQ.out⟩
end Go.Proofs.YtpbhkkcboppdmaaDoor
namespace Go.Proofs.YtpbhkkcboppdmaaDoor
open Ks Go.RowKit
set_option maxRecDepth 20000

/-- where a call that may be made lies -/
theorem forErr_place {s : St} {which a b c : Int} {n z : Nat} (hz : s.size = z) (hz2 : z ≤ 4096) (he : forErr s which a b c n = 0) : 0 ≤ which * spanOf z a b c ∧ which * spanOf z a b c + 1 + (many n z : Nat) ≤ s.last.length := by
  obtain ⟨q1, q2, q3, q4, q5, q6, q7⟩ := forErr_ok he
  rw [hz] at q5 q6
  have hsp := span_eq q3 q5 hz2 q2
  rcases q7 with rfl | rfl <;> omega
/-- Data alone -/
theorem put_has {s : St} (hf : NoFail s) {which a b c : Int} {l : List Int} {z : Nat} (hz : s.size = z) (hz2 : z ≤ 4096) (he : forErr s which a b c l.length = 0) :
    ∃ s1, put_ s which a b c l = (s1, 0) ∧ Stored s s1 (which * spanOf z a b c + 1) (secs l z) (many l.length z) := by
  obtain ⟨q1, q2, q3, q4, q5, q6, q7⟩ := forErr_ok he
  rw [hz] at q5 q6
  have hp := forErr_place hz hz2 he
  have hb := many_bounds l.length z (by omega) hz2
  have hX := fill_len' l (many l.length z * z) hb.1
  obtain ⟨e0, S1⟩ := stores_fine hf (which * spanOf z a b c + 1) (secs l z) (many l.length z) (by omega) (by omega) (fun k hk => by rw [hz]; exact cutL_piece_len _ _ _ _ hk hX)
  refine ⟨_, ?_, S1⟩
  unfold put_
  rw [if_neg (fun h => h he), hz]
  exact Prod.ext rfl e0
theorem Stored.imgs {s s1 : St} {first : Int} {l : List Int} {z : Nat} (h : Stored s s1 (first + 1) (secs l z) (many l.length z)) : ∀ k, k < many l.length z → view s1 (first + 1 + k) = (secs l z).getD k [] := by
  intro k hk
  unfold view
  rw [h.cach, if_pos (by omega)]
  simp only [Option.getD_some]
  congr 1
  omega
theorem Stored.head {s s1 : St} {first : Int} {L : List (List Int)} {t : Nat} (h : Stored s s1 (first + 1) L t) : view s1 first = view s first := by
  unfold view
  rw [h.cach, if_neg (by omega), h.last]
theorem padded_len {l : List Int} {z : Nat} (h : l.length ≤ z) : (padded l z).length = z := by
  unfold padded
  rw [List.length_append, List.length_replicate]
  omega
/-- Seal alone -/
theorem laid_fine {s : St} (hf : NoFail s) {which a b c q : Int} {l : List Int} {z : Nat} (hz : s.size = z) (hz2 : z ≤ 4096) (he : forErr s which a b c l.length = 0) :
    laid s which a b c q l = (s.put (which * spanOf z a b c) (padded (enc a b c l.length q (sumOf l)) z), 0) := by
  obtain ⟨q1, q2, q3, q4, q5, q6, q7⟩ := forErr_ok he
  rw [hz] at q5
  have hp := forErr_place hz hz2 he
  unfold laid
  rw [if_neg (fun h => h he), hz]
  exact write_fine hf _ _ hp.1 (by omega) (by rw [hz]; exact padded_len (by rw [enc_len]; omega))
theorem put_view (s : St) (i j : Int) (bs : List Int) : view (s.put i bs) j = if j = i then bs else view s j := by
  unfold view
  simp only [St.put, St.tick]
  split <;> rfl
theorem laid_Has {s : St} {first : Int} {X l : List Int} {z : Nat} (hi : ∀ k, k < many l.length z → view s (first + 1 + k) = (secs l z).getD k []) : Has (s.put first X) first X z l := by
  refine ⟨by rw [put_view, if_pos rfl], fun k hk => ?_⟩
  rw [put_view, if_neg (by omega), hi k hk]
/-- Wipe -/
theorem wiped_fine {s : St} (hf : NoFail s) {which a b c : Int} {z n : Nat} (hz : s.size = z) (hz2 : z ≤ 4096) (he : forErr s which a b c n = 0) : wiped s which a b c = (s.put (which * spanOf z a b c) (padded [] z), 0) := by
  have hp := forErr_place hz hz2 he
  unfold wiped
  rw [(forErr_ok he).1, if_neg (fun h => h rfl), hz]
  exact write_fine hf _ _ hp.1 (by omega) (by rw [hz]; exact padded_len (by simp))
/-- what is read keeps the disk -/
structure Alike (s s' : St) : Prop where
  size : s'.size = s.size
  last : s'.last = s.last
  cach : s'.cach = s.cach
theorem Alike.refl (s : St) : Alike s s := ⟨rfl, rfl, rfl⟩
theorem Alike.trans {s s' s'' : St} (h : Alike s s') (k : Alike s' s'') : Alike s s'' := ⟨k.size.trans h.size, k.last.trans h.last, k.cach.trans h.cach⟩
theorem Alike.tick (s : St) : Alike s s.tick := ⟨rfl, rfl, rfl⟩
theorem Alike.view {s s' : St} (h : Alike s s') (j : Int) : Proofs.YtpbhkkcboppdmaaDoor.view s' j = Proofs.YtpbhkkcboppdmaaDoor.view s j := by unfold Proofs.YtpbhkkcboppdmaaDoor.view; rw [h.cach, h.last]
theorem loads_alike (s : St) (i : Int) (k : Nat) : Alike s (loads s i k).1 := by
  induction k with
  | zero => exact Alike.refl s
  | succ k ih =>
    rw [loads]
    split
    · exact ih.trans (Alike.tick _)
    · exact ih
theorem loads_nofail {s : St} (h : NoFail s) (i : Int) (k : Nat) : NoFail (loads s i k).1 := by
  induction k with
  | zero => exact h
  | succ k ih =>
    rw [loads]
    split
    · exact ih.tick
    · exact ih
theorem sealed_fst (s : St) (i : Int) (n t : Nat) (q su : Int) : (sealedOf s i n t q su).1 = (loads s i n).1 := by
  unfold sealedOf
  split
  · rfl
  split <;> rfl
theorem readOf_fst (s : St) (which a b c : Int) : (readOf s which a b c).1 = s ∨ (readOf s which a b c).1 = s.tick ∨ ∃ i n, (readOf s which a b c).1 = (loads s.tick i n).1 := by
  unfold readOf headOf
  split
  · exact .inl rfl
  split
  · exact .inr (.inl rfl)
  split
  · exact .inr (.inl rfl)
  split
  · exact .inr (.inl rfl)
  · exact .inr (.inr ⟨_, _, sealed_fst _ _ _ _ _ _⟩)
theorem readOf_alike (s : St) (which a b c : Int) : Alike s (readOf s which a b c).1 := by
  rcases readOf_fst s which a b c with h | h | ⟨i, n, h⟩ <;> rw [h]
  · exact Alike.refl s
  · exact Alike.tick s
  · exact (Alike.tick s).trans (loads_alike _ _ _)
theorem readOf_nofail {s : St} (hf : NoFail s) (which a b c : Int) : NoFail (readOf s which a b c).1 := by
  rcases readOf_fst s which a b c with h | h | ⟨i, n, h⟩ <;> rw [h]
  · exact hf
  · exact hf.tick
  · exact loads_nofail hf.tick _ _
/-- a head's sector of zeros is no head -/
theorem dec_zeros {z : Nat} (h : 28 ≤ z) : decErr (List.replicate z 0) = 6 := by
  unfold decErr
  rw [if_neg (by rw [List.length_replicate]; omega), if_pos]
  unfold Ks.part
  rw [List.drop_zero, List.take_replicate, Nat.min_eq_left (by omega)]
  decide
theorem read_zeros {s : St} (hf : NoFail s) {which a b c : Int} {n z : Nat} (hz : s.size = z) (hz2 : z ≤ 4096) (he : forErr s which a b c n = 0) (hv : view s (which * spanOf z a b c) = List.replicate z 0) : (readOf s which a b c).2 = (⟨0, 6, 0, []⟩, 0) := by
  obtain ⟨q1, q2, q3, q4, q5, q6, q7⟩ := forErr_ok he
  rw [hz] at q5 q6
  have hp := forErr_place hz hz2 he
  unfold readOf
  rw [q1, if_neg (fun h => h rfl), hz, read_fine hf _ hp.1 (by omega), if_neg (fun h => h rfl), hv]
  show (headOf s.tick (List.replicate z 0) _ a b c).2 = _
  unfold headOf
  rw [dec_zeros (by omega), if_pos (by decide)]

/-- some sectors are as they were -/
structure Part (R : Int → Prop) (s s' : St) : Prop where
  size : s'.size = s.size
  len : s'.last.length = s.last.length
  cach : ∀ j, R j → s'.cach j = s.cach j
  last : ∀ j, R j → s'.last.getD j.toNat [] = s.last.getD j.toNat []
section
variable {R : Int → Prop} {s s' s'' : St}
theorem Part.refl (R : Int → Prop) (s : St) : Part R s s := ⟨rfl, rfl, fun _ _ => rfl, fun _ _ => rfl⟩
theorem Part.trans (h : Part R s s') (k : Part R s' s'') : Part R s s'' := ⟨k.size.trans h.size, k.len.trans h.len, fun j hj => (k.cach j hj).trans (h.cach j hj), fun j hj => (k.last j hj).trans (h.last j hj)⟩
theorem Part.tick (R : Int → Prop) (s : St) : Part R s s.tick := ⟨rfl, rfl, fun _ _ => rfl, fun _ _ => rfl⟩
theorem Part.put (s : St) (i : Int) (bs : List Int) (h : ¬ R i) : Part R s (s.put i bs) := by
  refine ⟨rfl, rfl, fun j hj => ?_, fun _ _ => rfl⟩
  have : j ≠ i := fun e => h (e ▸ hj)
  simp only [St.put, if_neg this]
theorem Part.write (s : St) (i : Int) (bs : List Int) (h : ¬ R i) : Part R s (s.write i bs).1 := by
  unfold St.write
  split
  · exact Part.tick R s
  split
  · exact Part.tick R s
  split
  · exact Part.tick R s
  split
  · exact Part.tick R s
  · exact Part.put s i bs h
theorem Part.stores (s : St) (i : Int) (L : List (List Int)) (t : Nat) (h : ∀ j, i ≤ j → j < i + t → ¬ R j) : Part R s (stores s i L t).1 := by
  induction t with
  | zero => exact Part.refl R s
  | succ t ih =>
    have hi := ih (fun j h1 h2 => h j h1 (by omega))
    rw [Proofs.YtpbhkkcboppdmaaDoor.stores]
    split
    · exact hi.trans (Part.write _ _ _ (h _ (by omega) (by omega)))
    · exact hi
theorem Part.view (h : Part R s s') (j : Int) (hj : R j) : view s' j = view s j := by
  unfold Proofs.YtpbhkkcboppdmaaDoor.view
  rw [h.cach j hj, h.last j hj]
theorem Part.settled (s : St) (i : Int) (bs : List Int) (h : ¬ R i) (h0 : 0 ≤ i) (hR : ∀ j, R j → 0 ≤ j) : Part R s (s.settled i bs) := by
  refine ⟨rfl, by simp [St.settled], fun j hj => ?_, fun j hj => ?_⟩
  · have : j ≠ i := fun e => h (e ▸ hj)
    simp only [St.settled, if_neg this]
  · have hne : i.toNat ≠ j.toNat := by
      have := hR j hj
      have hji : j ≠ i := fun e => h (e ▸ hj)
      omega
    simp only [St.settled, List.getD, List.getElem?_set_ne hne]
theorem Part.crashL (us : List Int) : ∀ (s : St) (ts : List (Int × List Int)), (∀ u ∈ us, ¬ R u ∧ 0 ≤ u) → (∀ j, R j → 0 ≤ j) → Part R s (Dsk.crashL s us ts) := by
  induction us with
  | nil => intro s ts _ _; exact Part.refl R s
  | cons i us ih =>
    intro s ts h hR
    have h1 := h i (List.mem_cons_self ..)
    exact (Part.settled s i _ h1.1 h1.2 hR).trans (ih _ _ (fun u hu => h u (List.mem_cons_of_mem _ hu)) hR)
/-- a crash leaves what isn't cached -/
theorem Part.crash (s : St) (ts : List (Int × List Int)) (h : ∀ j, R j → s.cach j = none) (hR : ∀ j, R j → 0 ≤ j) : Part R s (s.crash ts) := by
  refine Part.crashL s.uns s ts (fun u hu => ?_) hR
  have hm := (Dsk.mem_uns s u).1 hu
  refine ⟨fun hu => ?_, hm.1⟩
  have := hm.2.2
  rw [h u hu] at this
  cases this
end
/-- at most one operation is planned to fail -/
def One (s : St) : Prop := ∃ n, ∀ k, s.plan k = true → k = n
theorem One.tick {s : St} (h : One s) : One s.tick := by
  obtain ⟨n, h⟩ := h
  refine ⟨n, fun k hk => h k ?_⟩
  simp only [St.tick] at hk
  split at hk
  · cases hk
  · exact hk
theorem One.plan {s s' : St} (h : One s) (e : s'.plan = s.plan) : One s' := by
  obtain ⟨n, h⟩ := h
  exact ⟨n, fun k hk => h k (by rw [← e]; exact hk)⟩
theorem One.put {s : St} (h : One s) (i : Int) (bs : List Int) : One (s.put i bs) := h.tick.plan rfl
theorem One.write {s : St} (h : One s) (i : Int) (bs : List Int) : One (s.write i bs).1 := by
  unfold St.write
  split
  · exact h.tick
  split
  · exact h.tick
  split
  · exact h.tick
  split
  · exact h.tick
  · exact h.put i bs
theorem One.stores {s : St} (h : One s) (i : Int) (L : List (List Int)) (t : Nat) : One (stores s i L t).1 := by
  induction t with
  | zero => exact h
  | succ t ih =>
    rw [Proofs.YtpbhkkcboppdmaaDoor.stores]
    split
    · exact ih.write _ _
    · exact ih
theorem One.of_nofail {s : St} (h : NoFail s) : One s := ⟨0, fun k hk => by rw [h k] at hk; cases hk⟩
theorem One.fail {s : St} (h : NoFail s) (n : Int) : One (s.fail n) := by
  unfold St.fail
  split
  · exact One.of_nofail h
  · refine ⟨n, fun k hk => ?_⟩
    by_cases e : k = n
    · exact e
    · simp only [if_neg e, h k] at hk
      cases hk
theorem crashL_plan (us : List Int) : ∀ (s : St) (ts : List (Int × List Int)), (Dsk.crashL s us ts).plan = s.plan := by
  induction us with
  | nil => intro s ts; rfl
  | cons i us ih => intro s ts; exact ih _ _
/-- what fails was the one that was planned -/
theorem One.fails {s : St} (h : One s) (hf : s.fails = true) : NoFail s.tick := by
  obtain ⟨n, h⟩ := h
  have e := h _ hf
  intro k
  simp only [St.tick]
  split
  · rfl
  · rename_i hk
    cases hp : s.plan k
    · rfl
    · exact absurd ((h k hp).trans e.symm) hk
theorem read_if {s : St} (i : Int) (h0 : 0 ≤ i) (h1 : i < s.last.length) : Dsk.St.read s i = if s.fails then ([], 3) else (view s i, 0) := by
  unfold Dsk.St.read view
  rw [if_neg (show ¬ (i < 0 ∨ (s.last.length : Int) ≤ i) by omega)]
theorem loads_one {s : St} (h : One s) (i : Int) (t : Nat) (h0 : 0 ≤ i) (h1 : i + t ≤ s.last.length) : ((loads s i t).2.2 = 0 ∧ One (loads s i t).1 ∧ (loads s i t).2.1 = (List.range t).map fun (k : Nat) => view s (i + k)) ∨ ((loads s i t).2.2 = 3 ∧ NoFail (loads s i t).1) := by
  induction t with
  | zero => exact .inl ⟨rfl, h, rfl⟩
  | succ t ih =>
    have al := loads_alike s i t
    rcases ih (by omega) with ⟨e, hs, e4⟩ | ⟨e, hs⟩
    · rw [loads_succ s i t e, read_if (i + t) (by omega) (by rw [al.last]; omega)]
      cases hf : (loads s i t).1.fails
      · refine .inl ⟨rfl, hs.tick, ?_⟩
        show (loads s i t).2.1 ++ [view (loads s i t).1 (i + t)] = _
        rw [e4, List.range_succ, List.map_append, al.view]
        rfl
      · exact .inr ⟨rfl, hs.fails hf⟩
    · rw [loads_stop s i t (t + 1) (by rw [e]; decide) (by omega)]
      exact .inr ⟨e, hs⟩
/-- a slot that is there is read as Good, or the one failure that is planned comes -/
theorem read_one {s : St} (hf : One s) {which a b c q : Int} {l : List Int} {z : Nat} (hz : s.size = z) (hz2 : z ≤ 4096) (he : forErr s which a b c l.length = 0) (hq : 0 ≤ q ∧ q < 18446744073709551616)
    (hh : Has s (which * spanOf z a b c) (padded (enc a b c l.length q (sumOf l)) z) z l) : (readOf s which a b c).2 = (⟨2, 0, q, l⟩, 0) ∨ ((readOf s which a b c).2 = (noSlt, 3) ∧ NoFail (readOf s which a b c).1) := by
  obtain ⟨q1, q2, q3, q4, q5, q6, q7⟩ := forErr_ok he
  rw [hz] at q5 q6
  have hsp := span_eq q3 q5 hz2 q2
  obtain ⟨first, hfi⟩ : ∃ f, which * spanOf z a b c = f := ⟨_, rfl⟩
  have hfb : 0 ≤ first ∧ first + 1 + (many l.length z : Nat) ≤ s.last.length := by
    rw [← hfi]
    rcases q7 with rfl | rfl <;> omega
  rw [hfi] at hh
  unfold readOf
  rw [q1, if_neg (fun h => h rfl), hz, hfi, read_if first hfb.1 (by omega)]
  cases hfl : s.fails
  rotate_left
  · refine .inr ⟨rfl, hf.fails hfl⟩
  show (ite ((0 : Int) ≠ 0) _ (headOf s.tick (view s first) first a b c)).2 = _ ∨ ((ite ((0 : Int) ≠ 0) _ (headOf s.tick (view s first) first a b c)).2 = _ ∧ NoFail (ite ((0 : Int) ≠ 0) _ (headOf s.tick (view s first) first a b c)).1)
  rw [if_neg (fun h => h rfl), hh.head]
  have hd : padded (enc a b c l.length q (sumOf l)) z = enc a b c l.length q (sumOf l) ++ List.replicate (z - (enc a b c l.length q (sumOf l)).length) 0 := rfl
  obtain ⟨d0, d1⟩ := dec_enc a b c l.length q (sumOf l) (List.replicate (z - (enc a b c l.length q (sumOf l)).length) 0) q4 hq (sumOf_in l)
  rw [hd]
  generalize enc a b c l.length q (sumOf l) ++ List.replicate (z - (enc a b c l.length q (sumOf l)).length) 0 = X at *
  unfold decH at d1
  obtain ⟨e1, e2, e3, e4, e5, e6⟩ := headV_inj.1 d1
  unfold headOf
  have ht : (total a b c).toNat = l.length := by omega
  rw [if_neg (fun h => h d0), if_neg (fun h => h ⟨e1, e2, e3⟩), e5, e6, ht, show s.tick.size = z from hz]
  rcases loads_one hf.tick (first + 1) (many l.length z) (by omega) (by show first + 1 + (many l.length z : Nat) ≤ (s.last.length : Int); omega) with ⟨l0, _, l5⟩ | ⟨l0, l1⟩
  · have hL : (loads s.tick (first + 1) (many l.length z)).2.1 = secs l z := by
      rw [l5]
      apply List.ext_getElem
      · simp [secs, cutL_len]
      · intro k h1 h2
        have hk : k < many l.length z := by simpa using h1
        have hv := hh.imgs k hk
        rw [List.getElem_map, List.getElem_range]
        show view s (first + 1 + k) = _
        rw [hv]
        simp [List.getD, h2]
    have hb := many_bounds l.length z (by omega) hz2
    have hg : glued (loads s.tick (first + 1) (many l.length z)).2.1 l.length = l := by
      rw [hL]
      exact glued_cut l z (many l.length z) hb.1
    unfold sealedOf
    rw [if_neg (fun h => h l0), hg, if_neg (fun h => h rfl)]
    exact .inl rfl
  · unfold sealedOf
    rw [if_pos (by rw [l0]; decide), l0]
    exact .inr ⟨rfl, l1⟩
/-- what a Sync leaves -/
structure Synced (s s' : St) : Prop where
  size : s'.size = s.size
  len : s'.last.length = s.last.length
  plan : s'.plan = s.plan
  cach : ∀ j : Int, 0 ≤ j → j < s.last.length → s'.cach j = none
  last : ∀ j : Int, 0 ≤ j → j < s.last.length → s'.last.getD j.toNat [] = view s j
theorem syncL_is (us : List Int) : ∀ (s : St), us.Pairwise (fun a b => a < b) → (∀ u ∈ us, 0 ≤ u ∧ u < s.last.length) →
    (Dsk.syncL s us).size = s.size ∧ (Dsk.syncL s us).last.length = s.last.length ∧ (Dsk.syncL s us).plan = s.plan ∧ (∀ j, (Dsk.syncL s us).cach j = if j ∈ us then none else s.cach j) ∧ (∀ j, 0 ≤ j → (Dsk.syncL s us).last.getD j.toNat [] = if j ∈ us then (s.cach j).getD [] else s.last.getD j.toNat []) := by
  induction us with
  | nil => intro s _ _; exact ⟨rfl, rfl, rfl, fun j => by simp [Dsk.syncL], fun j _ => by simp [Dsk.syncL]⟩
  | cons i us ih =>
    intro s hp hb
    obtain ⟨hp1, hp2⟩ := List.pairwise_cons.1 hp
    have hi := hb i (List.mem_cons_self ..)
    have hl : (s.settled i ((s.cach i).getD [])).last.length = s.last.length := by simp [St.settled]
    obtain ⟨h1, h2, h3, h4, h5⟩ := ih (s.settled i ((s.cach i).getD [])) hp2 (fun u hu => by rw [hl]; exact hb u (List.mem_cons_of_mem _ hu))
    have hni : i ∉ us := fun h => by have := hp1 i h; omega
    refine ⟨h1, h2.trans hl, h3, fun j => ?_, fun j hj => ?_⟩
    · show (Dsk.syncL (s.settled i ((s.cach i).getD [])) us).cach j = _
      rw [h4]
      by_cases hji : j = i
      · subst hji
        rw [if_neg hni, if_pos (List.mem_cons_self ..)]
        simp [St.settled]
      · by_cases hm : j ∈ us
        · rw [if_pos hm, if_pos (List.mem_cons_of_mem _ hm)]
        · rw [if_neg hm, if_neg (by simp [hji, hm])]
          simp [St.settled, hji]
    · show (Dsk.syncL (s.settled i ((s.cach i).getD [])) us).last.getD j.toNat [] = _
      rw [h5 j hj]
      by_cases hji : j = i
      · subst hji
        rw [if_neg hni, if_pos (List.mem_cons_self ..)]
        simp only [St.settled, List.getD]
        rw [List.getElem?_set_self (by omega)]
        rfl
      · have hne : i.toNat ≠ j.toNat := by omega
        by_cases hm : j ∈ us
        · rw [if_pos hm, if_pos (List.mem_cons_of_mem _ hm)]
          simp [St.settled, hji]
        · rw [if_neg hm, if_neg (by simp [hji, hm])]
          simp only [St.settled, List.getD, List.getElem?_set_ne hne]
theorem sync_fine {s : St} (hf : NoFail s) : s.sync.2 = 0 ∧ Synced s.tick s.sync.1 ∧ NoFail s.sync.1 := by
  unfold St.sync
  rw [show s.fails = false from hf _]
  obtain ⟨h1, h2, h3, h4, h5⟩ := syncL_is s.uns s.tick (Dsk.sorted_uns s) (fun u hu => by have := (Dsk.mem_uns s u).1 hu; exact ⟨this.1, this.2.1⟩)
  refine ⟨rfl, ⟨h1, h2, h3, fun j h0 hj => ?_, fun j h0 hj => ?_⟩, fun k => ?_⟩
  · show (Dsk.syncL s.tick s.uns).cach j = none
    rw [h4]
    split
    · rfl
    · rename_i hm
      cases hc : s.cach j with
      | none => exact hc
      | some bs => exact absurd ((Dsk.mem_uns s j).2 ⟨h0, hj, by rw [hc]; rfl⟩) hm
  · show (Dsk.syncL s.tick s.uns).last.getD j.toNat [] = view s.tick j
    rw [h5 j h0]
    unfold view
    split
    · rename_i hm
      have := ((Dsk.mem_uns s j).1 hm).2.2
      cases hc : s.cach j with
      | none => rw [hc] at this; cases this
      | some bs =>
        show (s.cach j).getD [] = (s.cach j).getD _
        rw [hc]
        rfl
    · rename_i hm
      cases hc : s.cach j with
      | none =>
        show _ = (s.cach j).getD _
        rw [hc]
        rfl
      | some bs => exact absurd ((Dsk.mem_uns s j).2 ⟨h0, hj, by rw [hc]; rfl⟩) hm
  · show (Dsk.syncL s.tick s.uns).plan k = false
    rw [h3]
    exact hf.tick k
theorem Synced.view {s s' : St} (h : Synced s s') (j : Int) (h0 : 0 ≤ j) (h1 : j < s.last.length) : view s' j = view s j := by
  rw [← h.last j h0 h1]
  unfold Proofs.YtpbhkkcboppdmaaDoor.view
  rw [h.cach j h0 h1]
  rfl
theorem Has.of_view {s s' : St} {first : Int} {hd l : List Int} {z : Nat} (h : Has s first hd z l) (he : ∀ j, first ≤ j → j < first + 1 + (many l.length z : Nat) → view s' j = view s j) : Has s' first hd z l :=
  ⟨(he first (by omega) (by omega)).trans h.head, fun k hk => (he _ (by omega) (by omega)).trans (h.imgs k hk)⟩
/-- a disk of bytes within bounds stays one -/
theorem Ok.settled {m : Nat} {s : St} (h : Ok m s) (i : Int) (bs : List Int) (hb : In8 bs) : Ok m (s.settled i bs) := by
  refine ⟨fun l hl => ?_, fun k x hx => ?_, h.ops, h.wr, h.cn, h.pn, by simpa [St.settled] using h.len, h.size⟩
  · rcases List.mem_or_eq_of_mem_set hl with h1 | h1
    · exact h.l8 l h1
    · exact h1 ▸ hb
  · simp only [St.settled] at hx
    split at hx
    · cases hx
    · exact h.c8 k x hx
theorem Ok.getc {m : Nat} {s : St} (h : Ok m s) (i : Int) : In8 ((s.cach i).getD []) := by
  cases hc : s.cach i with
  | none => intro v hv; cases hv
  | some bs => exact h.c8 i bs hc
theorem Ok.syncL {m : Nat} (us : List Int) : ∀ {s : St}, Ok m s → Ok m (Dsk.syncL s us) := by
  induction us with
  | nil => intro s h; exact h
  | cons i us ih => intro s h; exact ih (h.settled i _ (h.getc i))
theorem Ok.sync {m : Nat} {s : St} (h : Ok m s) : Ok (m + 1) s.sync.1 := by
  unfold St.sync
  split
  · exact h.tick
  · exact Ok.syncL _ h.tick
theorem in8_junk {n : Nat} {bs : List Int} (h : In8 bs) : In8 (Dsk.junk n bs) := by
  intro v hv
  unfold Dsk.junk at hv
  rcases List.mem_append.1 hv with h1 | h1
  · exact h v (List.mem_of_mem_take h1)
  · exact in8_zeros _ v h1
theorem Ok.left {m : Nat} {s : St} (h : Ok m s) (i kind : Int) (tb : List Int) (hb : In8 tb) : In8 (Dsk.leftOf s i kind tb) := by
  unfold Dsk.leftOf
  split
  · exact h.getc i
  split
  · exact in8_junk hb
  · exact h.last8 _
theorem Ok.crashL {m : Nat} (us : List Int) : ∀ {s : St} {ts : List (Int × List Int)}, Ok m s → (∀ t ∈ ts, In8 t.2) → Ok m (Dsk.crashL s us ts) := by
  induction us with
  | nil => intro s ts h _; exact h
  | cons i us ih =>
    intro s ts h ht
    refine ih (h.settled i _ (h.left i _ _ ?_)) (fun t htt => ht t (List.mem_of_mem_tail htt))
    cases ts with
    | nil => intro v hv; cases hv
    | cons t ts => exact ht t (List.mem_cons_self ..)
theorem Ok.crash {m : Nat} {s : St} {ts : List (Int × List Int)} (h : Ok m s) (ht : ∀ t ∈ ts, In8 t.2) : Ok m (s.crash ts) := Ok.crashL _ h ht
theorem Ok.fail {m : Nat} {s : St} (h : Ok m s) (n : Int) : Ok (m + 1) (s.fail n) := by
  unfold St.fail
  split
  · exact h.mono (by omega)
  · exact ⟨h.l8, h.c8, Nat.le_succ_of_le h.ops, Nat.le_succ_of_le h.wr, Nat.le_succ_of_le h.cn, Nat.succ_le_succ h.pn, h.len, h.size⟩
theorem Ok.readOf {m : Nat} {s : St} (h : Ok m s) (which a b c : Int) : Ok (m + 1 + many (total a b c).toNat s.size) (readOf s which a b c).1 := by
  unfold Proofs.YtpbhkkcboppdmaaDoor.readOf headOf
  split
  · exact h.mono (by omega)
  split
  · exact h.tick.mono (by omega)
  split
  · exact h.tick.mono (by omega)
  split
  · exact h.tick.mono (by omega)
  · rw [sealed_fst]
    exact (loads_ok h.tick _ _).1
end Go.Proofs.YtpbhkkcboppdmaaDoor
namespace Go.Proofs.YtpbhkkcboppdmaaDoor
open Ks Go.RowKit
set_option maxRecDepth 20000

/-- chips of a size that is looked at, or none that can be -/
def few500 (a b c : Int) : Bool := !right a b c || decide (total a b c ≤ 500)
theorem few_any (a b c : Int) (v : Bool) (w0 w : World) (H : On w0 w) (hv : few500 a b c = v) : Calls Tryd.prog 12 #[geoV a b c] w fun e w' => e = .returned (.bool v) ∧ On w0 w' := by
  have HT := Lib.hid (fun o => H.next (below_box w o))
  have HV := Lib.hid hv
  obtain ⟨b0, b1, b2⟩ := boxed w (.int .i64 a) (.int .i64 b) (.int .i64 c) 23
  clear hv H
  go_enter Tryd.func12, Tryd.ntmps12
  go_wp2_with fail
  have HW := Lib.hid (HT.out (.cells #[.int .i64 a, .int .i64 b, .int .i64 c] 23))
  have HP := Lib.hid (show w.heap.size < (w.alloc (.cells #[.int .i64 a, .int .i64 b, .int .i64 c] 23)).heap.size by simp)
  generalize w.alloc (.cells #[.int .i64 a, .int .i64 b, .int .i64 c] 23) = W at *
  obtain ⟨x, hx⟩ : ∃ x, right a b c = x := ⟨_, rfl⟩
  have HX := Lib.hid hx
  clear hx
  refine (refRight_any a b c x _ _ (On.start HW.out.tab) HX.out).mono ?_
  rintro e w1 ⟨rfl, hw1⟩
  have HW1 := Lib.hid (HW.out.next hw1.bel)
  have k0 := (hw1.bel.cell (p := ⟨w.heap.size, 0, none⟩) HP.out).trans b0
  have k1 := (hw1.bel.cell (p := ⟨w.heap.size, 1, none⟩) HP.out).trans b1
  have k2 := (hw1.bel.cell (p := ⟨w.heap.size, 2, none⟩) HP.out).trans b2
  clear b0 b1 b2 hw1
  cases x
  · have HE := Lib.hid (show true = v by rw [← HV.out]; unfold few500; rw [HX.out]; rfl)
    go_wp2_with fail
    go_ret
    exact ⟨ret_bool HE.out, HW1.out⟩
  obtain ⟨t, ht⟩ : ∃ t, total a b c = t := ⟨_, rfl⟩
  have HE := Lib.hid (show decide (t ≤ 500) = v by rw [← HV.out, ← ht]; unfold few500; rw [HX.out]; rfl)
  have HTT := Lib.hid ht
  clear ht
  go_wp2_with fail
  refine (refTotal_any a b c t _ _ (On.start HW1.out.tab) HTT.out).mono ?_
  rintro e w2 ⟨rfl, hw2⟩
  have HW2 := Lib.hid (HW1.out.next hw2.bel)
  clear hw2
  go_wp2_with fail
  go_ret
  exact ⟨ret_bool HE.out, HW2.out⟩
/-- what fresh answers -/
def Freshes (w : World) (s : St) (e : Ending) (w' : World) : Prop := ∃ p, e = .returned (.pointer (some ⟨p, 0, none⟩)) ∧ DiskAt Tryd.prog w' p (Dsk.Grow No w w') s ∧ Keeps No w w'
theorem fresh_any (sz a b c : Int) (m n : Nat) (w : World) (hT : Tab w) (hs : 0 ≤ sz ∧ sz ≤ 255) (hm : 32 + sz % 100 = m) (hn : 2 * spanOf m a b c = n) (hn1 : n ≤ 4096) :
    Calls Tryd.prog 22 #[.int .u8 sz, geoV a b c] w (Freshes w (Dsk.fresh m (List.replicate n (List.replicate m 0)))) := by
  obtain ⟨b0, b1, b2⟩ := boxed w (.int .i64 a) (.int .i64 b) (.int .i64 c) 23
  have HB := Lib.hid (below_box w (.cells #[.int .i64 a, .int .i64 b, .int .i64 c] 23))
  have HT := Lib.hid (tab_below hT HB.out (tab_pos hT))
  obtain ⟨r, hr⟩ : ∃ r, sz.tmod 100 = r := ⟨_, rfl⟩
  have hr0 : 0 ≤ r ∧ r < 100 := by rw [← hr, Int.tmod_eq_emod_of_nonneg hs.1]; omega
  have hrm : 32 + r = (m : Int) := by rw [← hm, ← hr, Int.tmod_eq_emod_of_nonneg hs.1]
  obtain ⟨s0, s1⟩ := hs
  obtain ⟨r0, r1⟩ := hr0
  have HN := Lib.hid hn
  clear hT hn hm
  go_enter Tryd.func22, Tryd.ntmps22
  go_wp2_with fail
  generalize w.alloc (.cells #[.int .i64 a, .int .i64 b, .int .i64 c] 23) = W at *
  refine (room_any (m : Int) a b c (n : Int) _ _ (On.start HT.out) HN.out).mono ?_
  rintro e w1 ⟨rfl, hw1⟩
  have HB1 := Lib.hid (HB.out.trans (hw1.bel.mono HB.out.size))
  clear hw1
  go_wp2_with fail
  refine (Dsk.new_ok w1 n m (by omega) (by omega) (by omega)).mono ?_
  rintro e w2 ⟨p, rfl, hd, hk⟩
  have HK := Lib.hid (show Keeps No w w2 from (Keeps.of_below HB1.out).trans hk)
  have HD := Lib.hid (show DiskAt Tryd.prog w2 p (Dsk.Grow No w w2) (Dsk.fresh m (List.replicate n (List.replicate m 0))) from hd.mono (fun b hb => by
    rcases hb with hb | hb
    · exact hb.elim
    · exact .inr ⟨Nat.le_trans HB1.out.size hb.1, hb.2⟩) (fun b hb => by
    rcases hb with hb | hb
    · exact hb.elim
    · exact hb.2))
  clear hd hk
  go_wp2_with fail
  go_ret
  exact ⟨p, rfl, HD.out, HK.out⟩
end Go.Proofs.YtpbhkkcboppdmaaDoor
namespace Go.Proofs.YtpbhkkcboppdmaaDoor
open Ks Go.RowKit
set_option maxRecDepth 20000

/-- a block that is none of the disk's -/
def Aside (F : Nat → Prop) (w : World) (g : Nat) : Prop := ¬ F g ∧ g < w.heap.size
section
variable {F : Nat → Prop} {w w' : World} {g : Nat}
theorem Aside.keeps (h : Aside F w g) (hk : Keeps F w w') : Aside F w' g := ⟨h.1, Nat.lt_of_lt_of_le h.2 hk.size⟩
theorem Aside.grow (h : Aside F w g) (hk : Keeps F w w') : Aside (Dsk.Grow F w w') w' g := ⟨fun hg => by rcases hg with hg | hg; exact h.1 hg; have := h.2; omega, Nat.lt_of_lt_of_le h.2 hk.size⟩
theorem Aside.new {p : Nat} {s : St} (h : DiskAt Tryd.prog w p F s) (o : Obj) : Aside F (w.alloc o) w.heap.size := ⟨fun hg => by have := h.there _ hg; omega, by simp⟩
theorem Aside.blk {t : TypeId} {cs : Array Value} (h : Aside F w g) (hk : Keeps F w w') (hb : Blk w g t cs) : Blk w' g t cs := hb.of_eq (hk.block g h.2 h.1)
end
/-- bytes of one's own, beside the disk -/
def Img (F : Nat → Prop) (w : World) (v : Value) (l : List Int) : Prop := Own 0 w v l ∧ ∀ g, v.ownBlock = some g → Aside F w g
section
variable {F : Nat → Prop} {w w' : World} {v : Value} {l : List Int}
theorem Img.keeps (h : Img F w v l) (hk : Keeps F w w') : Img F w' v l := ⟨own_keeps h.1 hk (fun g hg => (h.2 g hg).1), fun g hg => (h.2 g hg).keeps hk⟩
theorem Img.grow (h : Img F w v l) (hk : Keeps F w w') : Img (Dsk.Grow F w w') w' v l := ⟨own_keeps h.1 hk (fun g hg => (h.2 g hg).1), fun g hg => (h.2 g hg).grow hk⟩
theorem Img.below (h : Img F w v l) (hb : Below w.heap.size w w') : Img F w' v l := h.keeps (Keeps.of_below hb).no
theorem Img.of_read {w0 : World} {p : Nat} {s : St} (h : Own w0.heap.size w v l) (hd : DiskAt Tryd.prog w0 p F s) : Img F w v l :=
  ⟨h.base_ (Nat.zero_le _), fun g hg => ⟨fun hf => by have h1 := hd.there g hf; have h2 := (h.lt hg).1; omega, (h.lt hg).2⟩⟩
theorem Img.bytes (h : Img F w v l) (h8 : In8 l) : ∃ A c, v = .slice A l.length c ∧ l.length ≤ c ∧ Bytes w w.heap.size A l.length l := Own.bytes h.1 h8
end
theorem read_is {w : World} {p m : Nat} {F : Nat → Prop} {s s' : St} {x : Slt} {which a b c er : Int} (hT : Tab w) (hF2 : ∀ k, F k → 2 ≤ k) (h : DiskAt Tryd.prog w p F s) (hO : Ok m s) (hm : m + 1 + many (total a b c).toNat s.size < 1000000) (hr : readOf s which a b c = (s', x, er)) :
    Calls Tryd.prog 15 #[.pointer (some ⟨p, 0, none⟩), .int .i64 which, geoV a b c] w (Reads w p F s' x er) := by
  have := read_any w p m F s which a b c hT hF2 h hO hm
  rw [hr] at this
  exact this
theorem sync_is {w : World} {p m : Nat} {F : Nat → Prop} {s s' : St} {er : Int} (h : DiskAt Tryd.prog w p F s) (hO : Ok m s) (hm : m < 1000000) (hr : s.sync = (s', er)) :
    Calls Tryd.prog 25 #[.pointer (some ⟨p, 0, none⟩)] w (Dsk.Tells p F s' w er) := by
  have := Dsk.sync_any w p F s h (by have := hO.ops; omega) (by have := hO.cn; omega) hO.len
  rw [hr] at this
  exact this
theorem same_in (W : World) (q : Regrown) (A1 A2 : Option Addr) (n c1 c2 : Nat) (l : List Int) (hn : n ≤ maxLen) (ha : Bytes W W.heap.size A1 n l) (hb : Bytes W W.heap.size A2 n l) :
    Calls Tryd.prog 18 #[.slice A1 n c1, .slice A2 n c2] (In W q) fun e w'' => e = .returned (.bool true) ∧ ∃ q : Regrown, w'' = In W q := by
  apply Calls.regrown_of
  exact (same_refl A1 A2 n c1 c2 W.heap.size l _ hn (bytes_below ha (in_below W q)) (bytes_below hb (in_below W q)) (in_below W q).size).mono fun _ _ h => ⟨h.1, h.2⟩
/-- which slot -/
def whOf : Bool → Int
  | false => 0
  | true => 1
theorem whOf_in (x : Bool) : whOf x = 0 ∨ whOf x = 1 := by cases x <;> simp [whOf]
/-- a new disk with room for both -/
theorem fresh_room {a b c : Int} {z n k : Nat} (hz : 32 ≤ z) (hz2 : z ≤ 4096) (hr : right a b c = true) (hn : (n : Int) = total a b c) (h5 : n ≤ 500) (hk : 2 * spanOf z a b c = k) : k ≤ 4096 ∧ ∀ x : Bool, forErr (Dsk.fresh z (List.replicate k (List.replicate z 0))) (whOf x) a b c n = 0 := by
  have hb := many_bounds n z (by omega) hz2
  have hs := span_eq hr hz hz2 hn
  refine ⟨by omega, fun x => ?_⟩
  unfold forErr findErr
  have hw := whOf_in x
  have e1 : (Dsk.fresh z (List.replicate k (List.replicate z 0))).size = z := rfl
  have e2 : (Dsk.fresh z (List.replicate k (List.replicate z 0))).last.length = k := by simp [Dsk.fresh]
  rw [e1, e2]
  have hfe : (if right a b c = false then (9 : Int) else if whOf x < 0 ∨ 1 < whOf x ∨ z < 32 then 1 else if (k : Int) < 2 * spanOf z a b c then 4 else 0) = 0 := by
    rw [if_neg (by rw [hr]; decide), if_neg (by omega), if_neg (by omega)]
  rw [hfe, if_neg (fun h => h rfl), if_neg (fun h => h hn)]
theorem fresh_view (z k : Nat) (j : Int) (h0 : 0 ≤ j) (h1 : j < k) : view (Dsk.fresh z (List.replicate k (List.replicate z 0))) j = List.replicate z 0 := by
  unfold view
  have : j.toNat < k := by omega
  simp [Dsk.fresh, List.getD, this]
theorem padded_nil (z : Nat) : padded [] z = List.replicate z 0 := by simp [padded]
/-- all that SlotBack does, of disks as values -/
theorem back_plan {a b c q : Int} {l : List Int} {z k : Nat} (second sync : Bool) (hz : 32 ≤ z) (hz2 : z ≤ 4096) (hr : right a b c = true) (hn : (l.length : Int) = total a b c) (h5 : l.length ≤ 500) (hk : 2 * spanOf z a b c = k) (h8 : In8 l) (hq : 0 ≤ q ∧ q < 18446744073709551616) :
    ∃ s1 s2 s3 s4 s5 s6 s7, put_ (Dsk.fresh z (List.replicate k (List.replicate z 0))) (whOf second) a b c l = (s1, 0) ∧ readOf s1 (whOf second) a b c = (s2, ⟨0, 6, 0, []⟩, 0) ∧ laid s2 (whOf second) a b c q l = (s3, 0) ∧
      (if sync = true then s3.sync else (s3, 0)) = (s4, 0) ∧ readOf s4 (whOf second) a b c = (s5, ⟨2, 0, q, l⟩, 0) ∧ wiped s5 (whOf second) a b c = (s6, 0) ∧ readOf s6 (whOf second) a b c = (s7, ⟨0, 6, 0, []⟩, 0) ∧
      (Ok 0 (Dsk.fresh z (List.replicate k (List.replicate z 0))) ∧ Ok 10000 s1 ∧ Ok 10000 s2 ∧ Ok 10000 s3 ∧ Ok 10000 s4 ∧ Ok 10000 s5 ∧ Ok 10000 s6) ∧ (s1.size = z ∧ s2.size = z ∧ s3.size = z ∧ s4.size = z ∧ s5.size = z ∧ s6.size = z) := by
  obtain ⟨hk4, hfe⟩ := fresh_room hz hz2 hr hn h5 hk
  have he := hfe second
  have hb := many_bounds l.length z (by omega) hz2
  have ht : (total a b c).toNat = l.length := by omega
  obtain ⟨s0, hs0⟩ : ∃ s0, Dsk.fresh z (List.replicate k (List.replicate z 0)) = s0 := ⟨_, rfl⟩
  have hz0 : s0.size = z := by rw [← hs0]; rfl
  have hl0 : s0.last.length = k := by rw [← hs0]; simp [Dsk.fresh]
  have hf0 : NoFail s0 := by rw [← hs0]; exact nofail_fresh _ _
  have hO0 : Ok 0 s0 := by rw [← hs0]; exact ok_fresh z _ 0 (new_in8 k z) (by simpa using hk4) hz2
  have hv0 : ∀ j, 0 ≤ j → j < (k : Int) → view s0 j = List.replicate z 0 := fun j h0 h1 => by rw [← hs0]; exact fresh_view z k j h0 h1
  rw [hs0] at he ⊢
  have hp := forErr_place hz0 hz2 he
  obtain ⟨first, hfi⟩ : ∃ f, whOf second * spanOf z a b c = f := ⟨_, rfl⟩
  obtain ⟨s1, p1, S1⟩ := put_has hf0 hz0 hz2 he
  rw [hfi] at hp S1
  have z1 : s1.size = z := S1.size.trans hz0
  have e1 : forErr s1 (whOf second) a b c l.length = 0 := by rw [forErr_of S1.size S1.last]; exact he
  have r1 := read_zeros S1.fine z1 hz2 e1 (by rw [hfi, S1.head, hv0 _ hp.1 (by omega)])
  obtain ⟨s2, hs2⟩ : ∃ s2, (readOf s1 (whOf second) a b c).1 = s2 := ⟨_, rfl⟩
  have A2 : Alike s1 s2 := hs2 ▸ readOf_alike s1 _ a b c
  have f2 : NoFail s2 := hs2 ▸ readOf_nofail S1.fine _ a b c
  have z2 : s2.size = z := A2.size.trans z1
  have e2 : forErr s2 (whOf second) a b c l.length = 0 := by rw [forErr_of A2.size A2.last]; exact e1
  have p3 := laid_fine (q := q) f2 z2 hz2 e2
  rw [hfi] at p3
  obtain ⟨X, hX⟩ : ∃ X, padded (enc a b c l.length q (sumOf l)) z = X := ⟨_, rfl⟩
  rw [hX] at p3
  obtain ⟨s3, hs3⟩ : ∃ s3, s2.put first X = s3 := ⟨_, rfl⟩
  rw [hs3] at p3
  have H3 : Has s3 first X z l := by rw [← hs3]; exact laid_Has (fun k hk => by rw [A2.view]; exact S1.imgs k hk)
  have f3 : NoFail s3 := by rw [← hs3]; exact f2.put _ _
  have z3 : s3.size = z := by rw [← hs3]; exact z2
  have l3 : s3.last = s1.last := by rw [← hs3]; exact A2.last
  have O1 := put_ok hO0 h8 p1
  rw [hz0] at O1
  have O2 := O1.readOf (whOf second) a b c
  rw [hs2, ht, z1] at O2
  have O3 := laid_ok O2 p3
  have hs4 : ∃ s4, (if sync = true then s3.sync else (s3, 0)) = (s4, 0) ∧ Has s4 first X z l ∧ NoFail s4 ∧ s4.size = z ∧ s4.last.length = s3.last.length ∧ Ok (0 + many l.length z + 1 + many l.length z + 1 + 1) s4 := by
    cases sync
    · exact ⟨s3, rfl, H3, f3, z3, rfl, O3.mono (by omega)⟩
    · obtain ⟨y1, y2, y3⟩ := sync_fine f3
      refine ⟨s3.sync.1, ?_, H3.of_view (fun j h0 h1 => ?_), y3, y2.size.trans z3, y2.len, O3.sync⟩
      · rw [if_pos rfl]; exact Prod.ext rfl y1
      · have : j < (s3.tick.last.length : Int) := by show j < (s3.last.length : Int); rw [l3, S1.last]; omega
        rw [y2.view j (by omega) this]
        exact (Alike.tick s3).view j
  obtain ⟨s4, p4, H4, f4, z4, l4, O4⟩ := hs4
  have e4 : forErr s4 (whOf second) a b c l.length = 0 := by
    have : forErr s4 (whOf second) a b c l.length = forErr s1 (whOf second) a b c l.length := by
      unfold forErr findErr
      rw [z4, z1, l4, l3]
    rw [this]; exact e1
  rw [← hX] at H4
  have r4 := read_good f4 (q := q) z4 hz2 e4 hq (by rw [hfi]; exact H4)
  obtain ⟨s5, hs5⟩ : ∃ s5, (readOf s4 (whOf second) a b c).1 = s5 := ⟨_, rfl⟩
  have A5 : Alike s4 s5 := hs5 ▸ readOf_alike s4 _ a b c
  have f5 : NoFail s5 := hs5 ▸ readOf_nofail f4 _ a b c
  have z5 : s5.size = z := A5.size.trans z4
  have e5 : forErr s5 (whOf second) a b c l.length = 0 := by rw [forErr_of A5.size A5.last]; exact e4
  have p6 := wiped_fine f5 z5 hz2 e5
  rw [hfi, padded_nil] at p6
  obtain ⟨s6, hs6⟩ : ∃ s6, s5.put first (List.replicate z 0) = s6 := ⟨_, rfl⟩
  rw [hs6] at p6
  have f6 : NoFail s6 := by rw [← hs6]; exact f5.put _ _
  have z6 : s6.size = z := by rw [← hs6]; exact z5
  have e6 : forErr s6 (whOf second) a b c l.length = 0 := by
    have : forErr s6 (whOf second) a b c l.length = forErr s5 (whOf second) a b c l.length := by rw [← hs6]; rfl
    rw [this]; exact e5
  have r6 := read_zeros f6 z6 hz2 e6 (by rw [hfi, ← hs6, put_view, if_pos rfl])
  have O5 := O4.readOf (whOf second) a b c
  rw [hs5, ht, z4] at O5
  have O6 := wiped_ok O5 p6
  refine ⟨s1, s2, s3, s4, s5, s6, _, p1, Prod.ext hs2 r1, p3, p4, Prod.ext hs5 r4, p6, Prod.ext rfl r6, ⟨hO0, O1.mono (by omega), O2.mono (by omega), O3.mono (by omega), O4.mono (by omega), O5.mono (by omega), O6.mono (by omega)⟩, z1, z2, z3, z4, z5, z6⟩
end Go.Proofs.YtpbhkkcboppdmaaDoor
namespace Go.Proofs.YtpbhkkcboppdmaaDoor
open Ks Go.RowKit
set_option maxRecDepth 20000

/-- what the reference's Read answers, told by the disk that goes alike -/
def RReads (w : World) (q : Nat) (F : Nat → Prop) (s' : St) (pl : List Int) (x : Slt) (er : Int) (e : Ending) (w' : World) : Prop :=
  Keeps F w w' ∧ (∃ r', Dsk.Sim s' r' ∧ r'.plans = pl ∧ RefAt w' q F r') ∧ ∃ A c, e = .returned (.tuple #[slotV x.st x.why x.seq (.slice A x.img.length c), .int .i64 er]) ∧ x.img.length ≤ c ∧ Bytes w' w'.heap.size A x.img.length x.img
theorem _root_.Ks.RefAt.sets4_ {w : World} {q g : Nat} {F : Nat → Prop} {r : RS} (h : RefAt w q F r) (hg : ¬ F g) (x y z u : Value) : RefAt (sets4 w g x y z u) q F r := h.keeps (sets4_one w g x y z u) (fun _ hb e => hg (e ▸ hb))
theorem own_take {base : Nat} {w : World} {A : Option Addr} {n c t : Nat} {L : List Int} (h : Own base w (.slice A n c) L) (h8 : In8 L) (ht : t ≤ L.length) : t ≤ c ∧ Bytes w w.heap.size A t (L.take t) := by
  obtain ⟨A', c', e, hc, hb⟩ := Own.bytes h h8
  injection e with e1 e2 e3
  subst e1 e3
  refine ⟨by omega, by simp; omega, fun v hv => h8 v (List.mem_of_mem_take hv), fun h0 => ?_⟩
  obtain ⟨b, o, rfl, hB, hcs⟩ := hb.2.2 (by omega)
  refine ⟨b, o, rfl, hB, fun k hk => ?_⟩
  rw [hcs k (by omega)]
  simp [List.getD, hk]
/-- where the loop stands -/
structure RLoadAt (w : World) (q : Nat) (F : Nat → Prop) (s : St) (pl : List Int) (i : Int) (k : Nat) (V : Value) (wr : World) : Prop where
  err : (loads s i k).2.2 = 0
  ref : ∃ r, Dsk.Sim (loads s i k).1 r ∧ r.plans = pl ∧ RefAt wr q F r
  keeps : Keeps F w wr
  own : Own w.heap.size wr V (loads s i k).2.1.flatten
theorem RLoadAt.below {w wr w' : World} {q : Nat} {F : Nat → Prop} {s : St} {pl : List Int} {i : Int} {k : Nat} {V : Value} (h : RLoadAt w q F s pl i k V wr) (hb : Below wr.heap.size wr w') : RLoadAt w q F s pl i k V w' := by
  obtain ⟨r, h1, h2, h3⟩ := h.ref
  exact ⟨h.err, ⟨r, h1, h2, h3.below_ hb⟩, h.keeps.trans (Keeps.of_below hb).no, h.own.below hb⟩
theorem flat_len (L : List (List Int)) (z : Nat) (h : ∀ j, j < L.length → (L.getD j []).length = z) : L.flatten.length = L.length * z := by
  induction L with
  | nil => simp
  | cons x L ih =>
    have h0 := h 0 (by simp)
    have h1 := ih (fun j hj => by have := h (j + 1) (by simpa using hj); simpa using this)
    simp at h0
    rw [List.flatten_cons, List.length_append, h0, h1, List.length_cons, Nat.add_mul, Nat.one_mul, Nat.add_comm]
/-- sectors that were read have the disk's size -/
theorem sim_each {s : St} {r : RS} (h : Dsk.Sim s r) (i : Int) (n : Nat) (h0 : (loads s i n).2.2 = 0) : ∀ k, k < n → ((loads s i n).2.1.getD k []).length = s.size := by
  induction n with
  | zero => intro k hk; omega
  | succ n ih =>
    intro k hk
    by_cases h1 : (loads s i n).2.2 = 0
    · have hl := loads_len s i n h1
      rw [loads_succ s i n h1] at h0 ⊢
      by_cases hkn : k < n
      · rw [getD_left (by omega)]
        exact ih h1 k hkn
      · obtain rfl : k = n := by omega
        rw [getD_right (by omega), hl, Nat.sub_self]
        have al := loads_alike s i k
        simp only [List.getD_cons_zero]
        simp only at h0
        unfold Dsk.St.read at h0 ⊢
        rw [al.last, al.cach] at h0 ⊢
        split at h0
        · cases h0
        split at h0
        · cases h0
        rename_i g1 g2
        rw [if_neg g1, if_neg g2]
        obtain ⟨j, hj⟩ : ∃ j : Nat, i + (k : Int) = j := ⟨(i + k).toNat, by omega⟩
        rw [hj] at g2 ⊢
        rw [show s.cach (j : Int) = r.cach.getD j none from h.cach j, h.last, h.size]
        cases hc : r.cach.getD j none with
        | none =>
          simp only [Option.getD_none, Int.toNat_natCast]
          exact h.lens j (by rw [← h.last]; omega)
        | some bs => exact h.clens j bs hc
    · rw [loads_stop s i n (n + 1) h1 (by omega)] at h0
      exact absurd h0 h1
set_option maxHeartbeats 8000000 in
theorem refRead6_any (w : World) (q m : Nat) (F : Nat → Prop) (s : St) (r : RS) (which a b c : Int) (hT : Tab w) (hF2 : ∀ k, F k → 2 ≤ k) (h : RefAt w q F r) (hS : Dsk.Sim s r) (hO : Ok m s) (hm : m + 1 + many (total a b c).toNat s.size < 1000000) (hpl : r.plans.length ≤ 1000000) (h5 : few500 a b c = true) :
    Calls Tryd.prog 16 #[.pointer (some ⟨q, 0, none⟩), .int .i64 which, geoV a b c] w (RReads w q F (readOf s which a b c).1 r.plans (readOf s which a b c).2.1 (readOf s which a b c).2.2) := by
  have HS := Lib.hid (BoxAt.start a b c 37 #[.int .i64 0, .int .i64 0, .int .u64 0, .slice none 0 0] hT)
  have HR := Lib.hid (h.below_ HS.out.bel)
  have HTH := Lib.hid h.there
  have HF2 := Lib.hid hF2
  have HO := Lib.hid hO
  have HSI := Lib.hid hS
  have HPL := Lib.hid hpl
  have H5 := Lib.hid h5
  obtain ⟨er, her⟩ : ∃ er, findErr s which a b c = er := ⟨_, rfl⟩
  have HER := Lib.hid her
  obtain ⟨ro, hr⟩ : ∃ r, readOf s which a b c = r := ⟨_, rfl⟩
  rw [hr]
  have HRO := Lib.hid hr
  obtain ⟨z, hz⟩ : ∃ z, s.size = z := ⟨_, rfl⟩
  rw [hz] at hm
  obtain ⟨sp, hsp⟩ : ∃ sp, spanOf z a b c = sp := ⟨_, rfl⟩
  have hsb := spanOf_bounds z a b c
  rw [hsp] at hsb
  obtain ⟨first, hf⟩ : ∃ f, which * sp = f := ⟨_, rfl⟩
  have HF := Lib.hid (And.intro hz (And.intro hsp hf))
  have HSB := Lib.hid hsb
  have HM := Lib.hid hm
  have HZ4 := Lib.hid (show z ≤ 4096 from hz ▸ hO.size)
  clear hT h hO her hz hf hr hF2 hm hS hpl h5 hsp hsb
  go_enter Tryd.func16, Tryd.ntmps16
  go_wp2_with fail
  generalize (w.alloc (.cells #[.int .i64 a, .int .i64 b, .int .i64 c] 23)).alloc (.cells #[.int .i64 0, .int .i64 0, .int .u64 0, .slice none 0 0] 37) = W at *
  obtain ⟨g0, g1, g2⟩ := (show _ ∧ _ ∧ _ from ⟨HS.out.g0, HS.out.g1, HS.out.g2⟩)
  go_wp2_with fail
  refine (can_any W q F s r which a b c er z (s.last.length : Int) HS.out.tab HR.out (by rw [HF.out.1]) rfl (by rw [← HSI.out.size, HF.out.1]) (by rw [← HSI.out.last]) (by have := HZ4.out; omega) HER.out).mono ?_
  rintro e w1 ⟨rfl, hb⟩
  have H1 := Lib.hid (HS.out.next hb)
  have HR1 := Lib.hid (HR.out.below_ hb)
  have HN := Lib.hid (show (¬ F (w.heap.size + 1)) ∧ (¬ F w.heap.size) from ⟨fun hf => by have := HTH.out _ hf; omega, fun hf => by have := HTH.out _ hf; omega⟩)
  clear hb g0 g1 g2
  by_cases h0 : er ≠ 0
  · have hd0 : (er != 0) = true := by simpa using h0
    have HRE := Lib.hid (show ro = (s, noSlt, er) by rw [← HRO.out]; unfold readOf; rw [HER.out, if_pos h0])
    have fr := H1.out.res.frozen
    obtain ⟨c0, c1, c2, c3⟩ := H1.out.res.four (.int .i64 0) (.int .i64 0) (.int .u64 0)
    clear h0
    go_wp2_with fail
    have HB := Lib.hid (H1.out.res.sets4 (.int .i64 0) (.int .i64 0) (.int .u64 0) (.slice none 0 0))
    have HK := Lib.hid (keeps_sets4 ((Keeps.of_below H1.out.bel).no (T := F)) (w.heap.size + 1) (.inr (by omega)) (.int .i64 0) (.int .i64 0) (.int .u64 0) (.slice none 0 0))
    have HRR := Lib.hid (HR1.out.sets4_ HN.out.1 (.int .i64 0) (.int .i64 0) (.int .u64 0) (.slice none 0 0))
    change bodyPost _ _ _ _ _ (sets4 w1 (w.heap.size + 1) (.int .i64 0) (.int .i64 0) (.int .u64 0) (.slice none 0 0))
    generalize sets4 w1 (w.heap.size + 1) (.int .i64 0) (.int .i64 0) (.int .u64 0) (.slice none 0 0) = W5 at *
    obtain ⟨f0, f1, f2, f3⟩ := HB.out.c4
    (try simp only [Exit.inBlock, Exit.then])
    refine bodyPost_ret (by simp [results, Tryd.results16, go_sem, f0, f1, f2, f3]; try rfl) rfl ?_
    rw [HRE.out]
    exact ⟨HK.out, ⟨r, HSI.out, rfl, HRR.out⟩, none, 0, rfl, Nat.le_refl _, bytes_nil _ _⟩
  obtain rfl : er = 0 := by omega
  have hwh : which = 0 ∨ which = 1 := by
    have := HER.out
    unfold findErr at this
    split at this
    · cases this
    split at this
    · cases this
    omega
  have hfb : 0 ≤ first ∧ first ≤ 131073 := by
    have h1 := HSB.out
    rw [← HF.out.2.2]
    rcases hwh with rfl | rfl <;> omega
  obtain ⟨hf0, hf1⟩ := hfb
  have hfirst : which * sp = first := HF.out.2.2
  have hwr : IntKind.i64.wrap first = first := by rw [IntKind.wrap_i64]; omega
  have HWH := Lib.hid hwh
  obtain ⟨c0, _⟩ := ref_cells HR1.out
  rw [← HSI.out.size, HF.out.1] at c0
  clear hwh
  go_wp2_with fail
  have r0 := fun d os => cell_regrown c0 d os
  have r1 := fun d os => cell_regrown H1.out.g0 d os
  have r2 := fun d os => cell_regrown H1.out.g1 d os
  have r3 := fun d os => cell_regrown H1.out.g2 d os
  refine wp_region_quiet_below (by kernel_rfl) (by kernel_rfl) ?_
  iterate 6 go_big_quiet_step (fail)
  go_big_quiet_step ((refine refSpan_in w1 _ z a b c sp H1.out.tab HF.out.2.1))
  repeat (go_big_quiet_step (fail))
  refine wpQuiet_nil ?_
  rintro w' ⟨qq, rfl⟩
  have H2 := Lib.hid (H1.out.next (in_below w1 qq))
  have HR2 := Lib.hid (ref_in HR1.out qq)
  clear r0 r1 r2 r3 c0 hfirst hwr H1 HR1
  change Exit.then _ _ _ _ (In w1 qq)
  generalize In w1 qq = w2 at *
  go_wp2_with fail
  obtain ⟨rd, hrd⟩ : ∃ rd, Dsk.St.read s first = rd := ⟨_, rfl⟩
  have HR8 := Lib.hid (show In8 rd.1 from hrd ▸ HO.out.read first)
  refine (Dsk.refRead_any w2 q F r first HR2.out (by rw [← HSI.out.ops]; have := HO.out.ops; have := HM.out; omega) HPL.out (by rw [← HSI.out.last]; exact HO.out.len) (by rw [← HSI.out.size]; exact HO.out.size)).mono ?_
  rw [← HSI.out.read first, hrd]
  have HRD := Lib.hid hrd
  have HS1 := Lib.hid HSI.out.tick
  clear hrd
  rintro e w3 ⟨u, rfl, hu, hr3, hkp⟩
  obtain ⟨Au, nu, cu, rfl⟩ : ∃ A q cc, u = .slice A q cc := by
    obtain ⟨A, cc, e⟩ := hu.bys.form
    exact ⟨_, _, _, e⟩
  have HU := Lib.hid hu
  have HR3 := Lib.hid hr3
  have HK3 := Lib.hid (show Keeps F w w3 from (Keeps.of_below H2.out.bel).no.trans hkp)
  have HT3 := Lib.hid (tab_keeps H2.out.tab hkp HF2.out)
  have HN3 := Lib.hid (H2.out.res.of_eq (hkp.block _ H2.out.res.lt HN.out.1))
  have HG3 := Lib.hid (show _ ∧ _ ∧ _ from ⟨(hkp.cell (o := 0) (block_lt_of_cell H2.out.g0) HN.out.2).trans H2.out.g0, (hkp.cell (o := 1) (block_lt_of_cell H2.out.g0) HN.out.2).trans H2.out.g1, (hkp.cell (o := 2) (block_lt_of_cell H2.out.g0) HN.out.2).trans H2.out.g2⟩)
  clear hu hr3 hkp H2 HR2
  obtain ⟨l, rerr⟩ := rd
  by_cases h0 : rerr ≠ 0
  · have hd0 : (rerr != 0) = true := by simpa using h0
    have HRE := Lib.hid (show ro = (s.tick, noSlt, rerr) by
      rw [← HRO.out]; unfold readOf
      rw [HER.out, if_neg (fun h => h rfl), HF.out.1, HF.out.2.1, HF.out.2.2, HRD.out, if_pos h0])
    clear h0
    have fr := HN3.out.frozen
    obtain ⟨c0, c1, c2, c3⟩ := HN3.out.four (.int .i64 0) (.int .i64 0) (.int .u64 0)
    go_wp2_with fail
    have HB := Lib.hid (HN3.out.sets4 (.int .i64 0) (.int .i64 0) (.int .u64 0) (.slice none 0 0))
    have HK := Lib.hid (keeps_sets4 HK3.out (w.heap.size + 1) (.inr (by omega)) (.int .i64 0) (.int .i64 0) (.int .u64 0) (.slice none 0 0))
    have HRR := Lib.hid (RefAt.sets4_ HR3.out HN.out.1 (.int .i64 0) (.int .i64 0) (.int .u64 0) (.slice none 0 0))
    change bodyPost _ _ _ _ _ (sets4 w3 (w.heap.size + 1) (.int .i64 0) (.int .i64 0) (.int .u64 0) (.slice none 0 0))
    generalize sets4 w3 (w.heap.size + 1) (.int .i64 0) (.int .i64 0) (.int .u64 0) (.slice none 0 0) = W5 at *
    obtain ⟨f0, f1, f2, f3⟩ := HB.out.c4
    (try simp only [Exit.inBlock, Exit.then])
    refine bodyPost_ret (by simp [results, Tryd.results16, go_sem, f0, f1, f2, f3]; try rfl) rfl ?_
    rw [HRE.out]
    exact ⟨HK.out, ⟨_, HS1.out, rfl, HRR.out⟩, none, 0, rfl, Nat.le_refl _, bytes_nil _ _⟩
  obtain rfl : rerr = 0 := by omega
  have HRH := Lib.hid (show ro = headOf s.tick l first a b c by
    rw [← HRO.out]; unfold readOf
    rw [HER.out, if_neg (fun h => h rfl), HF.out.1, HF.out.2.1, HF.out.2.2, HRD.out, if_neg (fun h => h rfl)])
  obtain ⟨A', c', hA', hcc, hby⟩ := bys_bytes (B := w3.heap.size) HU.out.bys (fun b _ hb => hb) HR8.out
  injection hA' with hA1 hA2 hA3
  subst hA1 hA2 hA3
  have HBY := Lib.hid (And.intro hcc hby)
  clear hcc hby
  generalize l.length = nu at *
  go_wp2_with fail
  refine (refDec_any _ _ _ w3.heap.size l w3 w3 (On.start HT3.out) HBY.out.1 HBY.out.2 (Nat.le_refl _)).mono ?_
  rintro e w4 ⟨rfl, hw4⟩
  have HK4 := Lib.hid (show Keeps F w w4 from HK3.out.trans (Keeps.of_below hw4.bel).no)
  have HR4 := Lib.hid (HR3.out.below_ hw4.bel)
  have HN4 := Lib.hid (HN3.out.of_eq (hw4.bel.block _ (lt_of_heap HN3.out)))
  have HG4 := Lib.hid (geo_below HG3.out hw4.bel)
  have HT4 := Lib.hid hw4.tab
  clear hw4 HR3 HN3 HG3
  obtain ⟨de, hde⟩ : ∃ de, decErr l = de := ⟨_, rfl⟩
  by_cases hd0 : de ≠ 0
  · rw [decT_of hde hd0]
    have hdb : (de != 0) = true := by simpa using hd0
    have HRE := Lib.hid (show ro = (s.tick, ⟨0, de, 0, []⟩, 0) by rw [HRH.out]; unfold headOf; rw [hde, if_pos hd0])
    have b5 := below_box w4 (.cells #[.int .i64 0, .int .i64 0, .int .i64 0, .int .i64 0, .int .u64 0, .int .u32 0] 83)
    have HK5 := Lib.hid (HK4.out.trans (Keeps.of_below b5).no)
    have HR5 := Lib.hid (HR4.out.below_ b5)
    have HN5 := Lib.hid (HN4.out.of_eq (b5.block _ (lt_of_heap HN4.out)))
    clear b5 hd0 hde
    go_upto_region 10 with fail
    generalize w4.alloc (.cells #[.int .i64 0, .int .i64 0, .int .i64 0, .int .i64 0, .int .u64 0, .int .u32 0] 83) = w5 at *
    have fr := HN5.out.frozen
    obtain ⟨c0, c1, c2, c3⟩ := HN5.out.four (.int .i64 0) (.int .i64 de) (.int .u64 0)
    go_wp2_with fail
    have HB := Lib.hid (HN5.out.sets4 (.int .i64 0) (.int .i64 de) (.int .u64 0) (.slice none 0 0))
    have HK := Lib.hid (keeps_sets4 HK5.out (w.heap.size + 1) (.inr (by omega)) (.int .i64 0) (.int .i64 de) (.int .u64 0) (.slice none 0 0))
    have HRR := Lib.hid (RefAt.sets4_ HR5.out HN.out.1 (.int .i64 0) (.int .i64 de) (.int .u64 0) (.slice none 0 0))
    change bodyPost _ _ _ _ _ (sets4 w5 (w.heap.size + 1) (.int .i64 0) (.int .i64 de) (.int .u64 0) (.slice none 0 0))
    generalize sets4 w5 (w.heap.size + 1) (.int .i64 0) (.int .i64 de) (.int .u64 0) (.slice none 0 0) = W5 at *
    obtain ⟨f0, f1, f2, f3⟩ := HB.out.c4
    (try simp only [Exit.inBlock, Exit.then])
    refine bodyPost_ret (by simp [results, Tryd.results16, go_sem, f0, f1, f2, f3]; try rfl) rfl ?_
    rw [HRE.out]
    exact ⟨HK.out, ⟨_, HS1.out, rfl, HRR.out⟩, none, 0, rfl, Nat.le_refl _, bytes_nil _ _⟩
  obtain rfl : de = 0 := by omega
  rw [decT_ok hde]
  unfold decH
  obtain ⟨v1, h1⟩ : ∃ v, num (Ks.part l 5 1) = v := ⟨_, rfl⟩
  obtain ⟨v2, h2⟩ : ∃ v, num (Ks.part l 6 1) = v := ⟨_, rfl⟩
  obtain ⟨v3, h3⟩ : ∃ v, num (Ks.part l 7 1) = v := ⟨_, rfl⟩
  obtain ⟨v4, h4⟩ : ∃ v, num (Ks.part l 8 4) = v := ⟨_, rfl⟩
  obtain ⟨v5, h5⟩ : ∃ v, num (Ks.part l 12 8) = v := ⟨_, rfl⟩
  obtain ⟨v6, h6⟩ : ∃ v, num (Ks.part l 20 4) = v := ⟨_, rfl⟩
  have HV := Lib.hid (show v1 = a ∧ v2 = b ∧ v3 = c → v4 = total a b c from fun hg => by rw [← h4]; exact dec_total hde (by rw [h1, h2, h3]; exact hg))
  have HRO2 := Lib.hid (show ro = if ¬ (v1 = a ∧ v2 = b ∧ v3 = c) then (s.tick, ⟨1, 0, 0, []⟩, 0) else sealedOf s.tick (first + 1) (many (total a b c).toNat z) (total a b c).toNat v5 v6 by
    rw [HRH.out]; unfold headOf
    rw [hde, if_neg (fun h => h rfl), h1, h2, h3, h5, h6]
    rw [show s.tick.size = z from HF.out.1])
  rw [h1, h2, h3, h4, h5, h6]
  have b5 := below_box w4 (.cells #[.int .i64 v1, .int .i64 v2, .int .i64 v3, .int .i64 v4, .int .u64 v5, .int .u32 v6] 83)
  have HY := Lib.hid (Blk.new w4 83 #[.int .i64 v1, .int .i64 v2, .int .i64 v3, .int .i64 v4, .int .u64 v5, .int .u32 v6])
  have HYN := Lib.hid (show ¬ F w4.heap.size from fun hf => by have := HR4.out.there _ hf; omega)
  have HK5 := Lib.hid (HK4.out.trans (Keeps.of_below b5).no)
  have HR5 := Lib.hid (HR4.out.below_ b5)
  have HN5 := Lib.hid (HN4.out.of_eq (b5.block _ (lt_of_heap HN4.out)))
  have HG5 := Lib.hid (geo_below HG4.out b5)
  have HT5 := Lib.hid (tab_below HT4.out b5 (tab_pos HT4.out))
  clear b5 hde h1 h2 h3 h4 h5 h6 HR4 HN4 HG4 HT4 HRH
  go_upto_region 9 with fail
  generalize hyb : w4.heap.size = yb at *
  clear hyb
  generalize w4.alloc (.cells #[.int .i64 v1, .int .i64 v2, .int .i64 v3, .int .i64 v4, .int .u64 v5, .int .u32 v6] 83) = w5 at *
  obtain ⟨y0, y1, y2⟩ := (show _ ∧ _ ∧ _ from ⟨HY.out.cell 0, HY.out.cell 1, HY.out.cell 2⟩)
  simp only [List.getElem?_toArray, List.getElem?_cons_zero, List.getElem?_cons_succ] at y0 y1 y2
  obtain ⟨g0, g1, g2⟩ := HG5.out
  by_cases hg : v1 = a ∧ v2 = b ∧ v3 = c
  rotate_left
  · have HRE := Lib.hid (show ro = (s.tick, ⟨1, 0, 0, []⟩, 0) by rw [HRO2.out, if_pos hg])
    have h3 : v1 ≠ a ∨ (v1 = a ∧ v2 ≠ b) ∨ (v1 = a ∧ v2 = b ∧ v3 ≠ c) := by omega
    clear hg HV HRO2
    rcases h3 with e1 | ⟨e1, e2⟩ | ⟨e1, e2, e3⟩
    · have q1 : (v1 == a) = false := by simpa using e1
      have fr := HN5.out.frozen
      obtain ⟨c0, c1, c2, c3⟩ := HN5.out.four (.int .i64 1) (.int .i64 0) (.int .u64 0)
      go_wp2_with fail
      have HB := Lib.hid (HN5.out.sets4 (.int .i64 1) (.int .i64 0) (.int .u64 0) (.slice none 0 0))
      have HK := Lib.hid (keeps_sets4 HK5.out (w.heap.size + 1) (.inr (by omega)) (.int .i64 1) (.int .i64 0) (.int .u64 0) (.slice none 0 0))
      have HRR := Lib.hid (RefAt.sets4_ HR5.out HN.out.1 (.int .i64 1) (.int .i64 0) (.int .u64 0) (.slice none 0 0))
      change bodyPost _ _ _ _ _ (sets4 w5 (w.heap.size + 1) (.int .i64 1) (.int .i64 0) (.int .u64 0) (.slice none 0 0))
      generalize sets4 w5 (w.heap.size + 1) (.int .i64 1) (.int .i64 0) (.int .u64 0) (.slice none 0 0) = W5 at *
      obtain ⟨f0, f1, f2, f3⟩ := HB.out.c4
      (try simp only [Exit.inBlock, Exit.then])
      refine bodyPost_ret (by simp [results, Tryd.results16, go_sem, f0, f1, f2, f3]; try rfl) rfl ?_
      rw [HRE.out]
      exact ⟨HK.out, ⟨_, HS1.out, rfl, HRR.out⟩, none, 0, rfl, Nat.le_refl _, bytes_nil _ _⟩
    · subst e1
      have q1 : (v2 == b) = false := by simpa using e2
      have fr := HN5.out.frozen
      obtain ⟨c0, c1, c2, c3⟩ := HN5.out.four (.int .i64 1) (.int .i64 0) (.int .u64 0)
      go_wp2_with fail
      have HB := Lib.hid (HN5.out.sets4 (.int .i64 1) (.int .i64 0) (.int .u64 0) (.slice none 0 0))
      have HK := Lib.hid (keeps_sets4 HK5.out (w.heap.size + 1) (.inr (by omega)) (.int .i64 1) (.int .i64 0) (.int .u64 0) (.slice none 0 0))
      have HRR := Lib.hid (RefAt.sets4_ HR5.out HN.out.1 (.int .i64 1) (.int .i64 0) (.int .u64 0) (.slice none 0 0))
      change bodyPost _ _ _ _ _ (sets4 w5 (w.heap.size + 1) (.int .i64 1) (.int .i64 0) (.int .u64 0) (.slice none 0 0))
      generalize sets4 w5 (w.heap.size + 1) (.int .i64 1) (.int .i64 0) (.int .u64 0) (.slice none 0 0) = W5 at *
      obtain ⟨f0, f1, f2, f3⟩ := HB.out.c4
      (try simp only [Exit.inBlock, Exit.then])
      refine bodyPost_ret (by simp [results, Tryd.results16, go_sem, f0, f1, f2, f3]; try rfl) rfl ?_
      rw [HRE.out]
      exact ⟨HK.out, ⟨_, HS1.out, rfl, HRR.out⟩, none, 0, rfl, Nat.le_refl _, bytes_nil _ _⟩
    · subst e1 e2
      have q1 : (v3 == c) = false := by simpa using e3
      have fr := HN5.out.frozen
      obtain ⟨c0, c1, c2, c3⟩ := HN5.out.four (.int .i64 1) (.int .i64 0) (.int .u64 0)
      go_wp2_with fail
      have HB := Lib.hid (HN5.out.sets4 (.int .i64 1) (.int .i64 0) (.int .u64 0) (.slice none 0 0))
      have HK := Lib.hid (keeps_sets4 HK5.out (w.heap.size + 1) (.inr (by omega)) (.int .i64 1) (.int .i64 0) (.int .u64 0) (.slice none 0 0))
      have HRR := Lib.hid (RefAt.sets4_ HR5.out HN.out.1 (.int .i64 1) (.int .i64 0) (.int .u64 0) (.slice none 0 0))
      change bodyPost _ _ _ _ _ (sets4 w5 (w.heap.size + 1) (.int .i64 1) (.int .i64 0) (.int .u64 0) (.slice none 0 0))
      generalize sets4 w5 (w.heap.size + 1) (.int .i64 1) (.int .i64 0) (.int .u64 0) (.slice none 0 0) = W5 at *
      obtain ⟨f0, f1, f2, f3⟩ := HB.out.c4
      (try simp only [Exit.inBlock, Exit.then])
      refine bodyPost_ret (by simp [results, Tryd.results16, go_sem, f0, f1, f2, f3]; try rfl) rfl ?_
      rw [HRE.out]
      exact ⟨HK.out, ⟨_, HS1.out, rfl, HRR.out⟩, none, 0, rfl, Nat.le_refl _, bytes_nil _ _⟩
  obtain ⟨rfl, rfl, rfl⟩ := hg
  have hv4 := HV.out ⟨rfl, rfl, rfl⟩
  have htt := total_lt v1 v2 v3
  obtain ⟨t, ht⟩ : ∃ t : Nat, total v1 v2 v3 = t := ⟨(total v1 v2 v3).toNat, by omega⟩
  have HRE0 := Lib.hid (show ro = sealedOf s.tick (first + 1) (many t z) t v5 v6 by
    rw [HRO2.out, if_neg (fun h => h ⟨rfl, rfl, rfl⟩), ht, Int.toNat_natCast])
  have HM2 := Lib.hid (show m + 1 + many t z < 1000000 by have := HM.out; rw [ht, Int.toNat_natCast] at this; exact this)
  have hER := HER.out
  have hri : right v1 v2 v3 = true ∧ 32 ≤ z := by
    unfold findErr at hER
    split at hER
    · cases hER
    rename_i hx
    split at hER
    · cases hER
    exact ⟨by simpa using hx, by have := HF.out.1; omega⟩
  have ht5 : t ≤ 500 := by
    have := H5.out
    unfold few500 at this
    rw [hri.1, ht] at this
    simp at this
    omega
  have hz32 := hri.2
  have hspn := span_eq hri.1 hri.2 HZ4.out ht.symm
  rw [HF.out.2.1] at hspn
  have hmb := many_bounds t z (by omega) HZ4.out
  rw [ht] at hv4 htt
  subst hv4
  obtain ⟨n, hnm⟩ : ∃ n, many t z = n := ⟨_, rfl⟩
  rw [hnm] at hspn hmb HM2 HRE0
  have hn5 : n ≤ 500 := by omega
  have HMB := Lib.hid hmb
  have HSPN := Lib.hid hspn
  have HFT := Lib.hid (show ∀ b, F b → b < w5.heap.size from HR5.out.there)
  have HO1 := Lib.hid HO.out.tick
  have HZT := Lib.hid (show s.tick.size = z from HF.out.1)
  clear htt ht HV HRO2 hER hri hmb hnm hspn
  go_wp2_with fail
  go_loopw [14, 15] (fun V i wr => ∃ k : Nat, k ≤ n ∧ i = .int .i64 (1 + k) ∧ RLoadAt w5 q F s.tick r.plans (first + 1) k V wr) (fun _ i _ => 1 + n - (iv i).toNat)
  case atStart => exact ⟨0, Nat.zero_le _, rfl, rfl, ⟨_, HS1.out, rfl, HR5.out⟩, Keeps.refl _ _, own_nil _ _⟩
  case round =>
    obtain ⟨k, hk, rfl, hat⟩ := hrel
    have HAT := Lib.hid hat
    clear hat
    obtain ⟨A, nq, cc, rfl⟩ : ∃ A q cc, u14 = .slice A q cc := by
      rcases HAT.out.own.2 with ⟨e, _⟩ | ⟨g, cap, cur, e, _⟩ <;> exact ⟨_, _, _, e⟩
    obtain ⟨rk, hsk, hpk, hrk⟩ := HAT.out.ref
    have HRK := Lib.hid (And.intro hsk (And.intro hpk hrk))
    have HKW := Lib.hid HAT.out.keeps
    have HTK := Lib.hid (tab_keeps HT5.out HKW.out HF2.out)
    have hal := loads_alike s.tick (first + 1) k
    obtain ⟨x0, _⟩ := ref_cells hrk
    rw [← hsk.size, hal.size, HZT.out] at x0
    have k0 := (HKW.out.cell (o := 0) (block_lt_of_cell HG5.out.1) HN.out.2).trans HG5.out.1
    have k1 := (HKW.out.cell (o := 1) (block_lt_of_cell HG5.out.1) HN.out.2).trans HG5.out.2.1
    have k2 := (HKW.out.cell (o := 2) (block_lt_of_cell HG5.out.1) HN.out.2).trans HG5.out.2.2
    have r0 := fun d os => cell_regrown x0 d os
    have r1 := fun d os => cell_regrown k0 d os
    have r2 := fun d os => cell_regrown k1 d os
    have r3 := fun d os => cell_regrown k2 d os
    clear hsk hpk hrk hal x0 y0 y1 y2 g0 g1 g2 k0 k1 k2
    go_wp2_with fail
    refine wp_region_quiet_below (by kernel_rfl) (by kernel_rfl) ?_
    iterate 6 go_big_quiet_step (fail)
    go_big_quiet_step ((refine refSpan_in wr _ z v1 v2 v3 sp HTK.out HF.out.2.1))
    repeat (go_big_quiet_step (fail))
    refine wpQuiet_nil ?_
    rintro w' ⟨qq, rfl⟩
    have HAT2 := Lib.hid (HAT.out.below (in_below wr qq))
    clear r0 r1 r2 r3 HAT HTK HKW HRK
    change Exit.then _ _ _ _ (In wr qq)
    generalize In wr qq = wx at *
    obtain ⟨rk, hsk, hpk, hrk⟩ := HAT2.out.ref
    have HRK := Lib.hid (And.intro hsk (And.intro hpk hrk))
    clear hsk hpk hrk
    by_cases hlt : k < n
    · have hlt' : (1 : Int) + (k : Int) < sp := by have := HSPN.out; omega
      obtain ⟨j, hj⟩ : ∃ j, first + (1 + (k : Int)) = j := ⟨_, rfl⟩
      have HJE := Lib.hid (show first + 1 + (k : Int) = j by omega)
      have HOK := Lib.hid (loads_ok HO1.out (first + 1) k).1
      have HAL := Lib.hid (loads_alike s.tick (first + 1) k)
      have HEA := Lib.hid (sim_each HS1.out (first + 1) k HAT2.out.err)
      go_wp2_with fail
      obtain ⟨rd, hrd⟩ : ∃ rd, Dsk.St.read (loads s.tick (first + 1) k).1 j = rd := ⟨_, rfl⟩
      have HR8 := Lib.hid (show In8 rd.1 from hrd ▸ HOK.out.read j)
      refine (Dsk.refRead_any wx q F rk j HRK.out.2.2 (by rw [← HRK.out.1.ops]; have := HOK.out.ops; have := HM2.out; omega) (by rw [HRK.out.2.1]; exact HPL.out) (by rw [← HRK.out.1.last]; exact HOK.out.len) (by rw [← HRK.out.1.size]; exact HOK.out.size)).mono ?_
      rw [← HRK.out.1.read j, hrd]
      rintro e wy ⟨u, rfl, hu, hry, hky⟩
      obtain ⟨Au2, nu2, cu2, rfl⟩ : ∃ A q cc, u = .slice A q cc := by
        obtain ⟨A, cc, e⟩ := hu.bys.form
        exact ⟨_, _, _, e⟩
      obtain ⟨l2, re2⟩ := rd
      obtain ⟨A', c', hA', hcc, hby⟩ := bys_bytes (B := wy.heap.size) hu.bys (fun b _ hb => hb) HR8.out
      injection hA' with hA1 hA2 hA3
      subst hA1 hA2 hA3
      have HBY2 := Lib.hid hby
      have HRY := Lib.hid (And.intro HRK.out.1.tick (And.intro HRK.out.2.1 hry))
      have HKY := Lib.hid (HAT2.out.keeps.trans hky)
      have HOW := Lib.hid (own_keeps HAT2.out.own hky (fun g hg hf => by have h1 := (Own.lt HAT2.out.own hg).1; have h2 := HFT.out g hf; omega))
      have HRD := Lib.hid hrd
      clear hu hry hky hcc hby hrd
      by_cases h0 : re2 = 0
      · subst h0
        have HE1 := Lib.hid (loads_succ s.tick (first + 1) k HAT2.out.err)
        have hfl := flat_len (loads s.tick (first + 1) k).2.1 z (fun x hx => by rw [loads_len _ _ _ HAT2.out.err] at hx; rw [HEA.out x hx]; exact HZT.out)
        rw [loads_len _ _ _ HAT2.out.err] at hfl
        have hkz : k * z ≤ 4596 := by
          have h1 := Nat.mul_le_mul_right z (show k ≤ n by omega)
          have h2 := HMB.out.2.1
          have h3 := HZ4.out
          omega
        have hl2 : l2.length ≤ 4096 := by
          have := sim_each HS1.out (first + 1) (k + 1) (by rw [HE1.out, HJE.out, HRD.out]) k (by omega)
          rw [HE1.out, HJE.out, HRD.out, getD_right (by rw [loads_len _ _ _ HAT2.out.err]; omega), loads_len _ _ _ HAT2.out.err, Nat.sub_self] at this
          simp only [List.getD_cons_zero] at this
          rw [this, HZT.out]; exact HZ4.out
        generalize l2.length = nu2 at *
        obtain ⟨V', wz, hrun, hV', hbz⟩ := append_own wy w5.heap.size 27 _ _ HOW.out Au2 nu2 cu2 wy.heap.size l2 HBY2.out (by omega) HKY.out.size
        have HRUN := Lib.hid hrun
        have R := Lib.hid (show RLoadAt w5 q F s.tick r.plans (first + 1) (k + 1) V' wz from
          ⟨by rw [HE1.out, HJE.out, HRD.out], ⟨rk.tick, by rw [HE1.out]; exact HRY.out.1, HRY.out.2.1, HRY.out.2.2.keeps (S := fun b => w5.heap.size ≤ b) ⟨hbz.os, hbz.tape, hbz.output, hbz.size, fun x _ hx => hbz.block x (by omega)⟩ (fun b hb hx => by have := HFT.out b hb; omega)⟩,
            HKY.out.then (T := fun b => w5.heap.size ≤ b) ⟨hbz.os, hbz.tape, hbz.output, hbz.size, fun x _ hx => hbz.block x (by omega)⟩ (fun b hb => .inr hb), by rw [HE1.out, HJE.out, HRD.out, List.flatten_append]; simpa using hV'⟩)
        clear hrun hV' hbz hfl hkz hl2
        go_wp2_with (at_builtin; refine Lib.wpList_append_run _ rfl _ _ _ _ rfl _ _ rfl rfl _ _ HRUN.out ?_)
        go_roundw
        case rel => exact ⟨k + 1, by omega, by go_num, R.out⟩
        case measure => simp [iv]; omega
      · have hd0 : (re2 != 0) = true := by simpa using h0
        have HE := Lib.hid (show loads s.tick (first + 1) n = ((loads s.tick (first + 1) k).1.tick, (loads s.tick (first + 1) k).2.1 ++ [l2], re2) by
          have e1 := loads_succ s.tick (first + 1) k HAT2.out.err
          rw [HJE.out, HRD.out] at e1
          rw [loads_stop s.tick (first + 1) (k + 1) n (by rw [e1]; exact h0) (by omega), e1])
        have HRE := Lib.hid (show ro = ((loads s.tick (first + 1) k).1.tick, noSlt, re2) by
          rw [HRE0.out]; unfold sealedOf; rw [HE.out, if_pos h0])
        have HN7 := Lib.hid (HN5.out.of_eq (HKY.out.block _ (lt_of_heap HN5.out) HN.out.1))
        have HK7 := Lib.hid (HK5.out.trans HKY.out)
        generalize l2.length = nu2 at *
        have fr := HN7.out.frozen
        obtain ⟨c0, c1, c2, c3⟩ := HN7.out.four (.int .i64 0) (.int .i64 0) (.int .u64 0)
        go_wp2_with fail
        have HB := Lib.hid (HN7.out.sets4 (.int .i64 0) (.int .i64 0) (.int .u64 0) (.slice none 0 0))
        have HK := Lib.hid (keeps_sets4 HK7.out (w.heap.size + 1) (.inr (by omega)) (.int .i64 0) (.int .i64 0) (.int .u64 0) (.slice none 0 0))
        have HRR := Lib.hid (RefAt.sets4_ HRY.out.2.2 HN.out.1 (.int .i64 0) (.int .i64 0) (.int .u64 0) (.slice none 0 0))
        change bodyPost _ _ _ _ _ (sets4 wy (w.heap.size + 1) (.int .i64 0) (.int .i64 0) (.int .u64 0) (.slice none 0 0))
        generalize sets4 wy (w.heap.size + 1) (.int .i64 0) (.int .i64 0) (.int .u64 0) (.slice none 0 0) = W5 at *
        obtain ⟨f0, f1, f2, f3⟩ := HB.out.c4
        (try simp only [Exit.inBlock, Exit.then])
        refine bodyPost_ret (by simp [results, Tryd.results16, go_sem, f0, f1, f2, f3]; try rfl) rfl ?_
        rw [HRE.out]
        exact ⟨HK.out, ⟨_, HRY.out.1, HRY.out.2.1, HRR.out⟩, none, 0, rfl, Nat.le_refl _, bytes_nil _ _⟩
    · obtain rfl : k = n := by omega
      have hlt' : ¬ (1 : Int) + (k : Int) < sp := by have := HSPN.out; omega
      have HEA := Lib.hid (sim_each HS1.out (first + 1) k HAT2.out.err)
      have hfl := flat_len (loads s.tick (first + 1) k).2.1 z (fun x hx => by rw [loads_len _ _ _ HAT2.out.err] at hx; rw [HEA.out x hx]; exact HZT.out)
      rw [loads_len _ _ _ HAT2.out.err] at hfl
      have h8 : In8 (loads s.tick (first + 1) k).2.1.flatten := fun v hv => by
        obtain ⟨x, hx, hvx⟩ := List.mem_flatten.1 hv
        exact loads_in8 HO1.out (first + 1) k x hx v hvx
      obtain ⟨htc, hbt⟩ := own_take (t := t) HAT2.out.own h8 (by rw [hfl]; exact HMB.out.1)
      have hqc : nq ≤ cc ∧ nq = k * z := by
        obtain ⟨A', c', e, hc, _⟩ := Own.bytes HAT2.out.own h8
        injection e with e1 e2 e3
        omega
      have HBT := Lib.hid hbt
      have HGL := Lib.hid (show (loads s.tick (first + 1) k).2.1.flatten.take t = glued (loads s.tick (first + 1) k).2.1 t from rfl)
      have HY6 := Lib.hid (HY.out.of_eq (HAT2.out.keeps.block _ (lt_of_heap HY.out) HYN.out))
      have hy3 := HY6.out.cell 3
      have hy4 := HY6.out.cell 4
      have hy5 := HY6.out.cell 5
      simp only [List.getElem?_toArray, List.getElem?_cons_zero, List.getElem?_cons_succ] at hy3 hy4 hy5
      have htcI : (t : Int) ≤ (cc : Int) := by omega
      obtain ⟨su, hsu⟩ : ∃ su, sumOf (glued (loads s.tick (first + 1) k).2.1 t) = su := ⟨_, rfl⟩
      have HSU := Lib.hid hsu
      have HKX := Lib.hid HAT2.out.keeps
      have HER2 := Lib.hid HAT2.out.err
      clear hbt h8 hfl hsu
      go_upto_region 22 with fail
      have r5 := fun d os => cell_regrown hy5 d os
      clear hy3 hy4 hy5
      refine wp_region_quiet_below (by kernel_rfl) (by kernel_rfl) ?_
      go_big_quiet_step (fail)
      go_big_quiet_step ((refine refSum_in wx _ A t cc _ su (by omega) HBT.out (by rw [HGL.out]; exact HSU.out)))
      repeat (go_big_quiet_step (fail))
      refine wpQuiet_nil ?_
      rintro w' ⟨qq, rfl⟩
      have b7 := in_below wx qq
      have HAT3 := Lib.hid (HAT2.out.below b7)
      have HY7 := Lib.hid (HY6.out.of_eq (b7.block _ (lt_of_heap HY6.out)))
      have HRK7 := Lib.hid (HRK.out.2.2.below_ b7)
      have HN7 := Lib.hid (HN5.out.of_eq (HAT3.out.keeps.block _ (lt_of_heap HN5.out) HN.out.1))
      have HK7 := Lib.hid (HK5.out.trans HAT3.out.keeps)
      clear r5 b7
      change Exit.then _ _ _ _ (In wx qq)
      generalize In wx qq = w7 at *
      by_cases hs : su = v6
      rotate_left
      · have hsb : (su != v6) = true := by simpa using hs
        have HRE := Lib.hid (show ro = ((loads s.tick (first + 1) k).1, ⟨0, 8, 0, []⟩, 0) by
          rw [HRE0.out]; unfold sealedOf; rw [if_neg (fun h => h HER2.out), HSU.out, if_pos hs])
        have fr := HN7.out.frozen
        obtain ⟨c0, c1, c2, c3⟩ := HN7.out.four (.int .i64 0) (.int .i64 8) (.int .u64 0)
        go_wp2_with fail
        have HB := Lib.hid (HN7.out.sets4 (.int .i64 0) (.int .i64 8) (.int .u64 0) (.slice none 0 0))
        have HK := Lib.hid (keeps_sets4 HK7.out (w.heap.size + 1) (.inr (by omega)) (.int .i64 0) (.int .i64 8) (.int .u64 0) (.slice none 0 0))
        have HRR := Lib.hid (RefAt.sets4_ HRK7.out HN.out.1 (.int .i64 0) (.int .i64 8) (.int .u64 0) (.slice none 0 0))
        change bodyPost _ _ _ _ _ (sets4 w7 (w.heap.size + 1) (.int .i64 0) (.int .i64 8) (.int .u64 0) (.slice none 0 0))
        generalize sets4 w7 (w.heap.size + 1) (.int .i64 0) (.int .i64 8) (.int .u64 0) (.slice none 0 0) = W5 at *
        obtain ⟨f0, f1, f2, f3⟩ := HB.out.c4
        (try simp only [Exit.inBlock, Exit.then])
        refine bodyPost_ret (by simp [results, Tryd.results16, go_sem, f0, f1, f2, f3]; try rfl) rfl ?_
        rw [HRE.out]
        exact ⟨HK.out, ⟨_, HRK.out.1, HRK.out.2.1, HRR.out⟩, none, 0, rfl, Nat.le_refl _, bytes_nil _ _⟩
      · subst hs
        have hsb : (su != su) = false := by simp
        have hgl : (glued (loads s.tick (first + 1) k).2.1 t).length = t := by rw [← HGL.out]; exact HBT.out.1
        have HGG := Lib.hid hgl
        have HRE := Lib.hid (show ro = ((loads s.tick (first + 1) k).1, ⟨2, 0, v5, glued (loads s.tick (first + 1) k).2.1 t⟩, 0) by
          rw [HRE0.out]; unfold sealedOf; rw [if_neg (fun h => h HER2.out), HSU.out, if_neg (fun h => h rfl)])
        have hy4 := HY7.out.cell 4
        simp only [List.getElem?_toArray, List.getElem?_cons_zero, List.getElem?_cons_succ] at hy4
        have HTC := Lib.hid htc
        clear hgl
        have fr := HN7.out.frozen
        obtain ⟨c0, c1, c2, c3⟩ := HN7.out.four (.int .i64 2) (.int .i64 0) (.int .u64 v5)
        go_wp2_with fail
        have HB := Lib.hid (HN7.out.sets4 (.int .i64 2) (.int .i64 0) (.int .u64 v5) (.slice A t cc))
        have HK := Lib.hid (keeps_sets4 HK7.out (w.heap.size + 1) (.inr (by omega)) (.int .i64 2) (.int .i64 0) (.int .u64 v5) (.slice A t cc))
        have HRR := Lib.hid (RefAt.sets4_ HRK7.out HN.out.1 (.int .i64 2) (.int .i64 0) (.int .u64 v5) (.slice A t cc))
        have HBZ := Lib.hid (show Bytes (sets4 w7 (w.heap.size + 1) (.int .i64 2) (.int .i64 0) (.int .u64 v5) (.slice A t cc)) (sets4 w7 (w.heap.size + 1) (.int .i64 2) (.int .i64 0) (.int .u64 v5) (.slice A t cc)).heap.size A t (glued (loads s.tick (first + 1) k).2.1 t) from by
          have ho := own_keeps HAT3.out.own (sets4_one w7 (w.heap.size + 1) (.int .i64 2) (.int .i64 0) (.int .u64 v5) (.slice A t cc)) (own_ne HAT3.out.own HN7.out (by decide))
          have h8 : In8 (loads s.tick (first + 1) k).2.1.flatten := fun v hv => by
            obtain ⟨x, hx, hvx⟩ := List.mem_flatten.1 hv
            exact loads_in8 HO1.out (first + 1) k x hx v hvx
          have hle : t ≤ (loads s.tick (first + 1) k).2.1.flatten.length := by
            have := HBT.out.1
            rw [List.length_take] at this
            omega
          exact (own_take ho h8 hle).2)
        change bodyPost _ _ _ _ _ (sets4 w7 (w.heap.size + 1) (.int .i64 2) (.int .i64 0) (.int .u64 v5) (.slice A t cc))
        generalize sets4 w7 (w.heap.size + 1) (.int .i64 2) (.int .i64 0) (.int .u64 v5) (.slice A t cc) = W5 at *
        obtain ⟨f0, f1, f2, f3⟩ := HB.out.c4
        (try simp only [Exit.inBlock, Exit.then])
        refine bodyPost_ret (by simp [results, Tryd.results16, go_sem, f0, f1, f2, f3]; try rfl) rfl ?_
        rw [HRE.out]
        refine ⟨HK.out, ⟨_, HRK.out.1, HRK.out.2.1, HRR.out⟩, A, cc, ?_, ?_, ?_⟩
        · show _ = Ending.returned (.tuple #[slotV 2 0 v5 (.slice A (glued (loads s.tick (first + 1) k).2.1 t).length cc), .int .i64 0])
          rw [HGG.out]
        · show (glued (loads s.tick (first + 1) k).2.1 t).length ≤ cc
          rw [HGG.out]; exact HTC.out
        · show Bytes W5 W5.heap.size A (glued (loads s.tick (first + 1) k).2.1 t).length (glued (loads s.tick (first + 1) k).2.1 t)
          rw [HGG.out]
          exact HBZ.out
end Go.Proofs.YtpbhkkcboppdmaaDoor
namespace Go.Proofs.YtpbhkkcboppdmaaDoor
open Ks Go.RowKit
set_option maxRecDepth 20000

theorem slotSame_any (w : World) (st why sq : Int) (A1 A2 : Option Addr) (n c1 c2 : Nat) (l : List Int) (hn : n ≤ maxLen) (ha : Bytes w w.heap.size A1 n l) (hb : Bytes w w.heap.size A2 n l) :
    Calls Tryd.prog 17 #[slotV st why sq (.slice A1 n c1), slotV st why sq (.slice A2 n c2)] w fun e w' => e = .returned (.bool true) ∧ Below w.heap.size w w' := by
  have b1 := below_box w (.cells #[.int .i64 st, .int .i64 why, .int .u64 sq, .slice A1 n c1] 37)
  have b2 := below_box (w.alloc (.cells #[.int .i64 st, .int .i64 why, .int .u64 sq, .slice A1 n c1] 37)) (.cells #[.int .i64 st, .int .i64 why, .int .u64 sq, .slice A2 n c2] 37)
  have HB := Lib.hid (b1.trans (b2.mono b1.size))
  have HX := Lib.hid ((Blk.new w 37 #[.int .i64 st, .int .i64 why, .int .u64 sq, .slice A1 n c1]).of_eq (b2.block _ (by simp)))
  have hy := Blk.new (w.alloc (.cells #[.int .i64 st, .int .i64 why, .int .u64 sq, .slice A1 n c1] 37)) 37 #[.int .i64 st, .int .i64 why, .int .u64 sq, .slice A2 n c2]
  rw [size_alloc] at hy
  have HY := Lib.hid hy
  have HL := Lib.hid (And.intro (bytes_below ha HB.out) (bytes_below hb HB.out))
  have e1 : (st != st) = false := by simp
  have e2 : (why != why) = false := by simp
  have e3 : (sq != sq) = false := by simp
  clear b1 b2 hy ha hb
  go_enter Tryd.func17, Tryd.ntmps17
  go_upto_region 1 with fail
  generalize (w.alloc (.cells #[.int .i64 st, .int .i64 why, .int .u64 sq, .slice A1 n c1] 37)).alloc (.cells #[.int .i64 st, .int .i64 why, .int .u64 sq, .slice A2 n c2] 37) = W at *
  obtain ⟨x0, x1, x2, x3⟩ := HX.out.c4
  obtain ⟨y0, y1, y2, y3⟩ := HY.out.c4
  go_wp2_with fail
  refine (same_refl _ _ n _ _ _ l _ hn HL.out.1 HL.out.2 HB.out.size).mono ?_
  rintro e w1 ⟨rfl, hb1⟩
  have HE := Lib.hid (HB.out.trans (hb1.mono HB.out.size))
  clear hb1
  go_wp2_with fail
  go_ret
  exact ⟨rfl, HE.out⟩
/-- append as one step of a region that draws, of any source -/
theorem step_append' {P : Program} {ops : Array Oper} {o : Oper} {a : Act} {w : World} {K : Act → World → Prop} {Q : Exit → Act → World → Prop} {E : Prop}
    (hg : o.guard = none) (s x : Operand) (t t' : TypeId) (hop : o.op = Op.call { callee := Callee.builtin Builtin.append, args := #[s, x], argTypes := #[t, t'] })
    (v u : Value) (hs : a.eval s = v) (hx : a.eval x = u) (R : Value → World → Prop) (hrun : ∃ v' w', (Builtin.append_ #[t, t'] o.type #[v, u]).run P w = .ok v' w' ∧ R v' w')
    (hK : ∀ v' w', R v' w' → K (a.put o.dst v') w') :
    if Region.wanted o (yielded ops a.tmps) = true then Oper.wp P o a w K Q else E := by
  have hw : Region.wanted o (yielded ops a.tmps) = true := by simp [Region.wanted, hg]
  rw [if_pos hw]
  obtain ⟨v', w', hr, hR⟩ := hrun
  have := hK v' w' hR
  unfold Oper.wp
  simp [execOp, hop, resolve, invoke, builtin, hs, hx, hr, Result.andThen]
  exact this
/-- bytes of one's own, behind world w -/
def Mine (w : World) (l : List Int) (v : Value) (w' : World) : Prop := Own w.heap.size w' v l ∧ Below w.heap.size w w'
theorem mine_copy (w W : World) (ty : Nat) (A : Option Addr) (n c : Nat) (l : List Int) (hl : Bytes w w.heap.size A n l) (hn : n ≤ 1000000) (hW : W = (w.alloc (.cells #[] 5)) ∨ W = (w.alloc (.cells #[] 5)).drew ∨ W = w.drew.alloc (.cells #[] 5)) :
    ∃ v' w', (Builtin.append_ #[27, 27] ty #[.slice (some ⟨w.heap.size, 0, none⟩) 0 0, .slice A n c]).run Tryd.prog W = .ok v' w' ∧ Mine w l v' w' := by
  have hb : Below w.heap.size w W := by
    rcases hW with rfl | rfl | rfl
    · exact below_box w _
    · exact (below_box w _).drew
    · exact (Below.refl _ w).drew.alloc (Nat.le_refl _) _
  have ho : Own w.heap.size W (.slice (some ⟨w.heap.size, 0, none⟩) 0 0) [] := by
    rcases hW with rfl | rfl | rfl
    · exact own_none w.heap.size w _ (Nat.le_refl _) rfl
    · exact own_none w.heap.size w _ (Nat.le_refl _) rfl
    · exact own_none w.heap.size w.drew _ (Nat.le_refl _) rfl
  obtain ⟨v', w', hr, h1, h2⟩ := append_own W w.heap.size ty _ [] ho A n c w.heap.size l (bytes_below hl hb) (by simp; omega) hb.size
  exact ⟨v', w', hr, by simpa using h1, hb.trans h2⟩
theorem mine_zeros (w W : World) (ty k : Nat) (v : Value) (l : List Int) (h : Mine w l v W) (hn : l.length ≤ 1000000) (hk : k ≤ 1000) :
    ∃ v' w', (Builtin.append_ #[27, 3] ty #[v, .int .i64 k]).run Tryd.prog W = .ok v' w' ∧ Mine w (l ++ List.replicate k 0) v' w' := by
  obtain ⟨i0, hi, hz0, hz1, hz2⟩ := info_parts info5
  obtain ⟨v', w', hr, h1, h2⟩ := zeros_own (P := Tryd.prog) W w.heap.size 27 3 ty 5 i0 (.int .u8 0) .i64 .i64 Tryd.underlying27 Tryd.underlying3 hi hz0 hz1 hz2 rfl rfl v l.length _ h.1 k (by unfold maxLen; omega) (by omega) h.2.size
  refine ⟨v', w', hr, ?_, h.2.trans ⟨h2.os, h2.tape, h2.output, h2.size, fun x hx => h2.block x (Nat.lt_of_lt_of_le hx h.2.size) (fun e => ?_)⟩⟩
  · show w'.ownsRow w.heap.size 5 1 v' (l ++ List.replicate k (0 : Int)).length ((l ++ List.replicate k (0 : Int)).map (Value.int .u8))
    rw [List.length_append, List.length_replicate, List.map_append, List.map_replicate]
    exact h1
  · have := (Own.lt h.1 e.symm).1
    omega
theorem chunks_flat {n m : Nat} {bs : List Int} (hb : bs.length = m * n) : (Dsk.chunks n m bs).flatten = bs := by
  have h : ∀ k, k ≤ m → ((List.range k).map (Dsk.chunk n bs)).flatten = bs.take (k * n) := by
    intro k
    induction k with
    | zero => intro _; simp
    | succ k ih =>
      intro hk
      rw [List.range_succ, List.map_append, List.flatten_append, ih (by omega)]
      simp only [List.map_cons, List.map_nil, List.flatten_cons, List.flatten_nil, List.append_nil]
      unfold Dsk.chunk
      rw [Nat.add_mul, Nat.one_mul, List.take_add]
  have := h m (Nat.le_refl _)
  unfold Dsk.chunks
  rw [this, ← hb, List.take_length]
theorem chunks_in {n m : Nat} {bs : List Int} (h8 : In8 bs) : ∀ x ∈ Dsk.chunks n m bs, In8 x := by
  intro x hx v hv
  obtain ⟨k, _, rfl⟩ := List.mem_map.1 hx
  exact h8 v (List.mem_of_mem_drop (List.mem_of_mem_take hv))
theorem sim_open (n m : Nat) (bs : List Int) (hb : bs.length = m * n) : Dsk.Sim (Dsk.fresh n (Dsk.chunks n m bs)) (Dsk.rfresh n (Dsk.chunks n m bs)) := by
  have hnone : ∀ (L : List (List Int)) (k : Nat), (L.map fun _ => (none : Option (List Int))).getD k none = none := fun L k => by
    simp only [List.getD, List.getElem?_map]
    cases L[k]? <;> rfl
  refine ⟨rfl, rfl, by simp [Dsk.rfresh], fun k => ?_, fun _ _ => rfl, rfl, rfl, fun k _ => ?_, fun i hi => ?_, fun i bs' h => ?_⟩
  · exact (hnone _ k).symm
  · show false = decide (k ∈ ([] : List Int))
    simp
  · have hi' : i < m := by simpa [Dsk.rfresh, Dsk.chunks] using hi
    show ((Dsk.chunks n m bs).getD i []).length = n
    have e : (Dsk.chunks n m bs).getD i [] = Dsk.chunk n bs i := by simp [Dsk.chunks, List.getD, hi']
    rw [e]
    exact Dsk.chunk_length hb hi'
  · rw [show (Dsk.rfresh n (Dsk.chunks n m bs)).cach.getD i none = none from hnone _ i] at h
    cases h
/-- bytes filled up to whole sectors -/
theorem fill_up (n z : Nat) (hz : 32 ≤ z) : ∃ r1 d : Int, ∃ k mm : Nat, (n : Int).tmod z = r1 ∧ 0 ≤ r1 ∧ r1 < z ∧ (z : Int) - r1 = d ∧ d.tmod z = k ∧ k < z ∧ n + k = mm * z ∧ mm ≤ n + 1 := by
  have hm := Nat.mod_lt n (show 0 < z by omega)
  have hd := Nat.div_add_mod n z
  refine ⟨(n % z : Nat), ((z - n % z : Nat) : Int), (z - n % z) % z, (n + (z - n % z) % z) / z, ?_, by omega, by omega, by omega, ?_, Nat.mod_lt _ (by omega), ?_, ?_⟩
  · rfl
  · rfl
  · have hdv : z ∣ n + (z - n % z) % z := by
      by_cases h0 : n % z = 0
      · rw [h0, Nat.sub_zero, Nat.mod_self, Nat.add_zero]
        exact Nat.dvd_of_mod_eq_zero h0
      · rw [Nat.mod_eq_of_lt (show z - n % z < z by omega)]
        refine ⟨n / z + 1, ?_⟩
        rw [Nat.mul_add, Nat.mul_one]
        omega
    exact (Nat.div_mul_cancel hdv).symm
  · have hk : (z - n % z) % z < z := Nat.mod_lt _ (by omega)
    have h1 : (n + (z - n % z) % z) / z ≤ n / z + 1 := by
      rw [Nat.le_iff_lt_add_one, Nat.div_lt_iff_lt_mul (by omega), Nat.add_mul, Nat.add_mul, Nat.one_mul, Nat.mul_comm (n / z) z]
      omega
    have h2 := Nat.div_le_self n z
    omega
/-- an image that was read is no longer than chips are -/
theorem readOf_len500 {s s' : St} {which a b c er st why sq : Int} {img : List Int} (h5 : few500 a b c = true) (h : readOf s which a b c = (s', ⟨st, why, sq, img⟩, er)) : img.length ≤ 500 := by
  have hfe : findErr s which a b c = 0 → total a b c ≤ 500 := fun hf => by
    unfold findErr at hf
    split at hf
    · cases hf
    rename_i hx
    unfold few500 at h5
    rw [show right a b c = true by simpa using hx] at h5
    simpa using h5
  have key : ∀ (x : St × Slt × Int), x = (s', ⟨st, why, sq, img⟩, er) → x.2.1.img = img := fun x hx => by rw [hx]
  have hi := key _ h
  unfold readOf at hi
  split at hi
  · rw [← hi]; exact Nat.zero_le _
  rename_i hf
  have ht := hfe (by omega)
  split at hi
  · rw [← hi]; exact Nat.zero_le _
  unfold headOf at hi
  split at hi
  · rw [← hi]; exact Nat.zero_le _
  split at hi
  · rw [← hi]; exact Nat.zero_le _
  unfold sealedOf at hi
  split at hi
  · rw [← hi]; exact Nat.zero_le _
  split at hi
  · rw [← hi]; exact Nat.zero_le _
  · rw [← hi]
    unfold glued
    have := List.length_take_le (total a b c).toNat (loads s.tick (which * spanOf (↑s.size) a b c + 1) (many (total a b c).toNat s.tick.size)).2.1.flatten
    show (List.take _ _).length ≤ 500
    omega
theorem Dk.other {N : Nat} {w W w' : World} {p : Nat} {F G : Nat → Prop} {s : St} (H : Dk N w W p F s) (hk : Keeps G W w') (hG : ∀ b, G b → N ≤ b ∧ ¬ F b) : Dk N w w' p F s := by
  have hb : Below N W w' := hk.below (fun b hb => (hG b hb).1) H.le
  exact ⟨H.disk.keeps hk (fun b hb hg => (hG b hg).2 hb), H.ge, H.bel.trans hb, tab_below H.tab hb H.two, H.two, Nat.le_trans H.le hk.size⟩
set_option maxHeartbeats 4000000 in
theorem slotBytes_walk (w : World) (a b c sz which : Int) (A : Option Addr) (n cap : Nat) (l : List Int) (hT : Tab w) (hl : Bytes w w.heap.size A n l) (hs : 0 ≤ sz ∧ sz ≤ 255) (hnm : n ≤ maxLen) :
    Calls Tryd.prog 4 #[.slice A n cap, .int .u8 sz, .int .i64 which, geoV a b c] w fun e w' => e = .returned (.bool true) ∧ Below w.heap.size w w' := by
  obtain ⟨g0, g1, g2⟩ := boxed w (.int .i64 a) (.int .i64 b) (.int .i64 c) 23
  have HGE := Lib.hid (And.intro g0 (And.intro g1 g2))
  have HB := Lib.hid (below_box w (.cells #[.int .i64 a, .int .i64 b, .int .i64 c] 23))
  have HT := Lib.hid (tab_below hT HB.out (tab_pos hT))
  have HL := Lib.hid (bytes_mono (bytes_below hl HB.out) HB.out.size)
  have HLEN := Lib.hid hl.1
  obtain ⟨rr, hr, hr0, hr1, z, hz, hz1, hz2⟩ : ∃ r : Int, sz.tmod 100 = r ∧ 0 ≤ r ∧ r ≤ 99 ∧ ∃ z : Nat, 32 + r = z ∧ 32 ≤ z ∧ z ≤ 131 :=
    ⟨sz % 100, Int.tmod_eq_emod_of_nonneg hs.1, by omega, by omega, (32 + sz % 100).toNat, by omega, by omega, by omega⟩
  obtain ⟨sz0, sz1⟩ := hs
  unfold maxLen at hnm
  clear hT hl g0 g1 g2
  obtain ⟨x1, hx1⟩ : ∃ x, few500 a b c = x := ⟨_, rfl⟩
  have HX1 := Lib.hid hx1
  clear hx1
  go_enter Tryd.func4, Tryd.ntmps4
  go_wp2_with fail
  generalize w.alloc (.cells #[.int .i64 a, .int .i64 b, .int .i64 c] 23) = W at *
  refine (awake_any W HT.out).mono ?_
  rintro e w1 ⟨rfl, hb1⟩
  have O1 := Lib.hid (show On W w1 from ⟨tab_below HT.out hb1 (tab_pos HT.out), hb1⟩)
  obtain ⟨g0, g1, g2⟩ := geo_below HGE.out O1.out.bel
  clear hb1
  go_wp2_with fail
  refine (few_any a b c x1 _ _ O1.out HX1.out).mono ?_
  rintro e w2 ⟨rfl, hw2⟩
  have O2 := Lib.hid hw2
  clear hw2 g0 g1 g2 O1
  by_cases hbig : (2000 : Int) < (n : Int)
  · have HE := Lib.hid (HB.out.trans (O2.out.bel.mono HB.out.size))
    go_wp2_with fail
    go_ret
    exact ⟨rfl, HE.out⟩
  have hbig' : decide ((2000 : Int) < (n : Int)) = false := by simpa using hbig
  cases x1
  · have HE := Lib.hid (HB.out.trans (O2.out.bel.mono HB.out.size))
    go_wp2_with fail
    go_ret
    exact ⟨rfl, HE.out⟩
  obtain ⟨r1, d, k, mm, q1, q2, q3, q4, q5, q6, q7, q8⟩ := fill_up n z hz1
  have HQ7 := Lib.hid (And.intro q7 q8)
  have hz0 : ¬ z = 0 := by omega
  have hn2 : n ≤ 2000 := by omega
  have hwd : IntKind.i64.wrap d = d := by rw [IntKind.wrap_i64]; omega
  clear hbig q7 q8
  go_wp2_with fail
  have HL2 := Lib.hid (bytes_mono (bytes_below HL.out O2.out.bel) O2.out.bel.size)
  go_region_law (first
    | (refine step_append' (by rfl) _ _ _ _ (by rfl) (.slice (some ⟨w2.heap.size, 0, none⟩) 0 0) (.slice A n cap) (by rfl) (by rfl) (Mine w2 l) (mine_copy w2 _ _ A n cap l HL2.out (by omega) (by first | exact .inl rfl | exact .inr (.inl rfl) | exact .inr (.inr rfl))) ?_
       rintro v3 w3 hm3
       have HM3 := Lib.hid hm3
       clear hm3)
    | (refine step_append' (by rfl) _ _ _ _ (by rfl) v3 (.int .i64 k) (by rfl) (by rfl) (Mine w2 (l ++ List.replicate k 0)) (mine_zeros w2 w3 _ k v3 l HM3.out (by rw [HLEN.out]; omega) (by omega)) ?_
       rintro v4 w4 hm4
       have HM4 := Lib.hid hm4
       clear hm4))
  go_wp2_with fail
  obtain ⟨bs, hbs⟩ : ∃ bs, l ++ List.replicate k 0 = bs := ⟨_, rfl⟩
  have HM5 := Lib.hid (show Mine w2 bs v4 w4 from hbs ▸ HM4.out)
  have h8 : In8 bs := by
    rw [← hbs]
    intro v hv
    rcases List.mem_append.1 hv with h | h
    · exact HL.out.2.1 v h
    · exact in8_zeros _ v h
  have hlb : bs.length = mm * z := by rw [← hbs, List.length_append, List.length_replicate, HLEN.out]; exact HQ7.out.1
  have hmm : mm ≤ 2001 := by have := HQ7.out.2; omega
  have hbl : bs.length ≤ 2131 := by rw [← hbs, List.length_append, List.length_replicate, HLEN.out]; omega
  obtain ⟨Ac, cc, rfl, hcc, _⟩ := Own.bytes HM5.out.1 h8
  obtain ⟨nb, hnb⟩ : ∃ nb, bs.length = nb := ⟨_, rfl⟩
  have HC := Lib.hid (show Bytes w4 w4.heap.size Ac nb bs ∧ nb ≤ cc by
    obtain ⟨A', c', e, hc, hb⟩ := Own.bytes HM5.out.1 h8
    injection e with e1 e2 e3
    subst e1
    rw [hnb] at hb hcc
    exact ⟨hb, hcc⟩)
  rw [hnb]
  have HBS := Lib.hid (show bs.length = mm * z ∧ In8 bs ∧ bs.length = nb ∧ bs.length ≤ 2131 from ⟨hlb, h8, hnb, hbl⟩)
  have O4 := Lib.hid (O2.out.next HM5.out.2)
  have hnb2 : nb ≤ 2131 := by omega
  clear hbs h8 hlb hbl hnb hcc HM3 HM4 HM5 q1 q2 q3 q4 q5 q6 O2 HL2 hwd
  go_wp2_with fail
  have HBC := Lib.hid (bys_of HC.out.1 HC.out.2)
  refine (Dsk.open_ok w4 _ z mm _ bs HBC.out (by omega) (by omega) HBS.out.1 (by omega)).mono ?_
  obtain ⟨s, hs⟩ : ∃ s, Dsk.fresh z (Dsk.chunks z mm bs) = s := ⟨_, rfl⟩
  rw [hs]
  rintro e w5 ⟨p, rfl, hd5, hk5⟩
  have D5 := Lib.hid (Dk.start O4.out.tab hk5 hd5)
  have HF5 := Lib.hid (show ∀ b, Dsk.Grow No w4 w5 b → w4.heap.size ≤ b ∧ b < w5.heap.size from fun b hb => by
    rcases hb with hb | hb
    · exact hb.elim
    · exact hb)
  have HC5 := Lib.hid (bytes_below HC.out.1 D5.out.bel)
  have HBC5 := Lib.hid (bys_of HC5.out HC.out.2)
  have HW5 := Lib.hid hk5.size
  clear hd5 hk5
  generalize Dsk.Grow No w4 w5 = F at *
  go_wp2_with fail
  refine (Dsk.refOpen_ok w5 _ z mm _ bs HBC5.out (by omega) (by omega) HBS.out.1 (by omega)).mono ?_
  obtain ⟨r, hr'⟩ : ∃ r, Dsk.rfresh z (Dsk.chunks z mm bs) = r := ⟨_, rfl⟩
  have HSIM := Lib.hid (show Dsk.Sim s r by rw [← hs, ← hr']; exact sim_open z mm bs HBS.out.1)
  have HPLN := Lib.hid (show r.plans = [] by rw [← hr']; rfl)
  have HOK := Lib.hid (show Ok 0 s by
    rw [← hs]
    exact ok_fresh z _ 0 (chunks_in HBS.out.2.1) (by simp [Dsk.chunks]; omega) (by omega))
  have HSZ := Lib.hid (show s.size = z ∧ s.last = Dsk.chunks z mm bs by rw [← hs]; exact ⟨rfl, rfl⟩)
  rw [hr']
  clear hs hr'
  rintro e w6 ⟨q, rfl, hr6, hk6⟩
  have D6 := Lib.hid (D5.out.keeps (hk6.no) (D5.out.disk.keeps hk6 (fun _ _ h => h)))
  have HG6 := Lib.hid (show ∀ b, Dsk.Grow No w5 w6 b → w5.heap.size ≤ b ∧ b < w6.heap.size from fun b hb => by
    rcases hb with hb | hb
    · exact hb.elim
    · exact hb)
  have HR6 := Lib.hid hr6
  clear hr6 hk6 D5
  generalize Dsk.Grow No w5 w6 = G at *
  have HG4 := Lib.hid (geo_below HGE.out O4.out.bel)
  obtain ⟨g0, g1, g2⟩ := geo_below HG4.out D6.out.bel
  have HMN := Lib.hid (show 0 + 1 + many (total a b c).toNat s.size < 1000000 by
    have h1 := total_lt a b c
    have h2 := (many_bounds (total a b c).toNat z (by omega) (by omega)).2.2
    rw [HSZ.out.1]; omega)
  obtain ⟨ro, hro⟩ : ∃ ro, readOf s which a b c = ro := ⟨_, rfl⟩
  obtain ⟨s', ⟨st, why, sq, img⟩, er⟩ := ro
  have HRO := Lib.hid hro
  have HAL := Lib.hid (show Alike s s' by have := readOf_alike s which a b c; rw [hro] at this; exact this)
  clear hro
  go_wp2_with fail
  refine (read_is D6.out.tab (fun b hb => Nat.le_trans D6.out.two (D6.out.ge b hb)) D6.out.disk HOK.out HMN.out HRO.out).mono ?_
  rintro e w7 hrd
  have D7 := Lib.hid (D6.out.reads hrd)
  have HR7 := Lib.hid (HR6.out.keeps hrd.1 (fun b hb hf => by have h1 := (HF5.out b hf).2; have h2 := (HG6.out b hb).1; omega))
  have HS7 := Lib.hid hrd.1.size
  obtain ⟨_, _, v, rfl, ivv, rfl, hown⟩ := hrd
  have hown : Own w6.heap.size w7 ivv img := hown
  obtain ⟨Ax, nx, cx, rfl⟩ : ∃ A n c, ivv = .slice A n c := by
    rcases hown.2 with ⟨rfl, _⟩ | ⟨g, cap, cur, rfl, _⟩ <;> exact ⟨_, _, _, rfl⟩
  have I7 := Lib.hid (show Img G w7 (.slice Ax nx cx) img from ⟨hown.base_ (Nat.zero_le _), fun g hg => ⟨fun hf => by have h1 := (HG6.out g hf).2; have h2 := (Own.lt hown hg).1; omega, (Own.lt hown hg).2⟩⟩)
  clear hown g0 g1 g2 D6 HR6
  have b8 := below_box w7 (.cells #[.int .i64 st, .int .i64 why, .int .u64 sq, .slice Ax nx cx] 37)
  have D8 := Lib.hid (D7.out.below b8)
  have HR8 := Lib.hid (HR7.out.below_ b8)
  have I8 := Lib.hid (I7.out.below b8)
  have X8 := Lib.hid (Blk.new w7 37 #[.int .i64 st, .int .i64 why, .int .u64 sq, .slice Ax nx cx])
  have XN := Lib.hid (show ¬ G w7.heap.size from fun hg => by have h1 := (HG6.out _ hg).2; have h2 := HS7.out; omega)
  obtain ⟨g0, g1, g2⟩ := geo_below HG4.out D8.out.bel
  clear b8 D7 HR7 I7
  go_wp2_with fail
  generalize hxb : w7.heap.size = xb at *
  clear hxb
  generalize w7.alloc (.cells #[.int .i64 st, .int .i64 why, .int .u64 sq, .slice Ax nx cx] 37) = w8 at *
  have rr6 := refRead6_any w8 q 0 G s r which a b c D8.out.tab (fun b hb => Nat.le_trans D8.out.two (Nat.le_trans HW5.out (HG6.out b hb).1)) HR8.out HSIM.out HOK.out HMN.out (by rw [HPLN.out]; simp) HX1.out
  rw [HRO.out] at rr6
  have HRR := Lib.hid rr6
  clear rr6
  refine HRR.out.mono ?_
  rintro e w9 ⟨hk9, _, Ay, cy, rfl, _, hby⟩
  have hby : Bytes w9 w9.heap.size Ay img.length img := hby
  have D9 := Lib.hid (D8.out.other hk9 (fun b hb => ⟨Nat.le_trans (HW5.out) (HG6.out b hb).1, fun hf => by have h1 := (HF5.out b hf).2; have h2 := (HG6.out b hb).1; omega⟩))
  have X9 := Lib.hid (X8.out.of_eq (hk9.block _ (lt_of_heap X8.out) XN.out))
  have I9 := Lib.hid (I8.out.keeps hk9)
  have HIM := Lib.hid (show In8 img from hby.2.1)
  have HY9 := Lib.hid hby
  obtain ⟨ni, hni⟩ : ∃ ni, img.length = ni := ⟨_, rfl⟩
  have HNX := Lib.hid (show nx = ni by
    obtain ⟨A', c', e, _, _⟩ := I9.out.bytes HIM.out
    injection e with e1 e2 e3
    omega)
  obtain rfl := HNX.out
  rw [hni] at HY9
  have HBX := Lib.hid (show Bytes w9 w9.heap.size Ax nx img by
    obtain ⟨A', c', e, _, hb⟩ := I9.out.bytes HIM.out
    injection e with e1 e2 e3
    subst e1
    rw [hni] at hb
    exact hb)
  have HNI := Lib.hid hni
  clear hk9 hby hni D8 HR8 I8 X8 g0 g1 g2
  simp only [HNI.out]
  have b10 := below_box w9 (.cells #[.int .i64 st, .int .i64 why, .int .u64 sq, .slice Ay nx cy] 37)
  have D10 := Lib.hid (D9.out.below b10)
  have HB10 := Lib.hid (show Bytes (w9.alloc (.cells #[.int .i64 st, .int .i64 why, .int .u64 sq, .slice Ay nx cy] 37)) (w9.alloc (.cells #[.int .i64 st, .int .i64 why, .int .u64 sq, .slice Ay nx cy] 37)).heap.size Ax nx img ∧ Bytes (w9.alloc (.cells #[.int .i64 st, .int .i64 why, .int .u64 sq, .slice Ay nx cy] 37)) (w9.alloc (.cells #[.int .i64 st, .int .i64 why, .int .u64 sq, .slice Ay nx cy] 37)).heap.size Ay nx img from
    ⟨bytes_mono (bytes_below HBX.out b10) b10.size, bytes_mono (bytes_below HY9.out b10) b10.size⟩)
  obtain ⟨x0, x1, x2, x3⟩ := (X9.out.of_eq (b10.block _ (lt_of_heap X9.out))).c4
  obtain ⟨y0, y1, y2, y3⟩ := (Blk.new w9 37 #[.int .i64 st, .int .i64 why, .int .u64 sq, .slice Ay nx cy]).c4
  have hee : (er == er) = true := by simp
  have HNI2 := Lib.hid (show nx ≤ 1000000 by
    have h1 := HRO.out
    have h2 := readOf_len500 HX1.out h1
    have h3 := HNI.out
    omega)
  clear b10 D9 HBX HY9 X9 I9
  go_wp2_with fail
  refine (slotSame_any _ st why sq Ax Ay nx cx cy img (by unfold maxLen; have := HNI2.out; omega) HB10.out.1 HB10.out.2).mono ?_
  generalize w9.alloc (.cells #[.int .i64 st, .int .i64 why, .int .u64 sq, .slice Ay nx cy] 37) = w10 at *
  rintro e w11 ⟨rfl, hb11⟩
  have D11 := Lib.hid (D10.out.below hb11)
  clear hb11 x0 x1 x2 x3 y0 y1 y2 y3 D10
  go_wp2_with fail
  refine (Dsk.bytes_any w11 p F s' D11.out.disk (by rw [HAL.out.last]; exact HOK.out.len) (by rw [HAL.out.size]; exact HOK.out.size)).mono ?_
  rw [HAL.out.last, HSZ.out.2, chunks_flat HBS.out.1]
  rintro e w12 ⟨v, rfl, hv, hk12⟩
  obtain ⟨A', c', rfl, hc', hb'⟩ := bys_bytes (B := w12.heap.size) hv.bys (fun b _ hb => hb) HBS.out.2.1
  rw [HBS.out.2.2.1] at hb' ⊢
  have HV := Lib.hid hb'
  have D12 := Lib.hid (D11.out.other (hk12.no (T := No)) (fun b hb => hb.elim))
  have HC12 := Lib.hid (bytes_mono (bytes_below HC.out.1 D12.out.bel) D12.out.le)
  clear hv hk12 hb' hc'
  go_wp2_with fail
  refine (same_refl _ _ nb _ _ _ bs _ (by unfold maxLen; omega) HV.out HC12.out (Nat.le_refl _)).mono ?_
  rintro e w13 ⟨rfl, hb13⟩
  have HE := Lib.hid (HB.out.trans ((O4.out.bel.trans ((D12.out.bel.trans (hb13.mono D12.out.le)).mono O4.out.bel.size)).mono HB.out.size))
  clear hb13
  go_wp2_with fail
  go_ret
  exact ⟨rfl, HE.out⟩
theorem slotBytes_law (w : World) (A : Option Addr) (n cap : Nat) (zs : List Int) (hr : IsRow .u8 w A n cap zs) (sz : Int) (hs : (Lit.int .u8 sz).wf = true) (which : Int) (_hw : (Lit.int .i64 which).wf = true) (a : Int) (_ha : (Lit.int .i64 a).wf = true) (b : Int) (_hb : (Lit.int .i64 b).wf = true) (c : Int) (_hc : (Lit.int .i64 c).wf = true) (hT : Tab w) :
    Calls Tryd.prog 4 #[.slice A n cap, .int .u8 sz, .int .i64 which, geoV a b c] w fun e w' => e = .returned (.bool true) ∧ Below w.heap.size w w' :=
  slotBytes_walk w a b c sz which A n cap _ hT hr.bytes (by simp [Lit.wf, IntKind.min, IntKind.max, IntKind.signed, IntKind.bits] at hs; omega) hr.len_le.2
end Go.Proofs.YtpbhkkcboppdmaaDoor
