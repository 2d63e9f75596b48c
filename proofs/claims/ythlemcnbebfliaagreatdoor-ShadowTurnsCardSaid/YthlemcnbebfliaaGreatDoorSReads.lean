/-
  THE WALK OF slot.Read.
-/
import Derived.Test.YthlemcnbebfliaaGreatDoorSRead
import Derived.Test.YthlemcnbebfliaaGreatDoorSSeal
namespace Go.Proofs.YthlemcnbebfliaaGreatDoor
open Ks Go.RowKit
set_option maxRecDepth 20000

/-- what a read head's sector makes of a slot, with what is left of the disk -/
def headOf (s : St) (l : List Int) (first a b c : Int) : St × Slt × Int :=
  if decErr l ≠ 0 then (s, ⟨0, decErr l, 0, []⟩, 0)
  else if ¬ (num (Ks.part l 5 1) = a ∧ num (Ks.part l 6 1) = b ∧ num (Ks.part l 7 1) = c) then (s, ⟨1, 0, 0, []⟩, 0)
  else sealedOf s (first + 1) (many (total a b c).toNat s.size) (total a b c).toNat (num (Ks.part l 12 8)) (num (Ks.part l 20 4))
/-- what Read answers -/
def readOf (s : St) (which a b c : Int) : St × Slt × Int :=
  if findErr s which a b c ≠ 0 then (s, noSlt, findErr s which a b c)
  else if (Dsk.St.read s (which * spanOf s.size a b c)).2 ≠ 0 then (s.tick, noSlt, (Dsk.St.read s (which * spanOf s.size a b c)).2)
  else headOf s.tick (Dsk.St.read s (which * spanOf s.size a b c)).1 (which * spanOf s.size a b c) a b c
theorem dec_total {l : List Int} {a b c : Int} (h : decErr l = 0) (hg : num (Ks.part l 5 1) = a ∧ num (Ks.part l 6 1) = b ∧ num (Ks.part l 7 1) = c) : num (Ks.part l 8 4) = total a b c := by
  unfold decErr at h
  split at h
  · cases h
  split at h
  · cases h
  split at h
  · cases h
  split at h
  · cases h
  split at h
  · cases h
  rename_i hc
  rw [hg.1, hg.2.1, hg.2.2] at hc
  have hc : can a b c (num (Ks.part l 8 4)) = true := by simpa using hc
  unfold can at hc
  simp only [Bool.and_eq_true, beq_iff_eq] at hc
  exact hc.2
set_option maxHeartbeats 1000000 in
theorem read_any (w : World) (p m : Nat) (F : Nat → Prop) (s : St) (which a b c : Int) (hT : Tab w) (hF2 : ∀ k, F k → 2 ≤ k) (h : DiskAt Tryz.prog w p F s) (hO : Ok m s) (hm : m + 1 + many (total a b c).toNat s.size < 1000000) :
    Calls Tryz.prog 99 #[.pointer (some ⟨p, 0, none⟩), .int .i64 which, geoV a b c] w (Reads w p F (readOf s which a b c).1 (readOf s which a b c).2.1 (readOf s which a b c).2.2) := by
  have hst := store_fn
  have hst0 := store_nil
  have HS := Lib.hid (BoxAt.start a b c 110 #[.int .i64 0, .int .i64 0, .int .u64 0, .slice none 0 0] hT)
  have HD := Lib.hid (h.below_ HS.out.bel)
  have HTH := Lib.hid h.there
  have HF2 := Lib.hid hF2
  have HO := Lib.hid hO
  obtain ⟨er, her⟩ : ∃ er, findErr s which a b c = er := ⟨_, rfl⟩
  have HER := Lib.hid her
  obtain ⟨r, hr⟩ : ∃ r, readOf s which a b c = r := ⟨_, rfl⟩
  rw [hr]
  have HR := Lib.hid hr
  obtain ⟨z, hz⟩ : ∃ z, s.size = z := ⟨_, rfl⟩
  rw [hz] at hm
  obtain ⟨first, hf⟩ : ∃ f, which * spanOf z a b c = f := ⟨_, rfl⟩
  have HF := Lib.hid (And.intro hz hf)
  have HM := Lib.hid hm
  clear hT h hO her hz hf hr hF2 hm
  go_enter Tryz.func99, Tryz.ntmps99
  go_wp2_with fail
  have HSZ := Lib.hid (show ((w.alloc (.cells #[.int .i64 a, .int .i64 b, .int .i64 c] 23)).alloc (.cells #[.int .i64 0, .int .i64 0, .int .u64 0, .slice none 0 0] 110)).heap.size = w.heap.size + 1 + 1 by rw [size_alloc, size_alloc])
  generalize (w.alloc (.cells #[.int .i64 a, .int .i64 b, .int .i64 c] 23)).alloc (.cells #[.int .i64 0, .int .i64 0, .int .u64 0, .slice none 0 0] 110) = W at *
  refine (find_any _ p m F s which a b c z er first HS.out.tab HD.out HO.out (by rw [HF.out.1]) HER.out HF.out.2).mono ?_
  rintro e w1 ⟨hb, hh⟩
  have H1 := Lib.hid (HS.out.next hb)
  have HD1 := Lib.hid (HD.out.below_ hb)
  have HN := Lib.hid (show (¬ F (w.heap.size + 1)) ∧ (¬ F w.heap.size) from ⟨fun hf => by have := HTH.out _ hf; omega, fun hf => by have := HTH.out _ hf; omega⟩)
  have HW1 := Lib.hid (show w.heap.size + 1 < w1.heap.size from H1.out.res.lt)
  clear hb
  rcases hh with ⟨h0, rfl⟩ | ⟨rfl, x, y, hx, hy, hH, rfl⟩
  · have hd0 : (er != 0) = true := by simpa using h0
    have b2 := below_box w1 (.cells #[.int .i64 0, .nilFunc, .nilFunc] 130)
    have H2 := Lib.hid (H1.out.next b2)
    have HD2 := Lib.hid (HD1.out.below_ b2)
    have HK2 := Lib.hid (show Keeps F w (w1.alloc (.cells #[.int .i64 0, .nilFunc, .nilFunc] 130)) from (Keeps.of_below H2.out.bel).no)
    have HN2 := Lib.hid H2.out.res
    have HRE := Lib.hid (show r = (s, noSlt, er) by rw [← HR.out]; unfold readOf; rw [HER.out, if_pos h0])
    have fr := H2.out.res.frozen
    obtain ⟨c0, c1, c2, c3⟩ := H2.out.res.four (.int .i64 0) (.int .i64 0) (.int .u64 0)
    clear b2 h0
    go_wp2_with fail
    generalize w1.alloc (.cells #[.int .i64 0, .nilFunc, .nilFunc] 130) = w2 at *
    have HB := Lib.hid (HN2.out.sets4 (.int .i64 0) (.int .i64 0) (.int .u64 0) (.slice none 0 0))
    have HE := Lib.hid (reads_end HK2.out HD2.out HN.out.1 (by omega) (.int .i64 0) (.int .i64 0) (.int .u64 0) (.slice none 0 0) (img := []) (own_nil _ _) (fun k h => by cases h))
    change bodyPost _ _ _ _ _ (sets4 w2 (w.heap.size + 1) (.int .i64 0) (.int .i64 0) (.int .u64 0) (.slice none 0 0))
    generalize sets4 w2 (w.heap.size + 1) (.int .i64 0) (.int .i64 0) (.int .u64 0) (.slice none 0 0) = W5 at *
    obtain ⟨f0, f1, f2, f3⟩ := HB.out.c4
    (try simp only [Exit.inBlock, Exit.then])
    refine bodyPost_ret (by simp [results, Tryz.results99, go_sem, f0, f1, f2, f3]; try rfl) rfl ?_
    rw [HRE.out]
    exact ⟨HE.out.1, HE.out.2.1, _, rfl, _, rfl, HE.out.2.2⟩
  have HX := Lib.hid (show (¬ F x ∧ ¬ F y) from ⟨fun hf => by have := HD.out.there x hf; omega, fun hf => by have := HD.out.there y hf; omega⟩)
  have HFB := Lib.hid (find_first HER.out HF.out.2)
  have b2 := below_box w1 (.cells #[.int .i64 (z : Int), fnV 110 x y, fnV 112 x y] 130)
  have N2 := Lib.hid (Blk.new w1 130 #[.int .i64 (z : Int), fnV 110 x y, fnV 112 x y])
  have H2 := Lib.hid (H1.out.next b2)
  have HD2 := Lib.hid (HD1.out.below_ b2)
  have HH2 := Lib.hid (hH.keep (S := No) (Keeps.of_below b2) (fun h => h) (fun h => h))
  have HNP := Lib.hid (show ¬ F w1.heap.size from fun hf => by have := HD1.out.there _ hf; omega)
  have HW2 := Lib.hid (show w1.heap.size < (w1.alloc (.cells #[.int .i64 (z : Int), fnV 110 x y, fnV 112 x y] 130)).heap.size by simp)
  clear hx hy hH b2
  obtain ⟨k0, k1, k2⟩ := N2.out.c3
  go_wp2_with fail
  generalize w1.alloc (.cells #[.int .i64 (z : Int), fnV 110 x y, fnV 112 x y] 130) = w2 at *
  obtain ⟨rd, hrd⟩ : ∃ rd, Dsk.St.read s first = rd := ⟨_, rfl⟩
  have HRL := Lib.hid (fun h0 => read_len HD2.out first (hrd ▸ h0))
  have HR8 := Lib.hid (show In8 rd.1 from hrd ▸ HO.out.read first)
  refine (readC_any _ p x y m F s 0 first first HD2.out HH2.out HO.out (by have := HM.out; omega) (by omega) HFB.out.1 (by have := HFB.out.2; omega)).mono ?_
  rw [hrd]
  have HRD := Lib.hid hrd
  clear hrd k0 k1 k2
  rintro e w3 ⟨u, rfl, hu, hd, hkp⟩
  obtain ⟨Au, nu, cu, rfl⟩ : ∃ A q cc, u = .slice A q cc := by
    obtain ⟨A, cc, e⟩ := hu.bys.form
    exact ⟨_, _, _, e⟩
  have HU := Lib.hid hu
  have HD3 := Lib.hid hd
  have HK3 := Lib.hid (show Keeps F w w3 from (Keeps.of_below H2.out.bel).no.trans hkp)
  have HT3 := Lib.hid (tab_keeps H2.out.tab hkp HF2.out)
  have HN3 := Lib.hid (H2.out.res.of_eq (hkp.block _ H2.out.res.lt HN.out.1))
  have HP3 := Lib.hid (N2.out.of_eq (hkp.block _ N2.out.lt HNP.out))
  have HG3 := Lib.hid (show _ ∧ _ ∧ _ from ⟨(hkp.cell (o := 0) (block_lt_of_cell H2.out.g0) HN.out.2).trans H2.out.g0, (hkp.cell (o := 1) (block_lt_of_cell H2.out.g0) HN.out.2).trans H2.out.g1, (hkp.cell (o := 2) (block_lt_of_cell H2.out.g0) HN.out.2).trans H2.out.g2⟩)
  have HH3 := Lib.hid (HH2.out.keep hkp HX.out.1 HX.out.2)
  clear hu hd hkp HD2 HH2 N2 H2
  obtain ⟨l, rerr⟩ := rd
  by_cases h0 : rerr ≠ 0
  · have hd0 : (rerr != 0) = true := by simpa using h0
    have HRE := Lib.hid (show r = (s.tick, noSlt, rerr) by
      rw [← HR.out]; unfold readOf
      rw [HER.out, if_neg (fun h => h rfl), HF.out.1, HF.out.2, HRD.out, if_pos h0])
    have fr := HN3.out.frozen
    obtain ⟨c0, c1, c2, c3⟩ := HN3.out.four (.int .i64 0) (.int .i64 0) (.int .u64 0)
    clear h0
    go_wp2_with fail
    have HB := Lib.hid (HN3.out.sets4 (.int .i64 0) (.int .i64 0) (.int .u64 0) (.slice none 0 0))
    have HE := Lib.hid (reads_end HK3.out HD3.out HN.out.1 (by omega) (.int .i64 0) (.int .i64 0) (.int .u64 0) (.slice none 0 0) (img := []) (own_nil _ _) (fun k h => by cases h))
    change bodyPost _ _ _ _ _ (sets4 w3 (w.heap.size + 1) (.int .i64 0) (.int .i64 0) (.int .u64 0) (.slice none 0 0))
    generalize sets4 w3 (w.heap.size + 1) (.int .i64 0) (.int .i64 0) (.int .u64 0) (.slice none 0 0) = W5 at *
    obtain ⟨f0, f1, f2, f3⟩ := HB.out.c4
    (try simp only [Exit.inBlock, Exit.then])
    refine bodyPost_ret (by simp [results, Tryz.results99, go_sem, f0, f1, f2, f3]; try rfl) rfl ?_
    rw [HRE.out]
    exact ⟨HE.out.1, HE.out.2.1, _, rfl, _, rfl, HE.out.2.2⟩
  obtain rfl : rerr = 0 := by omega
  have HRO := Lib.hid (show r = headOf s.tick l first a b c by
    rw [← HR.out]; unfold readOf
    rw [HER.out, if_neg (fun h => h rfl), HF.out.1, HF.out.2, HRD.out, if_neg (fun h => h rfl)])
  obtain ⟨A', c', hA', hcc, hby⟩ := bys_bytes (B := w3.heap.size) HU.out.bys (fun b _ hb => hb) HR8.out
  injection hA' with hA1 hA2 hA3
  subst hA1 hA2 hA3
  have HBY := Lib.hid (And.intro hcc hby)
  have HLL := Lib.hid (show l.length = z by rw [← HF.out.1]; have := HRL.out rfl; rw [HRD.out] at this; exact this)
  clear hcc hby
  generalize l.length = nu at *
  go_wp2_with fail
  refine (dec_any _ _ _ w3.heap.size l w3 w3 (On.start HT3.out) HBY.out.1 HBY.out.2 (Nat.le_refl _)).mono ?_
  rintro e w4 ⟨rfl, hw4⟩
  have HK4 := Lib.hid (show Keeps F w w4 from HK3.out.trans (Keeps.of_below hw4.bel).no)
  have HD4 := Lib.hid (HD3.out.below_ hw4.bel)
  have HN4 := Lib.hid (HN3.out.of_eq (hw4.bel.block _ (lt_of_heap HN3.out)))
  have HP4 := Lib.hid (HP3.out.of_eq (hw4.bel.block _ (lt_of_heap HP3.out)))
  have HG4 := Lib.hid (geo_below HG3.out hw4.bel)
  have HH4 := Lib.hid (HH3.out.keep (S := No) (Keeps.of_below hw4.bel) (fun h => h) (fun h => h))
  have HT4 := Lib.hid hw4.tab
  clear hw4 HD3 HN3 HP3 HG3 HH3
  obtain ⟨de, hde⟩ : ∃ de, decErr l = de := ⟨_, rfl⟩
  by_cases hd0 : de ≠ 0
  · rw [decT_of hde hd0]
    have hdb : (de != 0) = true := by simpa using hd0
    have HRE := Lib.hid (show r = (s.tick, ⟨0, de, 0, []⟩, 0) by rw [HRO.out]; unfold headOf; rw [hde, if_pos hd0])
    have b5 := below_box w4 (.cells #[.int .i64 0, .int .i64 0, .int .i64 0, .int .i64 0, .int .u64 0, .int .u32 0] 85)
    have HK5 := Lib.hid (HK4.out.trans (Keeps.of_below b5).no)
    have HD5 := Lib.hid (HD4.out.below_ b5)
    have HN5 := Lib.hid (HN4.out.of_eq (b5.block _ (lt_of_heap HN4.out)))
    clear b5 hd0 hde
    go_wp2_with fail
    refine (bad_any de _).mono ?_
    rintro e w6 ⟨rfl, hk6⟩
    have HK6 := Lib.hid (HK5.out.trans (hk6.no (T := F)))
    have HD6 := Lib.hid (HD5.out.keeps hk6 (fun _ _ h => h))
    have HN6 := Lib.hid (HN5.out.of_eq (hk6.block _ (lt_of_heap HN5.out) (fun h => h)))
    have fr := HN6.out.frozen
    obtain ⟨c0, c1, c2, c3⟩ := HN6.out.four (.int .i64 0) (.int .i64 de) (.int .u64 0)
    clear hk6
    go_wp2_with fail
    have HB := Lib.hid (HN6.out.sets4 (.int .i64 0) (.int .i64 de) (.int .u64 0) (.slice none 0 0))
    have HE := Lib.hid (reads_end HK6.out HD6.out HN.out.1 (by omega) (.int .i64 0) (.int .i64 de) (.int .u64 0) (.slice none 0 0) (img := []) (own_nil _ _) (fun k h => by cases h))
    change bodyPost _ _ _ _ _ (sets4 w6 (w.heap.size + 1) (.int .i64 0) (.int .i64 de) (.int .u64 0) (.slice none 0 0))
    generalize sets4 w6 (w.heap.size + 1) (.int .i64 0) (.int .i64 de) (.int .u64 0) (.slice none 0 0) = W5 at *
    obtain ⟨f0, f1, f2, f3⟩ := HB.out.c4
    (try simp only [Exit.inBlock, Exit.then])
    refine bodyPost_ret (by simp [results, Tryz.results99, go_sem, f0, f1, f2, f3]; try rfl) rfl ?_
    rw [HRE.out]
    exact ⟨HE.out.1, HE.out.2.1, _, rfl, _, rfl, HE.out.2.2⟩
  obtain rfl : de = 0 := by omega
  rw [decT_ok hde]
  unfold decH
  obtain ⟨v1, h1⟩ : ∃ v, num (Ks.part l 5 1) = v := ⟨_, rfl⟩
  obtain ⟨v2, h2⟩ : ∃ v, num (Ks.part l 6 1) = v := ⟨_, rfl⟩
  obtain ⟨v3, h3⟩ : ∃ v, num (Ks.part l 7 1) = v := ⟨_, rfl⟩
  obtain ⟨v4, h4⟩ : ∃ v, num (Ks.part l 8 4) = v := ⟨_, rfl⟩
  obtain ⟨v5, h5⟩ : ∃ v, num (Ks.part l 12 8) = v := ⟨_, rfl⟩
  obtain ⟨v6, h6⟩ : ∃ v, num (Ks.part l 20 4) = v := ⟨_, rfl⟩
  have HV := Lib.hid (show v1 = a ∧ v2 = b ∧ v3 = c → v4 = total a b c from fun hg => by rw [← h4]; exact dec_total hde (by rw [h1, h2, h3]; exact hg))
  have HRO2 := Lib.hid (show r = if ¬ (v1 = a ∧ v2 = b ∧ v3 = c) then (s.tick, ⟨1, 0, 0, []⟩, 0) else sealedOf s.tick (first + 1) (many (total a b c).toNat z) (total a b c).toNat v5 v6 by
    rw [HRO.out]; unfold headOf
    rw [hde, if_neg (fun h => h rfl), h1, h2, h3, h5, h6]
    rw [show s.tick.size = z from HF.out.1])
  rw [h1, h2, h3, h4, h5, h6]
  have b5 := below_box w4 (.cells #[.int .i64 v1, .int .i64 v2, .int .i64 v3, .int .i64 v4, .int .u64 v5, .int .u32 v6] 85)
  have HY := Lib.hid (boxed6 w4 (.int .i64 v1) (.int .i64 v2) (.int .i64 v3) (.int .i64 v4) (.int .u64 v5) (.int .u32 v6) 85)
  have HK5 := Lib.hid (HK4.out.trans (Keeps.of_below b5).no)
  have HD5 := Lib.hid (HD4.out.below_ b5)
  have HN5 := Lib.hid (HN4.out.of_eq (b5.block _ (lt_of_heap HN4.out)))
  have HP5 := Lib.hid (HP4.out.of_eq (b5.block _ (lt_of_heap HP4.out)))
  have HG5 := Lib.hid (geo_below HG4.out b5)
  have HH5 := Lib.hid (HH4.out.keep (S := No) (Keeps.of_below b5) (fun h => h) (fun h => h))
  have HT5 := Lib.hid (tab_below HT4.out b5 (tab_pos HT4.out))
  clear b5 hde h1 h2 h3 h4 h5 h6 HD4 HN4 HP4 HG4 HH4 HT4 HRO
  go_upto_region 8 with fail
  generalize w4.alloc (.cells #[.int .i64 v1, .int .i64 v2, .int .i64 v3, .int .i64 v4, .int .u64 v5, .int .u32 v6] 85) = w5 at *
  obtain ⟨y0, y1, y2, y3, y4, y5⟩ := HY.out
  obtain ⟨g0, g1, g2⟩ := HG5.out
  obtain ⟨k0, k1, k2⟩ := HP5.out.c3
  go_upto_region 10 with fail
  by_cases e1 : v1 = a
  rotate_left
  · have q1 : (v1 == a) = false := by simpa using e1
    have HRE := Lib.hid (show r = (s.tick, ⟨1, 0, 0, []⟩, 0) by rw [HRO2.out, if_pos (by omega)])
    have fr := HN5.out.frozen
    obtain ⟨c0, c1, c2, c3⟩ := HN5.out.four (.int .i64 1) (.int .i64 0) (.int .u64 0)
    go_wp2_with fail
    have HB := Lib.hid (HN5.out.sets4 (.int .i64 1) (.int .i64 0) (.int .u64 0) (.slice none 0 0))
    have HE := Lib.hid (reads_end HK5.out HD5.out HN.out.1 (by omega) (.int .i64 1) (.int .i64 0) (.int .u64 0) (.slice none 0 0) (img := []) (own_nil _ _) (fun k h => by cases h))
    change bodyPost _ _ _ _ _ (sets4 w5 (w.heap.size + 1) (.int .i64 1) (.int .i64 0) (.int .u64 0) (.slice none 0 0))
    generalize sets4 w5 (w.heap.size + 1) (.int .i64 1) (.int .i64 0) (.int .u64 0) (.slice none 0 0) = W5 at *
    obtain ⟨f0, f1, f2, f3⟩ := HB.out.c4
    (try simp only [Exit.inBlock, Exit.then])
    refine bodyPost_ret (by simp [results, Tryz.results99, go_sem, f0, f1, f2, f3]; try rfl) rfl ?_
    rw [HRE.out]
    exact ⟨HE.out.1, HE.out.2.1, _, rfl, _, rfl, HE.out.2.2⟩
  subst e1
  by_cases e2 : v2 = b
  rotate_left
  · have q1 : (v2 == b) = false := by simpa using e2
    have HRE := Lib.hid (show r = (s.tick, ⟨1, 0, 0, []⟩, 0) by rw [HRO2.out, if_pos (by omega)])
    have fr := HN5.out.frozen
    obtain ⟨c0, c1, c2, c3⟩ := HN5.out.four (.int .i64 1) (.int .i64 0) (.int .u64 0)
    go_wp2_with fail
    have HB := Lib.hid (HN5.out.sets4 (.int .i64 1) (.int .i64 0) (.int .u64 0) (.slice none 0 0))
    have HE := Lib.hid (reads_end HK5.out HD5.out HN.out.1 (by omega) (.int .i64 1) (.int .i64 0) (.int .u64 0) (.slice none 0 0) (img := []) (own_nil _ _) (fun k h => by cases h))
    change bodyPost _ _ _ _ _ (sets4 w5 (w.heap.size + 1) (.int .i64 1) (.int .i64 0) (.int .u64 0) (.slice none 0 0))
    generalize sets4 w5 (w.heap.size + 1) (.int .i64 1) (.int .i64 0) (.int .u64 0) (.slice none 0 0) = W5 at *
    obtain ⟨f0, f1, f2, f3⟩ := HB.out.c4
    (try simp only [Exit.inBlock, Exit.then])
    refine bodyPost_ret (by simp [results, Tryz.results99, go_sem, f0, f1, f2, f3]; try rfl) rfl ?_
    rw [HRE.out]
    exact ⟨HE.out.1, HE.out.2.1, _, rfl, _, rfl, HE.out.2.2⟩
  subst e2
  by_cases e3 : v3 = c
  rotate_left
  · have q1 : (v3 == c) = false := by simpa using e3
    have HRE := Lib.hid (show r = (s.tick, ⟨1, 0, 0, []⟩, 0) by rw [HRO2.out, if_pos (by omega)])
    have fr := HN5.out.frozen
    obtain ⟨c0, c1, c2, c3⟩ := HN5.out.four (.int .i64 1) (.int .i64 0) (.int .u64 0)
    go_wp2_with fail
    have HB := Lib.hid (HN5.out.sets4 (.int .i64 1) (.int .i64 0) (.int .u64 0) (.slice none 0 0))
    have HE := Lib.hid (reads_end HK5.out HD5.out HN.out.1 (by omega) (.int .i64 1) (.int .i64 0) (.int .u64 0) (.slice none 0 0) (img := []) (own_nil _ _) (fun k h => by cases h))
    change bodyPost _ _ _ _ _ (sets4 w5 (w.heap.size + 1) (.int .i64 1) (.int .i64 0) (.int .u64 0) (.slice none 0 0))
    generalize sets4 w5 (w.heap.size + 1) (.int .i64 1) (.int .i64 0) (.int .u64 0) (.slice none 0 0) = W5 at *
    obtain ⟨f0, f1, f2, f3⟩ := HB.out.c4
    (try simp only [Exit.inBlock, Exit.then])
    refine bodyPost_ret (by simp [results, Tryz.results99, go_sem, f0, f1, f2, f3]; try rfl) rfl ?_
    rw [HRE.out]
    exact ⟨HE.out.1, HE.out.2.1, _, rfl, _, rfl, HE.out.2.2⟩
  subst e3
  have hv4 := HV.out ⟨rfl, rfl, rfl⟩
  have htt := total_lt v1 v2 v3
  obtain ⟨t, ht⟩ : ∃ t : Nat, total v1 v2 v3 = t := ⟨(total v1 v2 v3).toNat, by omega⟩
  have HRE := Lib.hid (show r = sealedOf s.tick (first + 1) (many t z) t v5 v6 by
    rw [HRO2.out, if_neg (fun h => h ⟨rfl, rfl, rfl⟩), ht, Int.toNat_natCast])
  have HM2 := Lib.hid (show m + 1 + many t z < 1000000 by have := HM.out; rw [ht, Int.toNat_natCast] at this; exact this)
  rw [ht] at hv4 htt
  subst hv4
  have HT2 := Lib.hid (show t ≤ 131072 by omega)
  have HZ := Lib.hid (show 1 ≤ z ∧ s.tick.size = z by
    have := HER.out
    unfold findErr at this
    split at this
    · cases this
    split at this
    · cases this
    refine ⟨by have := HF.out.1; omega, HF.out.1⟩)
  clear htt ht HV HRO2
  go_wp2_with fail
  refine (sealed_any w5 p x y (m + 1) (many t z) t z F s.tick first v1 v2 v3 v5 v6 HT5.out HF2.out HD5.out HH5.out HX.out.1 HX.out.2 HO.out.tick HM2.out HZ.out.2 HZ.out.1 HT2.out (many_eq t z) HFB.out.1 (by have := HFB.out.2; omega)).mono ?_
  rw [← HRE.out]
  obtain ⟨rs, ⟨st, why, sq, img⟩, re⟩ := r
  rintro e w6 ⟨hk6, hd6, v, rfl, ivv, rfl, hown⟩
  obtain ⟨Av, nv, cv, rfl⟩ : ∃ A n c, ivv = .slice A n c := by
    rcases hown.2 with ⟨rfl, _⟩ | ⟨g, cap, cur, rfl, _⟩ <;> exact ⟨_, _, _, rfl⟩
  have HK6 := Lib.hid (HK5.out.trans hk6)
  have HD6 := Lib.hid hd6
  have HN6 := Lib.hid (HN5.out.of_eq (hk6.block _ (lt_of_heap HN5.out) HN.out.1))
  have HO6 := Lib.hid (hown.base_ (b' := w.heap.size) HK5.out.size)
  have fr := HN6.out.frozen
  obtain ⟨c0, c1, c2, c3⟩ := HN6.out.four (.int .i64 st) (.int .i64 why) (.int .u64 sq)
  clear hk6 hd6 hown y0 y1 y2 y3 y4 y5 g0 g1 g2 k0 k1 k2
  go_wp2_with fail
  have HB := Lib.hid (HN6.out.sets4 (.int .i64 st) (.int .i64 why) (.int .u64 sq) (.slice Av nv cv))
  have HE := Lib.hid (reads_end HK6.out HD6.out HN.out.1 (by omega) (.int .i64 st) (.int .i64 why) (.int .u64 sq) (.slice Av nv cv) (img := img) HO6.out (own_ne HO6.out HN6.out (by decide)))
  change bodyPost _ _ _ _ _ (sets4 w6 (w.heap.size + 1) (.int .i64 st) (.int .i64 why) (.int .u64 sq) (.slice Av nv cv))
  generalize sets4 w6 (w.heap.size + 1) (.int .i64 st) (.int .i64 why) (.int .u64 sq) (.slice Av nv cv) = W5 at *
  obtain ⟨f0, f1, f2, f3⟩ := HB.out.c4
  (try simp only [Exit.inBlock, Exit.then])
  refine bodyPost_ret (by simp [results, Tryz.results99, go_sem, f0, f1, f2, f3]; try rfl) rfl ?_
  exact ⟨HE.out.1, HE.out.2.1, _, rfl, _, rfl, HE.out.2.2⟩
end Go.Proofs.YthlemcnbebfliaaGreatDoor
