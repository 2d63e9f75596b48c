/-
  THE WALKS OF slot's sealed AND OF slot.Read.
-/
import Derived.Test.YthlemcnbebfliaaGreatDoorSLay
namespace Go.Proofs.YthlemcnbebfliaaGreatDoor
open Ks Go.RowKit
set_option maxRecDepth 20000

/-- a slot that was read -/
structure Slt where
  st : Int
  why : Int
  seq : Int
  img : List Int
def noSlt : Slt := ⟨0, 0, 0, []⟩
/-- a slot as a value, its image in memory from block N on -/
def SltAt (w : World) (N : Nat) (v : Value) (x : Slt) : Prop := ∃ iv, v = slotV x.st x.why x.seq iv ∧ Own N w iv x.img
/-- what sealed answers: the disk, the slot, the error -/
def sealedOf (s : St) (i : Int) (n t : Nat) (q su : Int) : St × Slt × Int :=
  if (loads s i n).2.2 ≠ 0 then ((loads s i n).1, noSlt, (loads s i n).2.2) else if sumOf (glued (loads s i n).2.1 t) ≠ su then ((loads s i n).1, ⟨0, 8, 0, []⟩, 0) else ((loads s i n).1, ⟨2, 0, q, glued (loads s i n).2.1 t⟩, 0)
/-- what a read answers -/
def Reads (w : World) (p : Nat) (F : Nat → Prop) (s' : St) (x : Slt) (er : Int) (e : Ending) (w' : World) : Prop :=
  Keeps F w w' ∧ DiskAt Tryz.prog w' p F s' ∧ ∃ v, e = .returned (.tuple #[v, .int .i64 er]) ∧ SltAt w' w.heap.size v x
theorem _root_.Ks.Blk.c4 {w : World} {g : Nat} {t : TypeId} {x y z u : Value} (h : Blk w g t #[x, y, z, u]) : w.cell? ⟨g, 0, none⟩ = some x ∧ w.cell? ⟨g, 1, none⟩ = some y ∧ w.cell? ⟨g, 2, none⟩ = some z ∧ w.cell? ⟨g, 3, none⟩ = some u := ⟨h.cell 0, h.cell 1, h.cell 2, h.cell 3⟩
abbrev sets4 (w : World) (g : Nat) (x y z u : Value) : World := (((w.setCell ⟨g, 0, none⟩ x).setCell ⟨g, 1, none⟩ y).setCell ⟨g, 2, none⟩ z).setCell ⟨g, 3, none⟩ u
theorem _root_.Ks.Blk.four {w : World} {g : Nat} {t : TypeId} {x y z u : Value} (h : Blk w g t #[x, y, z, u]) (x' y' z' : Value) : w.cell? ⟨g, 0, none⟩ = some x ∧ (w.setCell ⟨g, 0, none⟩ x').cell? ⟨g, 1, none⟩ = some y ∧ ((w.setCell ⟨g, 0, none⟩ x').setCell ⟨g, 1, none⟩ y').cell? ⟨g, 2, none⟩ = some z ∧
    (((w.setCell ⟨g, 0, none⟩ x').setCell ⟨g, 1, none⟩ y').setCell ⟨g, 2, none⟩ z').cell? ⟨g, 3, none⟩ = some u := ⟨h.cell 0, (h.set_ 0 x').cell 1, ((h.set_ 0 x').set_ 1 y').cell 2, (((h.set_ 0 x').set_ 1 y').set_ 2 z').cell 3⟩
theorem _root_.Ks.Blk.sets4 {w : World} {g : Nat} {t : TypeId} {x y z u : Value} (h : Blk w g t #[x, y, z, u]) (x' y' z' u' : Value) : Blk (sets4 w g x' y' z' u') g t #[x', y', z', u'] := (((h.set_ 0 x').set_ 1 y').set_ 2 z').set_ 3 u'
theorem keeps_sets4 {S : Nat → Prop} {w w' : World} (h : Keeps S w w') (g : Nat) (hg : S g ∨ w.heap.size ≤ g) (x y z u : Value) : Keeps S w (sets4 w' g x y z u) :=
  (((h.set_ (p := ⟨g, 0, none⟩) hg x).set_ (p := ⟨g, 1, none⟩) hg y).set_ (p := ⟨g, 2, none⟩) hg z).set_ (p := ⟨g, 3, none⟩) hg u
/-- only block g -/
theorem sets4_one (w : World) (g : Nat) (x y z u : Value) : Keeps (fun b => b = g) w (sets4 w g x y z u) := keeps_sets4 (S := fun b => b = g) (Keeps.refl _ _) g (.inl rfl) x y z u
theorem own_keeps {S : Nat → Prop} {base : Nat} {w w' : World} {v : Value} {l : List Int} (h : Own base w v l) (hk : Keeps S w w') (hS : ∀ g, v.ownBlock = some g → ¬ S g) : Own base w' v l := by
  refine ⟨h.1, ?_⟩
  rcases h.2 with ⟨rfl, h0⟩ | ⟨g, cap, cur, rfl, hg, hh, r⟩
  · exact .inl ⟨rfl, h0⟩
  · exact .inr ⟨g, cap, cur, rfl, hg, (hk.block g (lt_of_heap hh) (hS g rfl)).trans hh, r⟩
theorem own_nil (base : Nat) (w : World) : Own base w (.slice none 0 0) [] := ⟨rfl, .inl ⟨rfl, rfl⟩⟩
/-- bytes of one's own are in no block of four cells -/
theorem own_ne {base : Nat} {w : World} {v : Value} {l : List Int} {g : Nat} {cs : Array Value} {t : TypeId} (h : Own base w v l) (hb : Blk w g t cs) (ht : t ≠ 5) : ∀ k, v.ownBlock = some k → ¬ k = g := by
  intro k hk
  rcases h.2 with ⟨rfl, _⟩ | ⟨g', cap, cur, rfl, _, hh, _⟩
  · cases hk
  · simp [Value.ownBlock] at hk
    subst hk
    rintro rfl
    unfold Blk at hb
    rw [hh] at hb
    injection hb with hb
    injection hb with _ h2
    exact ht h2.symm
theorem reads_end {w w1 : World} {p g : Nat} {F : Nat → Prop} {s' : St} (hk : Keeps F w w1) (hd : DiskAt Tryz.prog w1 p F s') (hg : ¬ F g) (hg2 : w.heap.size ≤ g) (x y z u : Value) {img : List Int} (hu : Own w.heap.size w1 u img) (hne : ∀ k, u.ownBlock = some k → ¬ k = g) :
    Keeps F w (sets4 w1 g x y z u) ∧ DiskAt Tryz.prog (sets4 w1 g x y z u) p F s' ∧ Own w.heap.size (sets4 w1 g x y z u) u img :=
  ⟨keeps_sets4 hk g (.inr hg2) x y z u, hd.keeps (sets4_one w1 g x y z u) (fun _b hb e => hg (e ▸ hb)), own_keeps hu (sets4_one w1 g x y z u) hne⟩
set_option maxHeartbeats 1000000 in
theorem sealed_any (w : World) (p x y m n t size : Nat) (F : Nat → Prop) (s : St) (first a b c q su : Int) (hT : Tab w) (hF2 : ∀ k, F k → 2 ≤ k) (h : DiskAt Tryz.prog w p F s) (hH : Hand w x y p first) (hFx : ¬ F x) (hFy : ¬ F y) (hO : Ok m s) (hm : m + n < 1000000) (hsz : s.size = size) (h1 : 1 ≤ size)
    (ht : t ≤ 131072) (hn : sect t size = n) (hf0 : 0 ≤ first) (hf1 : first ≤ 500000) :
    Calls Tryz.prog 125 #[placeV size x y, headV a b c t q su] w (Reads w p F (sealedOf s (first + 1) n t q su).1 (sealedOf s (first + 1) n t q su).2.1 (sealedOf s (first + 1) n t q su).2.2) := by
  obtain ⟨b0, b1, b2⟩ := boxed w (.int .i64 (size : Int)) (fnV 110 x y) (fnV 112 x y) 130
  have hb1 := below_box w (.cells #[.int .i64 (size : Int), fnV 110 x y, fnV 112 x y] 130)
  obtain ⟨W1, hW1⟩ : ∃ W1, w.alloc (.cells #[.int .i64 (size : Int), fnV 110 x y, fnV 112 x y] 130) = W1 := ⟨_, rfl⟩
  have hs1 : W1.heap.size = w.heap.size + 1 := by rw [← hW1]; exact size_alloc _ _
  rw [hW1] at b0 b1 b2 hb1
  have d := boxed6 W1 (.int .i64 a) (.int .i64 b) (.int .i64 c) (.int .i64 (t : Int)) (.int .u64 q) (.int .u32 su) 85
  have hb2 := below_box W1 (.cells #[.int .i64 a, .int .i64 b, .int .i64 c, .int .i64 (t : Int), .int .u64 q, .int .u32 su] 85)
  obtain ⟨W2, hW2⟩ : ∃ W2, W1.alloc (.cells #[.int .i64 a, .int .i64 b, .int .i64 c, .int .i64 (t : Int), .int .u64 q, .int .u32 su] 85) = W2 := ⟨_, rfl⟩
  have hs2 : W2.heap.size = w.heap.size + 1 + 1 := by rw [← hW2, size_alloc, hs1]
  rw [hW2] at d
  rw [hW2] at hb2
  have hb3 := below_box W2 (.cells #[.int .i64 0, .int .i64 0, .int .u64 0, .slice none 0 0] 110)
  have hn3 := Blk.new W2 110 #[.int .i64 0, .int .i64 0, .int .u64 0, .slice none 0 0]
  obtain ⟨W, hW⟩ : ∃ W, W2.alloc (.cells #[.int .i64 0, .int .i64 0, .int .u64 0, .slice none 0 0] 110) = W := ⟨_, rfl⟩
  rw [hW] at hb3 hn3
  have hbb := (hb1.trans (hb2.mono hb1.size)).trans (hb3.mono (Nat.le_trans hb1.size hb2.size))
  have e0 := ((hb2.trans (hb3.mono hb2.size)).cell (p := ⟨w.heap.size, 0, none⟩) (by show w.heap.size < W1.heap.size; omega)).trans b0
  have e1 := ((hb2.trans (hb3.mono hb2.size)).cell (p := ⟨w.heap.size, 1, none⟩) (by show w.heap.size < W1.heap.size; omega)).trans b1
  have e2 := ((hb2.trans (hb3.mono hb2.size)).cell (p := ⟨w.heap.size, 2, none⟩) (by show w.heap.size < W1.heap.size; omega)).trans b2
  have d3 := (hb3.cell (p := ⟨W1.heap.size, 3, none⟩) (by show W1.heap.size < W2.heap.size; omega)).trans d.2.2.2.1
  have d4 := (hb3.cell (p := ⟨W1.heap.size, 4, none⟩) (by show W1.heap.size < W2.heap.size; omega)).trans d.2.2.2.2.1
  have d5 := (hb3.cell (p := ⟨W1.heap.size, 5, none⟩) (by show W1.heap.size < W2.heap.size; omega)).trans d.2.2.2.2.2
  have HT := Lib.hid (tab_below hT hbb (tab_pos hT))
  have HBB := Lib.hid hbb
  have HD := Lib.hid (h.below_ hbb)
  have HH := Lib.hid (hH.keep (S := No) (Keeps.of_below hbb) (fun h => h) (fun h => h))
  have HTH := Lib.hid h.there
  have HF2 := Lib.hid hF2
  have HX := Lib.hid (And.intro hFx hFy)
  have HO := Lib.hid hO
  have HS := Lib.hid (And.intro hsz hn)
  have HN3 := Lib.hid hn3
  have HLW := Lib.hid (show W2.heap.size < W.heap.size ∧ W1.heap.size < W2.heap.size ∧ w.heap.size < W1.heap.size from ⟨hn3.lt, by omega, by omega⟩)
  have HC := Lib.hid (And.intro d3 (And.intro d4 d5))
  obtain ⟨r, hr⟩ : ∃ r, sealedOf s (first + 1) n t q su = r := ⟨_, rfl⟩
  have HR := Lib.hid hr
  rw [hr]
  clear b0 b1 b2 hb1 d hb2 hb3 hbb hT h hH hFx hFy hO hsz hn hF2 hn3 hs1 hs2 hr
  go_enter Tryz.func125, Tryz.ntmps125
  go_wp2_with fail
  clear e0 e1 e2 hW1 hW2 hW
  refine (load_any W p x y m F s first n t size HD.out HH.out HX.out.1 HX.out.2 HO.out hm HS.out.1 h1 ht HS.out.2 hf0 hf1).mono ?_
  rintro e w1 ⟨hk, hd, hh⟩
  have HK := Lib.hid hk
  have HD1 := Lib.hid hd
  have HN := Lib.hid (show (¬ F W2.heap.size) ∧ (¬ F W1.heap.size) from ⟨fun hf => by have := HTH.out _ hf; have := HLW.out; omega, fun hf => by have := HTH.out _ hf; have := HLW.out; omega⟩)
  have HN1 := Lib.hid (HN3.out.of_eq (hk.block _ HLW.out.1 HN.out.1))
  have HC1 := Lib.hid (show _ ∧ _ ∧ _ from ⟨(hk.cell (o := 3) (show W1.heap.size < W.heap.size by have := HLW.out; omega) HN.out.2).trans HC.out.1, (hk.cell (o := 4) (show W1.heap.size < W.heap.size by have := HLW.out; omega) HN.out.2).trans HC.out.2.1, (hk.cell (o := 5) (show W1.heap.size < W.heap.size by have := HLW.out; omega) HN.out.2).trans HC.out.2.2⟩)
  have HKW := Lib.hid (show Keeps F w w1 from (Keeps.of_below HBB.out).no.trans hk)
  have HT1 := Lib.hid (tab_keeps HT.out hk HF2.out)
  clear hk hd d3 d4 d5
  obtain ⟨LS, hLS⟩ : ∃ LS, loads s (first + 1) n = LS := ⟨_, rfl⟩
  have HLI := Lib.hid (loads_in8 HO.out (first + 1) n)
  rw [hLS] at hh HLI
  have HLS := Lib.hid hLS
  rw [hLS] at HD1
  clear hLS
  have fr := HN1.out.frozen
  rcases hh with ⟨h0, rfl⟩ | ⟨h0, v, rfl, hv, hvl⟩
  · obtain ⟨lerr, hle⟩ : ∃ z, LS.2.2 = z := ⟨_, rfl⟩
    rw [hle] at h0 ⊢
    have hd0 : (lerr != 0) = true := by simpa using h0
    have HRE := Lib.hid (show r = (LS.1, noSlt, lerr) by
      rw [← HR.out]
      unfold sealedOf
      rw [HLS.out, hle, if_pos h0])
    obtain ⟨c0, c1, c2, c3⟩ := HN1.out.four (.int .i64 0) (.int .i64 0) (.int .u64 0)
    clear hle
    go_wp2_with fail
    have HB := Lib.hid (HN1.out.sets4 (.int .i64 0) (.int .i64 0) (.int .u64 0) (.slice none 0 0))
    have HE := Lib.hid (reads_end HKW.out HD1.out HN.out.1 (by have := HLW.out; omega) (.int .i64 0) (.int .i64 0) (.int .u64 0) (.slice none 0 0) (img := []) (own_nil _ _) (fun k h => by cases h))
    change bodyPost _ _ _ _ _ (sets4 w1 W2.heap.size (.int .i64 0) (.int .i64 0) (.int .u64 0) (.slice none 0 0))
    generalize sets4 w1 W2.heap.size (.int .i64 0) (.int .i64 0) (.int .u64 0) (.slice none 0 0) = W5 at *
    obtain ⟨f0, f1, f2, f3⟩ := HB.out.c4
    (try simp only [Exit.inBlock, Exit.then])
    refine bodyPost_ret (by simp [results, Tryz.results125, go_sem, f0, f1, f2, f3]; try rfl) rfl ?_
    rw [HRE.out]
    exact ⟨HE.out.1, HE.out.2.1, _, rfl, _, rfl, HE.out.2.2⟩
  · have hin := glued_in LS.2.1 t HLI.out
    obtain ⟨A, cc, rfl, hcc, hby⟩ := hv.bytes hin
    rw [hvl] at hby ⊢
    obtain ⟨img, himg⟩ : ∃ img, glued LS.2.1 t = img := ⟨_, rfl⟩
    rw [himg] at hby hv hvl
    rw [hvl] at hv
    have HV := Lib.hid (hv.base_ (b' := w.heap.size) HBB.out.size)
    have HBY := Lib.hid hby
    have HRE := Lib.hid (show r = if sumOf img ≠ su then (LS.1, ⟨0, 8, 0, []⟩, 0) else (LS.1, ⟨2, 0, q, img⟩, 0) by
      rw [← HR.out]
      unfold sealedOf
      rw [HLS.out, if_neg (fun h => h h0), himg])
    clear hin hv hby hcc himg hvl
    obtain ⟨sm, hsm⟩ : ∃ sm, sumOf img = sm := ⟨_, rfl⟩
    have HSM := Lib.hid hsm
    clear hsm
    go_upto_region 4 with fail
    obtain ⟨k3, k4, k5⟩ := HC1.out
    refine wp_region_still_lit (by kernel_rfl) (by kernel_rfl) ?_
    still_step
    still_call (sum_at A t cc _ img sm _ HT1.out (by unfold maxLen; omega) (bytes_drew HBY.out) HSM.out)
    iterate 3 still_step
    refine wpStill_nil ?_
    change Exit.then _ _ _ _ w1.drew
    have HKD := Lib.hid HKW.out.drew
    have HDD := Lib.hid (HD1.out.keeps (Keeps.refl No w1).drew (fun _ _ h => h))
    have HND := Lib.hid (show Blk w1.drew W2.heap.size 110 #[.int .i64 0, .int .i64 0, .int .u64 0, .slice none 0 0] from HN1.out)
    have HVD := Lib.hid (show Own w.heap.size w1.drew (.slice A t cc) img from HV.out)
    have k4' : w1.drew.cell? ⟨W1.heap.size, 4, none⟩ = some (.int .u64 q) := k4
    clear k3 k4 k5 fr HN1 HKW HD1 HV HC1
    generalize w1.drew = w5 at *
    by_cases hsn : sm ≠ su
    · have hsb : (sm != su) = true := by simpa using hsn
      have HRF := Lib.hid (show r = (LS.1, ⟨0, 8, 0, []⟩, 0) by rw [HRE.out, HSM.out, if_pos hsn])
      clear hsn
      go_wp2_with fail
      refine (bad_any 8 _).mono ?_
      rintro e w6 ⟨rfl, hk6⟩
      have HK6 := Lib.hid (HKD.out.trans (hk6.no (T := F)))
      have HD6 := Lib.hid (HDD.out.keeps hk6 (fun _ _ h => h))
      have HN6 := Lib.hid (HND.out.of_eq (hk6.block _ (lt_of_heap HND.out) (fun h => h)))
      have fr := HN6.out.frozen
      obtain ⟨c0, c1, c2, c3⟩ := HN6.out.four (.int .i64 0) (.int .i64 8) (.int .u64 0)
      clear hk6
      go_wp2_with fail
      have HB := Lib.hid (HN6.out.sets4 (.int .i64 0) (.int .i64 8) (.int .u64 0) (.slice none 0 0))
      have HE := Lib.hid (reads_end HK6.out HD6.out HN.out.1 (by have := HLW.out; omega) (.int .i64 0) (.int .i64 8) (.int .u64 0) (.slice none 0 0) (img := []) (own_nil _ _) (fun k h => by cases h))
      change bodyPost _ _ _ _ _ (sets4 w6 W2.heap.size (.int .i64 0) (.int .i64 8) (.int .u64 0) (.slice none 0 0))
      generalize sets4 w6 W2.heap.size (.int .i64 0) (.int .i64 8) (.int .u64 0) (.slice none 0 0) = W5 at *
      obtain ⟨f0, f1, f2, f3⟩ := HB.out.c4
      (try simp only [Exit.inBlock, Exit.then])
      refine bodyPost_ret (by simp [results, Tryz.results125, go_sem, f0, f1, f2, f3]; try rfl) rfl ?_
      rw [HRF.out]
      exact ⟨HE.out.1, HE.out.2.1, _, rfl, _, rfl, HE.out.2.2⟩
    · have hsn : sm = su := by omega
      have hsb : (sm != su) = false := by simpa using hsn
      have HRF := Lib.hid (show r = (LS.1, ⟨2, 0, q, img⟩, 0) by rw [HRE.out, HSM.out, if_neg (fun h => h hsn)])
      have fr := HND.out.frozen
      obtain ⟨c0, c1, c2, c3⟩ := HND.out.four (.int .i64 2) (.int .i64 0) (.int .u64 q)
      clear hsn
      go_wp2_with fail
      have HB := Lib.hid (HND.out.sets4 (.int .i64 2) (.int .i64 0) (.int .u64 q) (.slice A t cc))
      have HE := Lib.hid (reads_end HKD.out HDD.out HN.out.1 (by have := HLW.out; omega) (.int .i64 2) (.int .i64 0) (.int .u64 q) (.slice A t cc) (img := img) (HVD.out) (own_ne HVD.out HND.out (by decide)))
      change bodyPost _ _ _ _ _ (sets4 w5 W2.heap.size (.int .i64 2) (.int .i64 0) (.int .u64 q) (.slice A t cc))
      generalize sets4 w5 W2.heap.size (.int .i64 2) (.int .i64 0) (.int .u64 q) (.slice A t cc) = W5 at *
      obtain ⟨f0, f1, f2, f3⟩ := HB.out.c4
      (try simp only [Exit.inBlock, Exit.then])
      refine bodyPost_ret (by simp [results, Tryz.results125, go_sem, f0, f1, f2, f3]; try rfl) rfl ?_
      rw [HRF.out]
      exact ⟨HE.out.1, HE.out.2.1, _, rfl, _, rfl, HE.out.2.2⟩
end Go.Proofs.YthlemcnbebfliaaGreatDoor
