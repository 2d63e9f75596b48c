/-
  MORE OF DISKS AS VALUES: Data alone, Seal alone, Wipe, Sync, Crash, and reads that may fail once.
  THE WALKS OF keepsakeref06.Few AND OF keepsakelaw06.fresh.
  WHAT SlotBack DOES, of disks as values; blocks beside the disk.
-/
import Derived.Test.YthlemcnbebfliaaGreatDoorSAwake
import Derived.Test.YthlemcnbebfliaaGreatDoorDCrash
import Derived.Test.YthlemcnbebfliaaGreatDoorDFail
import Derived.Test.YthlemcnbebfliaaGreatDoorSSpans
namespace Go.Proofs.YthlemcnbebfliaaGreatDoor
open Ks Go.RowKit
set_option maxRecDepth 20000

/-- where a call that may be made lies -/
theorem forErr_place {s : St} {which a b c : Int} {n z : Nat} (hz : s.size = z) (hz2 : z ≤ 4096) (he : forErr s which a b c n = 0) : 0 ≤ which * spanOf z a b c ∧ which * spanOf z a b c + 1 + (many n z : Nat) ≤ s.last.length := by
  obtain ⟨q1, q2, q3, q4, q5, q6, q7⟩ := forErr_ok he
  rw [hz] at q5 q6
  have hsp := span_eq q3 q5 hz2 q2
  rcases q7 with rfl | rfl <;> omega
/-- Data alone -/
theorem put_has {s : St} (hf : NoFail s) {which a b c : Int} {l : List Int} {z : Nat} (hz : s.size = z) (hz2 : z ≤ 4096) (he : forErr s which a b c l.length = 0) :
    ∃ s1, put_ s which a b c l = (s1, 0) ∧ Stored s s1 (which * spanOf z a b c + 1) (secs l z) (many l.length z) := by
  obtain ⟨q1, q2, q3, q4, q5, q6, q7⟩ := forErr_ok he
  rw [hz] at q5 q6
  have hp := forErr_place hz hz2 he
  have hb := many_bounds l.length z (by omega) hz2
  have hX := fill_len' l (many l.length z * z) hb.1
  obtain ⟨e0, S1⟩ := stores_fine hf (which * spanOf z a b c + 1) (secs l z) (many l.length z) (by omega) (by omega) (fun k hk => by rw [hz]; exact cutL_piece_len _ _ _ _ hk hX)
  refine ⟨_, ?_, S1⟩
  unfold put_
  rw [if_neg (fun h => h he), hz]
  exact Prod.ext rfl e0
theorem Stored.imgs {s s1 : St} {first : Int} {l : List Int} {z : Nat} (h : Stored s s1 (first + 1) (secs l z) (many l.length z)) : ∀ k, k < many l.length z → view s1 (first + 1 + k) = (secs l z).getD k [] := by
  intro k hk
  unfold view
  rw [h.cach, if_pos (by omega)]
  simp only [Option.getD_some]
  congr 1
  omega
theorem Stored.head {s s1 : St} {first : Int} {L : List (List Int)} {t : Nat} (h : Stored s s1 (first + 1) L t) : view s1 first = view s first := by
  unfold view
  rw [h.cach, if_neg (by omega), h.last]
theorem padded_len {l : List Int} {z : Nat} (h : l.length ≤ z) : (padded l z).length = z := by
  unfold padded
  rw [List.length_append, List.length_replicate]
  omega
/-- Seal alone -/
theorem laid_fine {s : St} (hf : NoFail s) {which a b c q : Int} {l : List Int} {z : Nat} (hz : s.size = z) (hz2 : z ≤ 4096) (he : forErr s which a b c l.length = 0) :
    laid s which a b c q l = (s.put (which * spanOf z a b c) (padded (enc a b c l.length q (sumOf l)) z), 0) := by
  obtain ⟨q1, q2, q3, q4, q5, q6, q7⟩ := forErr_ok he
  rw [hz] at q5
  have hp := forErr_place hz hz2 he
  unfold laid
  rw [if_neg (fun h => h he), hz]
  exact write_fine hf _ _ hp.1 (by omega) (by rw [hz]; exact padded_len (by rw [enc_len]; omega))
theorem put_view (s : St) (i j : Int) (bs : List Int) : view (s.put i bs) j = if j = i then bs else view s j := by
  unfold view
  simp only [St.put, St.tick]
  split <;> rfl
theorem laid_Has {s : St} {first : Int} {X l : List Int} {z : Nat} (hi : ∀ k, k < many l.length z → view s (first + 1 + k) = (secs l z).getD k []) : Has (s.put first X) first X z l := by
  refine ⟨by rw [put_view, if_pos rfl], fun k hk => ?_⟩
  rw [put_view, if_neg (by omega), hi k hk]
/-- Wipe -/
theorem wiped_fine {s : St} (hf : NoFail s) {which a b c : Int} {z n : Nat} (hz : s.size = z) (hz2 : z ≤ 4096) (he : forErr s which a b c n = 0) : wiped s which a b c = (s.put (which * spanOf z a b c) (padded [] z), 0) := by
  have hp := forErr_place hz hz2 he
  unfold wiped
  rw [(forErr_ok he).1, if_neg (fun h => h rfl), hz]
  exact write_fine hf _ _ hp.1 (by omega) (by rw [hz]; exact padded_len (by simp))
/-- what is read keeps the disk -/
structure Alike (s s' : St) : Prop where
  size : s'.size = s.size
  last : s'.last = s.last
  cach : s'.cach = s.cach
theorem Alike.refl (s : St) : Alike s s := ⟨rfl, rfl, rfl⟩
theorem Alike.trans {s s' s'' : St} (h : Alike s s') (k : Alike s' s'') : Alike s s'' := ⟨k.size.trans h.size, k.last.trans h.last, k.cach.trans h.cach⟩
theorem Alike.tick (s : St) : Alike s s.tick := ⟨rfl, rfl, rfl⟩
theorem Alike.view {s s' : St} (h : Alike s s') (j : Int) : Proofs.YthlemcnbebfliaaGreatDoor.view s' j = Proofs.YthlemcnbebfliaaGreatDoor.view s j := by unfold Proofs.YthlemcnbebfliaaGreatDoor.view; rw [h.cach, h.last]
theorem loads_alike (s : St) (i : Int) (k : Nat) : Alike s (loads s i k).1 := by
  induction k with
  | zero => exact Alike.refl s
  | succ k ih =>
    rw [loads]
    split
    · exact ih.trans (Alike.tick _)
    · exact ih
theorem loads_nofail {s : St} (h : NoFail s) (i : Int) (k : Nat) : NoFail (loads s i k).1 := by
  induction k with
  | zero => exact h
  | succ k ih =>
    rw [loads]
    split
    · exact ih.tick
    · exact ih
theorem sealed_fst (s : St) (i : Int) (n t : Nat) (q su : Int) : (sealedOf s i n t q su).1 = (loads s i n).1 := by
  unfold sealedOf
  split
  · rfl
  split <;> rfl
theorem readOf_fst (s : St) (which a b c : Int) : (readOf s which a b c).1 = s ∨ (readOf s which a b c).1 = s.tick ∨ ∃ i n, (readOf s which a b c).1 = (loads s.tick i n).1 := by
  unfold readOf headOf
  split
  · exact .inl rfl
  split
  · exact .inr (.inl rfl)
  split
  · exact .inr (.inl rfl)
  split
  · exact .inr (.inl rfl)
  · exact .inr (.inr ⟨_, _, sealed_fst _ _ _ _ _ _⟩)
theorem readOf_alike (s : St) (which a b c : Int) : Alike s (readOf s which a b c).1 := by
  rcases readOf_fst s which a b c with h | h | ⟨i, n, h⟩ <;> rw [h]
  · exact Alike.refl s
  · exact Alike.tick s
  · exact (Alike.tick s).trans (loads_alike _ _ _)
theorem readOf_nofail {s : St} (hf : NoFail s) (which a b c : Int) : NoFail (readOf s which a b c).1 := by
  rcases readOf_fst s which a b c with h | h | ⟨i, n, h⟩ <;> rw [h]
  · exact hf
  · exact hf.tick
  · exact loads_nofail hf.tick _ _
/-- a head's sector of zeros is no head -/
theorem dec_zeros {z : Nat} (h : 28 ≤ z) : decErr (List.replicate z 0) = 6 := by
  unfold decErr
  rw [if_neg (by rw [List.length_replicate]; omega), if_pos]
  unfold Ks.part
  rw [List.drop_zero, List.take_replicate, Nat.min_eq_left (by omega)]
  decide
theorem read_zeros {s : St} (hf : NoFail s) {which a b c : Int} {n z : Nat} (hz : s.size = z) (hz2 : z ≤ 4096) (he : forErr s which a b c n = 0) (hv : view s (which * spanOf z a b c) = List.replicate z 0) : (readOf s which a b c).2 = (⟨0, 6, 0, []⟩, 0) := by
  obtain ⟨q1, q2, q3, q4, q5, q6, q7⟩ := forErr_ok he
  rw [hz] at q5 q6
  have hp := forErr_place hz hz2 he
  unfold readOf
  rw [q1, if_neg (fun h => h rfl), hz, read_fine hf _ hp.1 (by omega), if_neg (fun h => h rfl), hv]
  show (headOf s.tick (List.replicate z 0) _ a b c).2 = _
  unfold headOf
  rw [dec_zeros (by omega), if_pos (by decide)]

/-- some sectors are as they were -/
structure Part (R : Int → Prop) (s s' : St) : Prop where
  size : s'.size = s.size
  len : s'.last.length = s.last.length
  cach : ∀ j, R j → s'.cach j = s.cach j
  last : ∀ j, R j → s'.last.getD j.toNat [] = s.last.getD j.toNat []
section
variable {R : Int → Prop} {s s' s'' : St}
theorem Part.refl (R : Int → Prop) (s : St) : Part R s s := ⟨rfl, rfl, fun _ _ => rfl, fun _ _ => rfl⟩
theorem Part.trans (h : Part R s s') (k : Part R s' s'') : Part R s s'' := ⟨k.size.trans h.size, k.len.trans h.len, fun j hj => (k.cach j hj).trans (h.cach j hj), fun j hj => (k.last j hj).trans (h.last j hj)⟩
theorem Part.tick (R : Int → Prop) (s : St) : Part R s s.tick := ⟨rfl, rfl, fun _ _ => rfl, fun _ _ => rfl⟩
theorem Part.put (s : St) (i : Int) (bs : List Int) (h : ¬ R i) : Part R s (s.put i bs) := by
  refine ⟨rfl, rfl, fun j hj => ?_, fun _ _ => rfl⟩
  have : j ≠ i := fun e => h (e ▸ hj)
  simp only [St.put, if_neg this]
theorem Part.write (s : St) (i : Int) (bs : List Int) (h : ¬ R i) : Part R s (s.write i bs).1 := by
  unfold St.write
  split
  · exact Part.tick R s
  split
  · exact Part.tick R s
  split
  · exact Part.tick R s
  split
  · exact Part.tick R s
  · exact Part.put s i bs h
theorem Part.stores (s : St) (i : Int) (L : List (List Int)) (t : Nat) (h : ∀ j, i ≤ j → j < i + t → ¬ R j) : Part R s (stores s i L t).1 := by
  induction t with
  | zero => exact Part.refl R s
  | succ t ih =>
    have hi := ih (fun j h1 h2 => h j h1 (by omega))
    rw [Proofs.YthlemcnbebfliaaGreatDoor.stores]
    split
    · exact hi.trans (Part.write _ _ _ (h _ (by omega) (by omega)))
    · exact hi
theorem Part.view (h : Part R s s') (j : Int) (hj : R j) : view s' j = view s j := by
  unfold Proofs.YthlemcnbebfliaaGreatDoor.view
  rw [h.cach j hj, h.last j hj]
theorem Part.settled (s : St) (i : Int) (bs : List Int) (h : ¬ R i) (h0 : 0 ≤ i) (hR : ∀ j, R j → 0 ≤ j) : Part R s (s.settled i bs) := by
  refine ⟨rfl, by simp [St.settled], fun j hj => ?_, fun j hj => ?_⟩
  · have : j ≠ i := fun e => h (e ▸ hj)
    simp only [St.settled, if_neg this]
  · have hne : i.toNat ≠ j.toNat := by
      have := hR j hj
      have hji : j ≠ i := fun e => h (e ▸ hj)
      omega
    simp only [St.settled, List.getD, List.getElem?_set_ne hne]
theorem Part.crashL (us : List Int) : ∀ (s : St) (ts : List (Int × List Int)), (∀ u ∈ us, ¬ R u ∧ 0 ≤ u) → (∀ j, R j → 0 ≤ j) → Part R s (Dsk.crashL s us ts) := by
  induction us with
  | nil => intro s ts _ _; exact Part.refl R s
  | cons i us ih =>
    intro s ts h hR
    have h1 := h i (List.mem_cons_self ..)
    exact (Part.settled s i _ h1.1 h1.2 hR).trans (ih _ _ (fun u hu => h u (List.mem_cons_of_mem _ hu)) hR)
/-- a crash leaves what isn't cached -/
theorem Part.crash (s : St) (ts : List (Int × List Int)) (h : ∀ j, R j → s.cach j = none) (hR : ∀ j, R j → 0 ≤ j) : Part R s (s.crash ts) := by
  refine Part.crashL s.uns s ts (fun u hu => ?_) hR
  have hm := (Dsk.mem_uns s u).1 hu
  refine ⟨fun hu => ?_, hm.1⟩
  have := hm.2.2
  rw [h u hu] at this
  cases this
end
/-- at most one operation is planned to fail -/
def One (s : St) : Prop := ∃ n, ∀ k, s.plan k = true → k = n
theorem One.tick {s : St} (h : One s) : One s.tick := by
  obtain ⟨n, h⟩ := h
  refine ⟨n, fun k hk => h k ?_⟩
  simp only [St.tick] at hk
  split at hk
  · cases hk
  · exact hk
theorem One.plan {s s' : St} (h : One s) (e : s'.plan = s.plan) : One s' := by
  obtain ⟨n, h⟩ := h
  exact ⟨n, fun k hk => h k (by rw [← e]; exact hk)⟩
theorem One.put {s : St} (h : One s) (i : Int) (bs : List Int) : One (s.put i bs) := h.tick.plan rfl
theorem One.write {s : St} (h : One s) (i : Int) (bs : List Int) : One (s.write i bs).1 := by
  unfold St.write
  split
  · exact h.tick
  split
  · exact h.tick
  split
  · exact h.tick
  split
  · exact h.tick
  · exact h.put i bs
theorem One.stores {s : St} (h : One s) (i : Int) (L : List (List Int)) (t : Nat) : One (stores s i L t).1 := by
  induction t with
  | zero => exact h
  | succ t ih =>
    rw [Proofs.YthlemcnbebfliaaGreatDoor.stores]
    split
    · exact ih.write _ _
    · exact ih
theorem One.of_nofail {s : St} (h : NoFail s) : One s := ⟨0, fun k hk => by rw [h k] at hk; cases hk⟩
theorem One.fail {s : St} (h : NoFail s) (n : Int) : One (s.fail n) := by
  unfold St.fail
  split
  · exact One.of_nofail h
  · refine ⟨n, fun k hk => ?_⟩
    by_cases e : k = n
    · exact e
    · simp only [if_neg e, h k] at hk
      cases hk
theorem crashL_plan (us : List Int) : ∀ (s : St) (ts : List (Int × List Int)), (Dsk.crashL s us ts).plan = s.plan := by
  induction us with
  | nil => intro s ts; rfl
  | cons i us ih => intro s ts; exact ih _ _
/-- what fails was the one that was planned -/
theorem One.fails {s : St} (h : One s) (hf : s.fails = true) : NoFail s.tick := by
  obtain ⟨n, h⟩ := h
  have e := h _ hf
  intro k
  simp only [St.tick]
  split
  · rfl
  · rename_i hk
    cases hp : s.plan k
    · rfl
    · exact absurd ((h k hp).trans e.symm) hk
theorem read_if {s : St} (i : Int) (h0 : 0 ≤ i) (h1 : i < s.last.length) : Dsk.St.read s i = if s.fails then ([], 3) else (view s i, 0) := by
  unfold Dsk.St.read view
  rw [if_neg (show ¬ (i < 0 ∨ (s.last.length : Int) ≤ i) by omega)]
theorem loads_one {s : St} (h : One s) (i : Int) (t : Nat) (h0 : 0 ≤ i) (h1 : i + t ≤ s.last.length) : ((loads s i t).2.2 = 0 ∧ One (loads s i t).1 ∧ (loads s i t).2.1 = (List.range t).map fun (k : Nat) => view s (i + k)) ∨ ((loads s i t).2.2 = 3 ∧ NoFail (loads s i t).1) := by
  induction t with
  | zero => exact .inl ⟨rfl, h, rfl⟩
  | succ t ih =>
    have al := loads_alike s i t
    rcases ih (by omega) with ⟨e, hs, e4⟩ | ⟨e, hs⟩
    · rw [loads_succ s i t e, read_if (i + t) (by omega) (by rw [al.last]; omega)]
      cases hf : (loads s i t).1.fails
      · refine .inl ⟨rfl, hs.tick, ?_⟩
        show (loads s i t).2.1 ++ [view (loads s i t).1 (i + t)] = _
        rw [e4, List.range_succ, List.map_append, al.view]
        rfl
      · exact .inr ⟨rfl, hs.fails hf⟩
    · rw [loads_stop s i t (t + 1) (by rw [e]; decide) (by omega)]
      exact .inr ⟨e, hs⟩
/-- a slot that is there is read as Good, or the one failure that is planned comes -/
theorem read_one {s : St} (hf : One s) {which a b c q : Int} {l : List Int} {z : Nat} (hz : s.size = z) (hz2 : z ≤ 4096) (he : forErr s which a b c l.length = 0) (hq : 0 ≤ q ∧ q < 18446744073709551616)
    (hh : Has s (which * spanOf z a b c) (padded (enc a b c l.length q (sumOf l)) z) z l) : (readOf s which a b c).2 = (⟨2, 0, q, l⟩, 0) ∨ ((readOf s which a b c).2 = (noSlt, 3) ∧ NoFail (readOf s which a b c).1) := by
  obtain ⟨q1, q2, q3, q4, q5, q6, q7⟩ := forErr_ok he
  rw [hz] at q5 q6
  have hsp := span_eq q3 q5 hz2 q2
  obtain ⟨first, hfi⟩ : ∃ f, which * spanOf z a b c = f := ⟨_, rfl⟩
  have hfb : 0 ≤ first ∧ first + 1 + (many l.length z : Nat) ≤ s.last.length := by
    rw [← hfi]
    rcases q7 with rfl | rfl <;> omega
  rw [hfi] at hh
  unfold readOf
  rw [q1, if_neg (fun h => h rfl), hz, hfi, read_if first hfb.1 (by omega)]
  cases hfl : s.fails
  rotate_left
  · refine .inr ⟨rfl, hf.fails hfl⟩
  show (ite ((0 : Int) ≠ 0) _ (headOf s.tick (view s first) first a b c)).2 = _ ∨ ((ite ((0 : Int) ≠ 0) _ (headOf s.tick (view s first) first a b c)).2 = _ ∧ NoFail (ite ((0 : Int) ≠ 0) _ (headOf s.tick (view s first) first a b c)).1)
  rw [if_neg (fun h => h rfl), hh.head]
  have hd : padded (enc a b c l.length q (sumOf l)) z = enc a b c l.length q (sumOf l) ++ List.replicate (z - (enc a b c l.length q (sumOf l)).length) 0 := rfl
  obtain ⟨d0, d1⟩ := dec_enc a b c l.length q (sumOf l) (List.replicate (z - (enc a b c l.length q (sumOf l)).length) 0) q4 hq (sumOf_in l)
  rw [hd]
  generalize enc a b c l.length q (sumOf l) ++ List.replicate (z - (enc a b c l.length q (sumOf l)).length) 0 = X at *
  unfold decH at d1
  obtain ⟨e1, e2, e3, e4, e5, e6⟩ := headV_inj.1 d1
  unfold headOf
  have ht : (total a b c).toNat = l.length := by omega
  rw [if_neg (fun h => h d0), if_neg (fun h => h ⟨e1, e2, e3⟩), e5, e6, ht, show s.tick.size = z from hz]
  rcases loads_one hf.tick (first + 1) (many l.length z) (by omega) (by show first + 1 + (many l.length z : Nat) ≤ (s.last.length : Int); omega) with ⟨l0, _, l5⟩ | ⟨l0, l1⟩
  · have hL : (loads s.tick (first + 1) (many l.length z)).2.1 = secs l z := by
      rw [l5]
      apply List.ext_getElem
      · simp [secs, cutL_len]
      · intro k h1 h2
        have hk : k < many l.length z := by simpa using h1
        have hv := hh.imgs k hk
        rw [List.getElem_map, List.getElem_range]
        show view s (first + 1 + k) = _
        rw [hv]
        simp [List.getD, h2]
    have hb := many_bounds l.length z (by omega) hz2
    have hg : glued (loads s.tick (first + 1) (many l.length z)).2.1 l.length = l := by
      rw [hL]
      exact glued_cut l z (many l.length z) hb.1
    unfold sealedOf
    rw [if_neg (fun h => h l0), hg, if_neg (fun h => h rfl)]
    exact .inl rfl
  · unfold sealedOf
    rw [if_pos (by rw [l0]; decide), l0]
    exact .inr ⟨rfl, l1⟩
/-- what a Sync leaves -/
structure Synced (s s' : St) : Prop where
  size : s'.size = s.size
  len : s'.last.length = s.last.length
  plan : s'.plan = s.plan
  cach : ∀ j : Int, 0 ≤ j → j < s.last.length → s'.cach j = none
  last : ∀ j : Int, 0 ≤ j → j < s.last.length → s'.last.getD j.toNat [] = view s j
theorem syncL_is (us : List Int) : ∀ (s : St), us.Pairwise (fun a b => a < b) → (∀ u ∈ us, 0 ≤ u ∧ u < s.last.length) →
    (Dsk.syncL s us).size = s.size ∧ (Dsk.syncL s us).last.length = s.last.length ∧ (Dsk.syncL s us).plan = s.plan ∧ (∀ j, (Dsk.syncL s us).cach j = if j ∈ us then none else s.cach j) ∧ (∀ j, 0 ≤ j → (Dsk.syncL s us).last.getD j.toNat [] = if j ∈ us then (s.cach j).getD [] else s.last.getD j.toNat []) := by
  induction us with
  | nil => intro s _ _; exact ⟨rfl, rfl, rfl, fun j => by simp [Dsk.syncL], fun j _ => by simp [Dsk.syncL]⟩
  | cons i us ih =>
    intro s hp hb
    obtain ⟨hp1, hp2⟩ := List.pairwise_cons.1 hp
    have hi := hb i (List.mem_cons_self ..)
    have hl : (s.settled i ((s.cach i).getD [])).last.length = s.last.length := by simp [St.settled]
    obtain ⟨h1, h2, h3, h4, h5⟩ := ih (s.settled i ((s.cach i).getD [])) hp2 (fun u hu => by rw [hl]; exact hb u (List.mem_cons_of_mem _ hu))
    have hni : i ∉ us := fun h => by have := hp1 i h; omega
    refine ⟨h1, h2.trans hl, h3, fun j => ?_, fun j hj => ?_⟩
    · show (Dsk.syncL (s.settled i ((s.cach i).getD [])) us).cach j = _
      rw [h4]
      by_cases hji : j = i
      · subst hji
        rw [if_neg hni, if_pos (List.mem_cons_self ..)]
        simp [St.settled]
      · by_cases hm : j ∈ us
        · rw [if_pos hm, if_pos (List.mem_cons_of_mem _ hm)]
        · rw [if_neg hm, if_neg (by simp [hji, hm])]
          simp [St.settled, hji]
    · show (Dsk.syncL (s.settled i ((s.cach i).getD [])) us).last.getD j.toNat [] = _
      rw [h5 j hj]
      by_cases hji : j = i
      · subst hji
        rw [if_neg hni, if_pos (List.mem_cons_self ..)]
        simp only [St.settled, List.getD]
        rw [List.getElem?_set_self (by omega)]
        rfl
      · have hne : i.toNat ≠ j.toNat := by omega
        by_cases hm : j ∈ us
        · rw [if_pos hm, if_pos (List.mem_cons_of_mem _ hm)]
          simp [St.settled, hji]
        · rw [if_neg hm, if_neg (by simp [hji, hm])]
          simp only [St.settled, List.getD, List.getElem?_set_ne hne]
theorem sync_fine {s : St} (hf : NoFail s) : s.sync.2 = 0 ∧ Synced s.tick s.sync.1 ∧ NoFail s.sync.1 := by
  unfold St.sync
  rw [show s.fails = false from hf _]
  obtain ⟨h1, h2, h3, h4, h5⟩ := syncL_is s.uns s.tick (Dsk.sorted_uns s) (fun u hu => by have := (Dsk.mem_uns s u).1 hu; exact ⟨this.1, this.2.1⟩)
  refine ⟨rfl, ⟨h1, h2, h3, fun j h0 hj => ?_, fun j h0 hj => ?_⟩, fun k => ?_⟩
  · show (Dsk.syncL s.tick s.uns).cach j = none
    rw [h4]
    split
    · rfl
    · rename_i hm
      cases hc : s.cach j with
      | none => exact hc
      | some bs => exact absurd ((Dsk.mem_uns s j).2 ⟨h0, hj, by rw [hc]; rfl⟩) hm
  · show (Dsk.syncL s.tick s.uns).last.getD j.toNat [] = view s.tick j
    rw [h5 j h0]
    unfold view
    split
    · rename_i hm
      have := ((Dsk.mem_uns s j).1 hm).2.2
      cases hc : s.cach j with
      | none => rw [hc] at this; cases this
      | some bs =>
        show (s.cach j).getD [] = (s.cach j).getD _
        rw [hc]
        rfl
    · rename_i hm
      cases hc : s.cach j with
      | none =>
        show _ = (s.cach j).getD _
        rw [hc]
        rfl
      | some bs => exact absurd ((Dsk.mem_uns s j).2 ⟨h0, hj, by rw [hc]; rfl⟩) hm
  · show (Dsk.syncL s.tick s.uns).plan k = false
    rw [h3]
    exact hf.tick k
theorem Synced.view {s s' : St} (h : Synced s s') (j : Int) (h0 : 0 ≤ j) (h1 : j < s.last.length) : view s' j = view s j := by
  rw [← h.last j h0 h1]
  unfold Proofs.YthlemcnbebfliaaGreatDoor.view
  rw [h.cach j h0 h1]
  rfl
theorem Has.of_view {s s' : St} {first : Int} {hd l : List Int} {z : Nat} (h : Has s first hd z l) (he : ∀ j, first ≤ j → j < first + 1 + (many l.length z : Nat) → view s' j = view s j) : Has s' first hd z l :=
  ⟨(he first (by omega) (by omega)).trans h.head, fun k hk => (he _ (by omega) (by omega)).trans (h.imgs k hk)⟩
/-- a disk of bytes within bounds stays one -/
theorem Ok.settled {m : Nat} {s : St} (h : Ok m s) (i : Int) (bs : List Int) (hb : In8 bs) : Ok m (s.settled i bs) := by
  refine ⟨fun l hl => ?_, fun k x hx => ?_, h.ops, h.wr, h.cn, h.pn, by simpa [St.settled] using h.len, h.size⟩
  · rcases List.mem_or_eq_of_mem_set hl with h1 | h1
    · exact h.l8 l h1
    · exact h1 ▸ hb
  · simp only [St.settled] at hx
    split at hx
    · cases hx
    · exact h.c8 k x hx
theorem Ok.getc {m : Nat} {s : St} (h : Ok m s) (i : Int) : In8 ((s.cach i).getD []) := by
  cases hc : s.cach i with
  | none => intro v hv; cases hv
  | some bs => exact h.c8 i bs hc
theorem Ok.syncL {m : Nat} (us : List Int) : ∀ {s : St}, Ok m s → Ok m (Dsk.syncL s us) := by
  induction us with
  | nil => intro s h; exact h
  | cons i us ih => intro s h; exact ih (h.settled i _ (h.getc i))
theorem Ok.sync {m : Nat} {s : St} (h : Ok m s) : Ok (m + 1) s.sync.1 := by
  unfold St.sync
  split
  · exact h.tick
  · exact Ok.syncL _ h.tick
theorem in8_junk {n : Nat} {bs : List Int} (h : In8 bs) : In8 (Dsk.junk n bs) := by
  intro v hv
  unfold Dsk.junk at hv
  rcases List.mem_append.1 hv with h1 | h1
  · exact h v (List.mem_of_mem_take h1)
  · exact in8_zeros _ v h1
theorem Ok.left {m : Nat} {s : St} (h : Ok m s) (i kind : Int) (tb : List Int) (hb : In8 tb) : In8 (Dsk.leftOf s i kind tb) := by
  unfold Dsk.leftOf
  split
  · exact h.getc i
  split
  · exact in8_junk hb
  · exact h.last8 _
theorem Ok.crashL {m : Nat} (us : List Int) : ∀ {s : St} {ts : List (Int × List Int)}, Ok m s → (∀ t ∈ ts, In8 t.2) → Ok m (Dsk.crashL s us ts) := by
  induction us with
  | nil => intro s ts h _; exact h
  | cons i us ih =>
    intro s ts h ht
    refine ih (h.settled i _ (h.left i _ _ ?_)) (fun t htt => ht t (List.mem_of_mem_tail htt))
    cases ts with
    | nil => intro v hv; cases hv
    | cons t ts => exact ht t (List.mem_cons_self ..)
theorem Ok.crash {m : Nat} {s : St} {ts : List (Int × List Int)} (h : Ok m s) (ht : ∀ t ∈ ts, In8 t.2) : Ok m (s.crash ts) := Ok.crashL _ h ht
theorem Ok.fail {m : Nat} {s : St} (h : Ok m s) (n : Int) : Ok (m + 1) (s.fail n) := by
  unfold St.fail
  split
  · exact h.mono (by omega)
  · exact ⟨h.l8, h.c8, Nat.le_succ_of_le h.ops, Nat.le_succ_of_le h.wr, Nat.le_succ_of_le h.cn, Nat.succ_le_succ h.pn, h.len, h.size⟩
theorem Ok.readOf {m : Nat} {s : St} (h : Ok m s) (which a b c : Int) : Ok (m + 1 + many (total a b c).toNat s.size) (readOf s which a b c).1 := by
  unfold Proofs.YthlemcnbebfliaaGreatDoor.readOf headOf
  split
  · exact h.mono (by omega)
  split
  · exact h.tick.mono (by omega)
  split
  · exact h.tick.mono (by omega)
  split
  · exact h.tick.mono (by omega)
  · rw [sealed_fst]
    exact (loads_ok h.tick _ _).1
end Go.Proofs.YthlemcnbebfliaaGreatDoor
namespace Go.Proofs.YthlemcnbebfliaaGreatDoor
open Ks Go.RowKit
set_option maxRecDepth 20000

/-- chips of a size that is looked at, or none that can be -/
def few500 (a b c : Int) : Bool := !right a b c || decide (total a b c ≤ 500)
theorem few_any (a b c : Int) (v : Bool) (w0 w : World) (H : On w0 w) (hv : few500 a b c = v) : Calls Tryz.prog 12 #[geoV a b c] w fun e w' => e = .returned (.bool v) ∧ On w0 w' := by
  have HT := Lib.hid (fun o => H.next (below_box w o))
  have HV := Lib.hid hv
  obtain ⟨b0, b1, b2⟩ := boxed w (.int .i64 a) (.int .i64 b) (.int .i64 c) 23
  clear hv H
  go_enter Tryz.func12, Tryz.ntmps12
  go_wp2_with fail
  have HW := Lib.hid (HT.out (.cells #[.int .i64 a, .int .i64 b, .int .i64 c] 23))
  have HP := Lib.hid (show w.heap.size < (w.alloc (.cells #[.int .i64 a, .int .i64 b, .int .i64 c] 23)).heap.size by simp)
  generalize w.alloc (.cells #[.int .i64 a, .int .i64 b, .int .i64 c] 23) = W at *
  obtain ⟨x, hx⟩ : ∃ x, right a b c = x := ⟨_, rfl⟩
  have HX := Lib.hid hx
  clear hx
  refine (refRight_any a b c x _ _ (On.start HW.out.tab) HX.out).mono ?_
  rintro e w1 ⟨rfl, hw1⟩
  have HW1 := Lib.hid (HW.out.next hw1.bel)
  have k0 := (hw1.bel.cell (p := ⟨w.heap.size, 0, none⟩) HP.out).trans b0
  have k1 := (hw1.bel.cell (p := ⟨w.heap.size, 1, none⟩) HP.out).trans b1
  have k2 := (hw1.bel.cell (p := ⟨w.heap.size, 2, none⟩) HP.out).trans b2
  clear b0 b1 b2 hw1
  cases x
  · have HE := Lib.hid (show true = v by rw [← HV.out]; unfold few500; rw [HX.out]; rfl)
    go_wp2_with fail
    go_ret
    exact ⟨ret_bool HE.out, HW1.out⟩
  obtain ⟨t, ht⟩ : ∃ t, total a b c = t := ⟨_, rfl⟩
  have HE := Lib.hid (show decide (t ≤ 500) = v by rw [← HV.out, ← ht]; unfold few500; rw [HX.out]; rfl)
  have HTT := Lib.hid ht
  clear ht
  go_wp2_with fail
  refine (refTotal_any a b c t _ _ (On.start HW1.out.tab) HTT.out).mono ?_
  rintro e w2 ⟨rfl, hw2⟩
  have HW2 := Lib.hid (HW1.out.next hw2.bel)
  clear hw2
  go_wp2_with fail
  go_ret
  exact ⟨ret_bool HE.out, HW2.out⟩
/-- what fresh answers -/
def Freshes (w : World) (s : St) (e : Ending) (w' : World) : Prop := ∃ p, e = .returned (.pointer (some ⟨p, 0, none⟩)) ∧ DiskAt Tryz.prog w' p (Dsk.Grow No w w') s ∧ Keeps No w w'
end Go.Proofs.YthlemcnbebfliaaGreatDoor
namespace Go.Proofs.YthlemcnbebfliaaGreatDoor
open Ks Go.RowKit
set_option maxRecDepth 20000

/-- a block that is none of the disk's -/
def Aside (F : Nat → Prop) (w : World) (g : Nat) : Prop := ¬ F g ∧ g < w.heap.size
section
variable {F : Nat → Prop} {w w' : World} {g : Nat}
theorem Aside.keeps (h : Aside F w g) (hk : Keeps F w w') : Aside F w' g := ⟨h.1, Nat.lt_of_lt_of_le h.2 hk.size⟩
theorem Aside.grow (h : Aside F w g) (hk : Keeps F w w') : Aside (Dsk.Grow F w w') w' g := ⟨fun hg => by rcases hg with hg | hg; exact h.1 hg; have := h.2; omega, Nat.lt_of_lt_of_le h.2 hk.size⟩
theorem Aside.new {p : Nat} {s : St} (h : DiskAt Tryz.prog w p F s) (o : Obj) : Aside F (w.alloc o) w.heap.size := ⟨fun hg => by have := h.there _ hg; omega, by simp⟩
theorem Aside.blk {t : TypeId} {cs : Array Value} (h : Aside F w g) (hk : Keeps F w w') (hb : Blk w g t cs) : Blk w' g t cs := hb.of_eq (hk.block g h.2 h.1)
end
/-- bytes of one's own, beside the disk -/
def Img (F : Nat → Prop) (w : World) (v : Value) (l : List Int) : Prop := Own 0 w v l ∧ ∀ g, v.ownBlock = some g → Aside F w g
section
variable {F : Nat → Prop} {w w' : World} {v : Value} {l : List Int}
theorem Img.keeps (h : Img F w v l) (hk : Keeps F w w') : Img F w' v l := ⟨own_keeps h.1 hk (fun g hg => (h.2 g hg).1), fun g hg => (h.2 g hg).keeps hk⟩
theorem Img.grow (h : Img F w v l) (hk : Keeps F w w') : Img (Dsk.Grow F w w') w' v l := ⟨own_keeps h.1 hk (fun g hg => (h.2 g hg).1), fun g hg => (h.2 g hg).grow hk⟩
theorem Img.below (h : Img F w v l) (hb : Below w.heap.size w w') : Img F w' v l := h.keeps (Keeps.of_below hb).no
theorem Img.of_read {w0 : World} {p : Nat} {s : St} (h : Own w0.heap.size w v l) (hd : DiskAt Tryz.prog w0 p F s) : Img F w v l :=
  ⟨h.base_ (Nat.zero_le _), fun g hg => ⟨fun hf => by have h1 := hd.there g hf; have h2 := (h.lt hg).1; omega, (h.lt hg).2⟩⟩
theorem Img.bytes (h : Img F w v l) (h8 : In8 l) : ∃ A c, v = .slice A l.length c ∧ l.length ≤ c ∧ Bytes w w.heap.size A l.length l := Own.bytes h.1 h8
end
theorem read_is {w : World} {p m : Nat} {F : Nat → Prop} {s s' : St} {x : Slt} {which a b c er : Int} (hT : Tab w) (hF2 : ∀ k, F k → 2 ≤ k) (h : DiskAt Tryz.prog w p F s) (hO : Ok m s) (hm : m + 1 + many (total a b c).toNat s.size < 1000000) (hr : readOf s which a b c = (s', x, er)) :
    Calls Tryz.prog 99 #[.pointer (some ⟨p, 0, none⟩), .int .i64 which, geoV a b c] w (Reads w p F s' x er) := by
  have := read_any w p m F s which a b c hT hF2 h hO hm
  rw [hr] at this
  exact this
theorem sync_is {w : World} {p m : Nat} {F : Nat → Prop} {s s' : St} {er : Int} (h : DiskAt Tryz.prog w p F s) (hO : Ok m s) (hm : m < 1000000) (hr : s.sync = (s', er)) :
    Calls Tryz.prog 52 #[.pointer (some ⟨p, 0, none⟩)] w (Dsk.Tells p F s' w er) := by
  have := Dsk.sync_any w p F s h (by have := hO.ops; omega) (by have := hO.cn; omega) hO.len
  rw [hr] at this
  exact this
theorem same_in (W : World) (q : Regrown) (A1 A2 : Option Addr) (n c1 c2 : Nat) (l : List Int) (hn : n ≤ maxLen) (ha : Bytes W W.heap.size A1 n l) (hb : Bytes W W.heap.size A2 n l) :
    Calls Tryz.prog 20 #[.slice A1 n c1, .slice A2 n c2] (In W q) fun e w'' => e = .returned (.bool true) ∧ ∃ q : Regrown, w'' = In W q := by
  apply Calls.regrown_of
  exact (same_refl A1 A2 n c1 c2 W.heap.size l _ hn (bytes_below ha (in_below W q)) (bytes_below hb (in_below W q)) (in_below W q).size).mono fun _ _ h => ⟨h.1, h.2⟩
/-- which slot -/
def whOf : Bool → Int
  | false => 0
  | true => 1
theorem whOf_in (x : Bool) : whOf x = 0 ∨ whOf x = 1 := by cases x <;> simp [whOf]
/-- a new disk with room for both -/
theorem fresh_room {a b c : Int} {z n k : Nat} (hz : 32 ≤ z) (hz2 : z ≤ 4096) (hr : right a b c = true) (hn : (n : Int) = total a b c) (h5 : n ≤ 500) (hk : 2 * spanOf z a b c = k) : k ≤ 4096 ∧ ∀ x : Bool, forErr (Dsk.fresh z (List.replicate k (List.replicate z 0))) (whOf x) a b c n = 0 := by
  have hb := many_bounds n z (by omega) hz2
  have hs := span_eq hr hz hz2 hn
  refine ⟨by omega, fun x => ?_⟩
  unfold forErr findErr
  have hw := whOf_in x
  have e1 : (Dsk.fresh z (List.replicate k (List.replicate z 0))).size = z := rfl
  have e2 : (Dsk.fresh z (List.replicate k (List.replicate z 0))).last.length = k := by simp [Dsk.fresh]
  rw [e1, e2]
  have hfe : (if right a b c = false then (9 : Int) else if whOf x < 0 ∨ 1 < whOf x ∨ z < 32 then 1 else if (k : Int) < 2 * spanOf z a b c then 4 else 0) = 0 := by
    rw [if_neg (by rw [hr]; decide), if_neg (by omega), if_neg (by omega)]
  rw [hfe, if_neg (fun h => h rfl), if_neg (fun h => h hn)]
theorem fresh_view (z k : Nat) (j : Int) (h0 : 0 ≤ j) (h1 : j < k) : view (Dsk.fresh z (List.replicate k (List.replicate z 0))) j = List.replicate z 0 := by
  unfold view
  have : j.toNat < k := by omega
  simp [Dsk.fresh, List.getD, this]
theorem padded_nil (z : Nat) : padded [] z = List.replicate z 0 := by simp [padded]
/-- all that SlotBack does, of disks as values -/
theorem back_plan {a b c q : Int} {l : List Int} {z k : Nat} (second sync : Bool) (hz : 32 ≤ z) (hz2 : z ≤ 4096) (hr : right a b c = true) (hn : (l.length : Int) = total a b c) (h5 : l.length ≤ 500) (hk : 2 * spanOf z a b c = k) (h8 : In8 l) (hq : 0 ≤ q ∧ q < 18446744073709551616) :
    ∃ s1 s2 s3 s4 s5 s6 s7, put_ (Dsk.fresh z (List.replicate k (List.replicate z 0))) (whOf second) a b c l = (s1, 0) ∧ readOf s1 (whOf second) a b c = (s2, ⟨0, 6, 0, []⟩, 0) ∧ laid s2 (whOf second) a b c q l = (s3, 0) ∧
      (if sync = true then s3.sync else (s3, 0)) = (s4, 0) ∧ readOf s4 (whOf second) a b c = (s5, ⟨2, 0, q, l⟩, 0) ∧ wiped s5 (whOf second) a b c = (s6, 0) ∧ readOf s6 (whOf second) a b c = (s7, ⟨0, 6, 0, []⟩, 0) ∧
      (Ok 0 (Dsk.fresh z (List.replicate k (List.replicate z 0))) ∧ Ok 10000 s1 ∧ Ok 10000 s2 ∧ Ok 10000 s3 ∧ Ok 10000 s4 ∧ Ok 10000 s5 ∧ Ok 10000 s6) ∧ (s1.size = z ∧ s2.size = z ∧ s3.size = z ∧ s4.size = z ∧ s5.size = z ∧ s6.size = z) := by
  obtain ⟨hk4, hfe⟩ := fresh_room hz hz2 hr hn h5 hk
  have he := hfe second
  have hb := many_bounds l.length z (by omega) hz2
  have ht : (total a b c).toNat = l.length := by omega
  obtain ⟨s0, hs0⟩ : ∃ s0, Dsk.fresh z (List.replicate k (List.replicate z 0)) = s0 := ⟨_, rfl⟩
  have hz0 : s0.size = z := by rw [← hs0]; rfl
  have hl0 : s0.last.length = k := by rw [← hs0]; simp [Dsk.fresh]
  have hf0 : NoFail s0 := by rw [← hs0]; exact nofail_fresh _ _
  have hO0 : Ok 0 s0 := by rw [← hs0]; exact ok_fresh z _ 0 (new_in8 k z) (by simpa using hk4) hz2
  have hv0 : ∀ j, 0 ≤ j → j < (k : Int) → view s0 j = List.replicate z 0 := fun j h0 h1 => by rw [← hs0]; exact fresh_view z k j h0 h1
  rw [hs0] at he ⊢
  have hp := forErr_place hz0 hz2 he
  obtain ⟨first, hfi⟩ : ∃ f, whOf second * spanOf z a b c = f := ⟨_, rfl⟩
  obtain ⟨s1, p1, S1⟩ := put_has hf0 hz0 hz2 he
  rw [hfi] at hp S1
  have z1 : s1.size = z := S1.size.trans hz0
  have e1 : forErr s1 (whOf second) a b c l.length = 0 := by rw [forErr_of S1.size S1.last]; exact he
  have r1 := read_zeros S1.fine z1 hz2 e1 (by rw [hfi, S1.head, hv0 _ hp.1 (by omega)])
  obtain ⟨s2, hs2⟩ : ∃ s2, (readOf s1 (whOf second) a b c).1 = s2 := ⟨_, rfl⟩
  have A2 : Alike s1 s2 := hs2 ▸ readOf_alike s1 _ a b c
  have f2 : NoFail s2 := hs2 ▸ readOf_nofail S1.fine _ a b c
  have z2 : s2.size = z := A2.size.trans z1
  have e2 : forErr s2 (whOf second) a b c l.length = 0 := by rw [forErr_of A2.size A2.last]; exact e1
  have p3 := laid_fine (q := q) f2 z2 hz2 e2
  rw [hfi] at p3
  obtain ⟨X, hX⟩ : ∃ X, padded (enc a b c l.length q (sumOf l)) z = X := ⟨_, rfl⟩
  rw [hX] at p3
  obtain ⟨s3, hs3⟩ : ∃ s3, s2.put first X = s3 := ⟨_, rfl⟩
  rw [hs3] at p3
  have H3 : Has s3 first X z l := by rw [← hs3]; exact laid_Has (fun k hk => by rw [A2.view]; exact S1.imgs k hk)
  have f3 : NoFail s3 := by rw [← hs3]; exact f2.put _ _
  have z3 : s3.size = z := by rw [← hs3]; exact z2
  have l3 : s3.last = s1.last := by rw [← hs3]; exact A2.last
  have O1 := put_ok hO0 h8 p1
  rw [hz0] at O1
  have O2 := O1.readOf (whOf second) a b c
  rw [hs2, ht, z1] at O2
  have O3 := laid_ok O2 p3
  have hs4 : ∃ s4, (if sync = true then s3.sync else (s3, 0)) = (s4, 0) ∧ Has s4 first X z l ∧ NoFail s4 ∧ s4.size = z ∧ s4.last.length = s3.last.length ∧ Ok (0 + many l.length z + 1 + many l.length z + 1 + 1) s4 := by
    cases sync
    · exact ⟨s3, rfl, H3, f3, z3, rfl, O3.mono (by omega)⟩
    · obtain ⟨y1, y2, y3⟩ := sync_fine f3
      refine ⟨s3.sync.1, ?_, H3.of_view (fun j h0 h1 => ?_), y3, y2.size.trans z3, y2.len, O3.sync⟩
      · rw [if_pos rfl]; exact Prod.ext rfl y1
      · have : j < (s3.tick.last.length : Int) := by show j < (s3.last.length : Int); rw [l3, S1.last]; omega
        rw [y2.view j (by omega) this]
        exact (Alike.tick s3).view j
  obtain ⟨s4, p4, H4, f4, z4, l4, O4⟩ := hs4
  have e4 : forErr s4 (whOf second) a b c l.length = 0 := by
    have : forErr s4 (whOf second) a b c l.length = forErr s1 (whOf second) a b c l.length := by
      unfold forErr findErr
      rw [z4, z1, l4, l3]
    rw [this]; exact e1
  rw [← hX] at H4
  have r4 := read_good f4 (q := q) z4 hz2 e4 hq (by rw [hfi]; exact H4)
  obtain ⟨s5, hs5⟩ : ∃ s5, (readOf s4 (whOf second) a b c).1 = s5 := ⟨_, rfl⟩
  have A5 : Alike s4 s5 := hs5 ▸ readOf_alike s4 _ a b c
  have f5 : NoFail s5 := hs5 ▸ readOf_nofail f4 _ a b c
  have z5 : s5.size = z := A5.size.trans z4
  have e5 : forErr s5 (whOf second) a b c l.length = 0 := by rw [forErr_of A5.size A5.last]; exact e4
  have p6 := wiped_fine f5 z5 hz2 e5
  rw [hfi, padded_nil] at p6
  obtain ⟨s6, hs6⟩ : ∃ s6, s5.put first (List.replicate z 0) = s6 := ⟨_, rfl⟩
  rw [hs6] at p6
  have f6 : NoFail s6 := by rw [← hs6]; exact f5.put _ _
  have z6 : s6.size = z := by rw [← hs6]; exact z5
  have e6 : forErr s6 (whOf second) a b c l.length = 0 := by
    have : forErr s6 (whOf second) a b c l.length = forErr s5 (whOf second) a b c l.length := by rw [← hs6]; rfl
    rw [this]; exact e5
  have r6 := read_zeros f6 z6 hz2 e6 (by rw [hfi, ← hs6, put_view, if_pos rfl])
  have O5 := O4.readOf (whOf second) a b c
  rw [hs5, ht, z4] at O5
  have O6 := wiped_ok O5 p6
  refine ⟨s1, s2, s3, s4, s5, s6, _, p1, Prod.ext hs2 r1, p3, p4, Prod.ext hs5 r4, p6, Prod.ext rfl r6, ⟨hO0, O1.mono (by omega), O2.mono (by omega), O3.mono (by omega), O4.mono (by omega), O5.mono (by omega), O6.mono (by omega)⟩, z1, z2, z3, z4, z5, z6⟩
end Go.Proofs.YthlemcnbebfliaaGreatDoor
