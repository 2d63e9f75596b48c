/-
  WHAT WAS LAID AND SEALED IS READ AS GOOD: of disks as values, no walk.
-/
import Derived.Test.YthlemcnbebfliaaGreatDoorSReads
import Derived.Test.YthlemcnbebfliaaGreatDoorSData
import Derived.Test.YthlemcnbebfliaaGreatDoorHRest
namespace Go.Proofs.YthlemcnbebfliaaGreatDoor
open Ks Go.RowKit
set_option maxRecDepth 20000

/-- nothing is planned to fail -/
def NoFail (s : St) : Prop := ∀ k, s.plan k = false
/-- what a sector reads as -/
def view (s : St) (j : Int) : List Int := (s.cach j).getD (s.last.getD j.toNat [])
theorem NoFail.tick {s : St} (h : NoFail s) : NoFail s.tick := by
  intro k
  unfold St.tick
  simp only
  split
  · rfl
  · exact h k
theorem NoFail.put {s : St} (h : NoFail s) (i : Int) (bs : List Int) : NoFail (s.put i bs) := fun k => h.tick k
theorem write_fine {s : St} (h : NoFail s) (i : Int) (bs : List Int) (h0 : 0 ≤ i) (h1 : i < s.last.length) (hb : bs.length = s.size) : s.write i bs = (s.put i bs, 0) := by
  unfold St.write St.fails
  rw [h, if_neg (by decide), if_neg (by omega), if_neg (by omega), if_neg (fun e => e hb)]
theorem read_fine {s : St} (h : NoFail s) (i : Int) (h0 : 0 ≤ i) (h1 : i < s.last.length) : Dsk.St.read s i = (view s i, 0) := by
  unfold Dsk.St.read St.fails view
  rw [h, if_neg (by decide), if_neg (by omega)]
/-- writes in a row, none of which fails -/
structure Stored (s s' : St) (i : Int) (L : List (List Int)) (t : Nat) : Prop where
  fine : NoFail s'
  size : s'.size = s.size
  last : s'.last = s.last
  cach : ∀ j, s'.cach j = if i ≤ j ∧ j < i + t then some (L.getD (j - i).toNat []) else s.cach j
theorem stores_fine {s : St} (h : NoFail s) (i : Int) (L : List (List Int)) (t : Nat) (h0 : 0 ≤ i) (h1 : i + t ≤ s.last.length) (hL : ∀ k, k < t → (L.getD k []).length = s.size) : (stores s i L t).2 = 0 ∧ Stored s (stores s i L t).1 i L t := by
  induction t with
  | zero => exact ⟨rfl, h, rfl, rfl, fun j => by rw [if_neg (by omega)]; rfl⟩
  | succ t ih =>
    obtain ⟨e, hs⟩ := ih (by omega) (fun k hk => hL k (by omega))
    rw [stores_succ s i L t e, write_fine hs.fine (i + t) (L.getD t []) (by omega) (by rw [hs.last]; omega) (by rw [hs.size]; exact hL t (by omega))]
    refine ⟨rfl, hs.fine.put _ _, hs.size, hs.last, fun j => ?_⟩
    show (if j = i + t then some (L.getD t []) else (stores s i L t).1.cach j) = _
    by_cases hj : j = i + t
    · rw [if_pos hj, if_pos (by omega)]
      congr 2
      omega
    · rw [if_neg hj, hs.cach j]
      by_cases hk : i ≤ j ∧ j < i + t
      · rw [if_pos hk, if_pos (by omega)]
      · rw [if_neg hk, if_neg (by omega)]
theorem loads_fine {s : St} (h : NoFail s) (i : Int) (t : Nat) (h0 : 0 ≤ i) (h1 : i + t ≤ s.last.length) : (loads s i t).2.2 = 0 ∧ NoFail (loads s i t).1 ∧ (loads s i t).1.size = s.size ∧ (loads s i t).1.last = s.last ∧ (loads s i t).1.cach = s.cach ∧ (loads s i t).2.1 = (List.range t).map fun (k : Nat) => view s (i + k) := by
  induction t with
  | zero => exact ⟨rfl, h, rfl, rfl, rfl, rfl⟩
  | succ t ih =>
    obtain ⟨e, hs, e1, e2, e3, e4⟩ := ih (by omega)
    rw [loads_succ s i t e, read_fine hs (i + t) (by omega) (by rw [e2]; omega)]
    refine ⟨rfl, hs.tick, e1, e2, e3, ?_⟩
    show (loads s i t).2.1 ++ [view (loads s i t).1 (i + t)] = _
    rw [e4, List.range_succ, List.map_append]
    congr 1
    simp [view, e2, e3]
theorem findErr_of {s s' : St} (h1 : s'.size = s.size) (h2 : s'.last = s.last) (which a b c : Int) : findErr s' which a b c = findErr s which a b c := by unfold findErr; rw [h1, h2]
theorem forErr_of {s s' : St} (h1 : s'.size = s.size) (h2 : s'.last = s.last) (which a b c : Int) (n : Nat) : forErr s' which a b c n = forErr s which a b c n := by unfold forErr; rw [findErr_of h1 h2]
theorem span_eq {a b c : Int} {z n : Nat} (hr : right a b c = true) (h1 : 32 ≤ z) (h2 : z ≤ 4096) (hn : (n : Int) = total a b c) : spanOf z a b c = 1 + (many n z : Nat) := by
  unfold spanOf
  rw [if_pos ⟨hr, by omega, by omega⟩, ← hn, many_eq]
/-- a slot in a disk: the head's sector, the image's -/
structure Has (s : St) (first : Int) (hd : List Int) (z : Nat) (l : List Int) : Prop where
  head : view s first = hd
  imgs : ∀ k, k < many l.length z → view s (first + 1 + k) = (secs l z).getD k []
theorem read_good {s : St} (hf : NoFail s) {which a b c q : Int} {l : List Int} {z : Nat} (hz : s.size = z) (hz2 : z ≤ 4096) (he : forErr s which a b c l.length = 0) (hq : 0 ≤ q ∧ q < 18446744073709551616)
    (hh : Has s (which * spanOf z a b c) (padded (enc a b c l.length q (sumOf l)) z) z l) : (readOf s which a b c).2 = (⟨2, 0, q, l⟩, 0) := by
  obtain ⟨q1, q2, q3, q4, q5, q6, q7⟩ := forErr_ok he
  rw [hz] at q5 q6
  have hsp := span_eq q3 q5 hz2 q2
  obtain ⟨first, hfi⟩ : ∃ f, which * spanOf z a b c = f := ⟨_, rfl⟩
  have hfb : 0 ≤ first ∧ first + 1 + (many l.length z : Nat) ≤ s.last.length := by
    rw [← hfi]
    rcases q7 with rfl | rfl <;> omega
  rw [hfi] at hh
  unfold readOf
  rw [q1, if_neg (fun h => h rfl), hz, hfi, read_fine hf first hfb.1 (by omega), if_neg (fun h => h rfl), hh.head]
  have hd : padded (enc a b c l.length q (sumOf l)) z = enc a b c l.length q (sumOf l) ++ List.replicate (z - (enc a b c l.length q (sumOf l)).length) 0 := rfl
  obtain ⟨d0, d1⟩ := dec_enc a b c l.length q (sumOf l) (List.replicate (z - (enc a b c l.length q (sumOf l)).length) 0) q4 hq (sumOf_in l)
  rw [hd]
  generalize enc a b c l.length q (sumOf l) ++ List.replicate (z - (enc a b c l.length q (sumOf l)).length) 0 = X at *
  unfold decH at d1
  obtain ⟨e1, e2, e3, e4, e5, e6⟩ := headV_inj.1 d1
  show (headOf s.tick X first a b c).2 = _
  unfold headOf
  have ht : (total a b c).toNat = l.length := by omega
  rw [if_neg (fun h => h d0), if_neg (fun h => h ⟨e1, e2, e3⟩), e5, e6, ht, show s.tick.size = z from hz]
  obtain ⟨l0, _, _, _, _, l5⟩ := loads_fine hf.tick (first + 1) (many l.length z) (by omega) (by show first + 1 + (many l.length z : Nat) ≤ (s.last.length : Int); omega)
  have hL : (loads s.tick (first + 1) (many l.length z)).2.1 = secs l z := by
    rw [l5]
    apply List.ext_getElem
    · simp [secs, cutL_len]
    · intro k h1 h2
      have hk : k < many l.length z := by simpa using h1
      have hv := hh.imgs k hk
      rw [List.getElem_map, List.getElem_range]
      show view s (first + 1 + k) = _
      rw [hv]
      simp [List.getD, h2]
  have hb := many_bounds l.length z (by omega) hz2
  have hg : glued (loads s.tick (first + 1) (many l.length z)).2.1 l.length = l := by
    rw [hL]
    exact glued_cut l z (many l.length z) hb.1
  unfold sealedOf
  rw [if_neg (fun h => h l0), hg, if_neg (fun h => h rfl)]
/-- Data, then Seal: all goes well, and the slot is there -/
theorem laid_has {s : St} (hf : NoFail s) {which a b c q : Int} {l : List Int} {z : Nat} (hz : s.size = z) (hz2 : z ≤ 4096) (he : forErr s which a b c l.length = 0) :
    ∃ s1 s2, put_ s which a b c l = (s1, 0) ∧ laid s1 which a b c q l = (s2, 0) ∧ NoFail s1 ∧ NoFail s2 ∧ s1.size = z ∧ s2.size = z ∧ s1.last = s.last ∧ s2.last = s.last ∧
      Has s2 (which * spanOf z a b c) (padded (enc a b c l.length q (sumOf l)) z) z l ∧ view s1 (which * spanOf z a b c) = view s (which * spanOf z a b c) := by
  obtain ⟨q1, q2, q3, q4, q5, q6, q7⟩ := forErr_ok he
  rw [hz] at q5 q6
  have hsp := span_eq q3 q5 hz2 q2
  obtain ⟨first, hfi⟩ : ∃ f, which * spanOf z a b c = f := ⟨_, rfl⟩
  have hfb : 0 ≤ first ∧ first + 1 + (many l.length z : Nat) ≤ s.last.length := by
    rw [← hfi]
    rcases q7 with rfl | rfl <;> omega
  have hb := many_bounds l.length z (by omega) hz2
  have hX := fill_len' l (many l.length z * z) hb.1
  obtain ⟨e0, S1⟩ := stores_fine hf (first + 1) (secs l z) (many l.length z) (by omega) (by omega) (fun k hk => by rw [hz]; exact cutL_piece_len _ _ _ _ hk hX)
  obtain ⟨s1, hs1⟩ : ∃ s1, (stores s (first + 1) (secs l z) (many l.length z)).1 = s1 := ⟨_, rfl⟩
  rw [hs1] at S1
  have hp : put_ s which a b c l = (s1, 0) := by
    unfold put_
    rw [if_neg (fun h => h he), hz, hfi, ← hs1, ← e0]
  have hlen : (padded (enc a b c l.length q (sumOf l)) z).length = z := by
    unfold padded
    rw [List.length_append, List.length_replicate, enc_len]
    omega
  have hw := write_fine S1.fine first (padded (enc a b c l.length q (sumOf l)) z) hfb.1 (by rw [S1.last]; omega) (by rw [S1.size, hz]; exact hlen)
  refine ⟨s1, s1.put first (padded (enc a b c l.length q (sumOf l)) z), hp, ?_, S1.fine, S1.fine.put _ _, S1.size.trans hz, S1.size.trans hz, S1.last, S1.last, ?_, ?_⟩
  · unfold laid
    rw [forErr_of S1.size S1.last, if_neg (fun h => h he), S1.size, hz, hfi, hw]
  · rw [hfi]
    refine ⟨?_, fun k hk => ?_⟩
    · simp [view, St.put]
    · have hne : ¬ first + 1 + (k : Int) = first := by omega
      simp only [view, St.put, St.tick, if_neg hne]
      rw [S1.cach, if_pos (by omega)]
      simp only [Option.getD_some]
      congr 1
      omega
  · rw [hfi]
    unfold view
    rw [S1.cach, if_neg (by omega), S1.last]
end Go.Proofs.YthlemcnbebfliaaGreatDoor
