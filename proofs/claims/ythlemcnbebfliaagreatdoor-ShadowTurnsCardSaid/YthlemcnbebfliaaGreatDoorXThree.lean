/-
  A SHADOW's DISK AS A VALUE, WHERE NOTHING FAILS: what Format leaves, what Open finds, what Commit does.
  WHAT IS PLANNED TO FAIL, AND WHAT A DISK's OPERATIONS DO, WHATEVER FAILS.
  WHAT Open FINDS, WHATEVER FAILS.
  A SHADOW IN A LAW's MEMORY; the walks of keepsakelaw07.fresh, made.
  A SHADOW's DISK STAYS ONE OF BYTES WITHIN BOUNDS; a store into bytes; THE WALK OF keepsakelaw07.awake.
  WHAT ShadowStale, ShadowWrites DO, OF DISKS AS VALUES.
-/
import Derived.Test.YthlemcnbebfliaaGreatDoorXTwo
namespace Go.Proofs.YthlemcnbebfliaaGreatDoor
open Ks Go.RowKit
set_option maxRecDepth 20000

theorem findErr_len {s s' : St} (h1 : s'.size = s.size) (h2 : s'.last.length = s.last.length) (which a b c : Int) : findErr s' which a b c = findErr s which a b c := by
  unfold findErr
  rw [h1, h2]
theorem forErr_len {s s' : St} (h1 : s'.size = s.size) (h2 : s'.last.length = s.last.length) (which a b c : Int) (n : Nat) : forErr s' which a b c n = forErr s which a b c n := by
  unfold forErr
  rw [findErr_len h1 h2]
/-- a disk that has room for both slots, and an image's length -/
structure Room (s : St) (z n : Nat) (a b c : Int) : Prop where
  size : s.size = z
  z1 : 32 ≤ z
  z2 : z ≤ 4096
  right : right a b c = true
  tot : (n : Int) = total a b c
  room : 2 * (1 + (many n z : Nat)) ≤ (s.last.length : Int)
section
variable {s s' : St} {z n : Nat} {a b c : Int}
theorem Room.of (h : Room s z n a b c) (h1 : s'.size = s.size) (h2 : s'.last.length = s.last.length) : Room s' z n a b c := ⟨h1.trans h.size, h.z1, h.z2, h.right, h.tot, by rw [h2]; exact h.room⟩
theorem Room.span (h : Room s z n a b c) : spanOf z a b c = 1 + (many n z : Nat) := span_eq h.right h.z1 h.z2 h.tot
theorem Room.find (h : Room s z n a b c) {w : Int} (hw : w = 0 ∨ w = 1) : findErr s w a b c = 0 := by
  unfold findErr
  rw [if_neg (by rw [h.right]; decide), h.size, if_neg (by have := h.z1; omega), h.span, if_neg (by have := h.room; omega)]
theorem Room.for_ (h : Room s z n a b c) {w : Int} (hw : w = 0 ∨ w = 1) {l : List Int} (hl : l.length = n) : forErr s w a b c l.length = 0 := by
  unfold forErr
  rw [h.find hw, if_neg (fun h => h rfl), hl, if_neg (fun h' => h' h.tot)]
end
/-- where slot w begins -/
abbrev at_ (n z : Nat) (w : Int) : Int := w * (1 + (many n z : Nat))
/-- slot w is Good, with number q and image l -/
def Slotted (s : St) (z n : Nat) (a b c w q : Int) (l : List Int) : Prop := Has s (at_ n z w) (padded (enc a b c l.length q (sumOf l)) z) z l ∧ l.length = n ∧ 0 ≤ q ∧ q < 18446744073709551616
/-- slot w's head is none of these chips', or has a number below k -/
def Low (s : St) (z n : Nat) (a b c w k : Int) : Prop :=
  decErr (view s (at_ n z w)) ≠ 0 ∨ ¬ (num (Ks.part (view s (at_ n z w)) 5 1) = a ∧ num (Ks.part (view s (at_ n z w)) 6 1) = b ∧ num (Ks.part (view s (at_ n z w)) 7 1) = c) ∨ num (Ks.part (view s (at_ n z w)) 12 8) < k
section
variable {s s' : St} {z n : Nat} {a b c w q k : Int} {l : List Int}
theorem Slotted.of_view (h : Slotted s z n a b c w q l) (he : ∀ j, at_ n z w ≤ j → j < at_ n z w + 1 + (many n z : Nat) → view s' j = view s j) : Slotted s' z n a b c w q l :=
  ⟨h.1.of_view (by rw [h.2.1]; exact he), h.2⟩
theorem Low.of_view (h : Low s z n a b c w k) (he : view s' (at_ n z w) = view s (at_ n z w)) : Low s' z n a b c w k := by
  unfold Low
  rw [he]
  exact h
theorem Low.mono {k' : Int} (h : Low s z n a b c w k) (hk : k ≤ k') : Low s z n a b c w k' := by
  rcases h with h | h | h
  · exact .inl h
  · exact .inr (.inl h)
  · exact .inr (.inr (by omega))
theorem Slotted.low (h : Slotted s z n a b c w q l) (hc : can a b c n = true) (hk : q < k) : Low s z n a b c w k := by
  obtain ⟨hh, hn, h0, h1⟩ := h
  have hd := hh.head
  have hd' : padded (enc a b c l.length q (sumOf l)) z = enc a b c l.length q (sumOf l) ++ List.replicate (z - (enc a b c l.length q (sumOf l)).length) 0 := rfl
  obtain ⟨d0, d1⟩ := dec_enc a b c l.length q (sumOf l) (List.replicate (z - (enc a b c l.length q (sumOf l)).length) 0) (by rw [hn]; exact hc) ⟨h0, h1⟩ (sumOf_in l)
  rw [← hd', ← hd] at d1
  unfold decH at d1
  obtain ⟨_, _, _, _, e5, _⟩ := headV_inj.1 d1
  exact .inr (.inr (by rw [e5]; exact hk))
end
theorem Room.can {s : St} {z n : Nat} {a b c : Int} (h : Room s z n a b c) : can a b c n = true := by
  have := (forErr_ok (h.for_ (w := 0) (.inl rfl) (l := List.replicate n 0) (by simp))).2.2.2.1
  simpa using this
/-- put, where nothing fails -/
theorem lodge_fine {s : St} {z n : Nat} {a b c w q : Int} {l : List Int} (hf : NoFail s) (hR : Room s z n a b c) (hw : w = 0 ∨ w = 1) (hl : l.length = n) (hq : 0 ≤ q ∧ q < 18446744073709551616) :
    ∃ s', lodgeOf s w a b c q l = (s', 0) ∧ NoFail s' ∧ s'.size = s.size ∧ s'.last.length = s.last.length ∧ Slotted s' z n a b c w q l ∧ (∀ j : Int, 0 ≤ j → j < (s.last.length : Nat) → (j < at_ n z w ∨ at_ n z w + 1 + (many n z : Nat) ≤ j) → view s' j = view s j) := by
  have he := hR.for_ hw hl
  have hsp := hR.span
  have hz := hR.size
  have hroom := hR.room
  obtain ⟨s1, p1, S1⟩ := put_has hf hz hR.z2 he
  rw [hsp] at S1
  have I1 := S1.imgs
  rw [hl] at S1 I1
  obtain ⟨f2, Y2, n2⟩ := sync_fine S1.fine
  obtain ⟨s2, e2, h2⟩ : ∃ s2 e2, s1.sync = (s2, e2) := ⟨_, _, rfl⟩
  rw [h2] at f2 Y2 n2
  have z2 : s2.size = z := Y2.size.trans (S1.size.trans hz)
  have l2 : s2.last.length = s.last.length := Y2.len.trans (congrArg List.length S1.last)
  have he2 : forErr s2 w a b c l.length = 0 := by rw [forErr_len (s := s) (z2.trans hz.symm) l2]; exact he
  have p3 := laid_fine (q := q) n2 z2 hR.z2 he2
  rw [hsp] at p3
  obtain ⟨H, hH⟩ : ∃ H, padded (enc a b c l.length q (sumOf l)) z = H := ⟨_, rfl⟩
  rw [hH] at p3
  have n3 : NoFail (s2.put (at_ n z w) H) := NoFail.put n2 _ _
  obtain ⟨f4, Y4, n4⟩ := sync_fine n3
  obtain ⟨s4, e4, h4⟩ : ∃ s4 e4, (s2.put (at_ n z w) H).sync = (s4, e4) := ⟨_, _, rfl⟩
  rw [h4] at f4 Y4 n4
  have v1 : ∀ j : Int, 0 ≤ j → j < (s.last.length : Nat) → view s4 j = if j = at_ n z w then H else view s1 j := fun j h0 h1 => by
    rw [Y4.view j h0 (by show j < (s2.last.length : Int); omega)]
    show view (s2.put (at_ n z w) H).tick j = _
    have e : view (s2.put (at_ n z w) H).tick j = view (s2.put (at_ n z w) H) j := rfl
    rw [e, put_view]
    split
    · rfl
    · rw [Y2.view j h0 (by show j < (s1.tick.last.length : Int); have e : s1.tick.last = s1.last := rfl; rw [e, S1.last]; exact h1)]
      rfl
  have hat : 0 ≤ at_ n z w ∧ at_ n z w + 1 + (many n z : Nat) ≤ s.last.length := by
    unfold at_
    rcases hw with rfl | rfl <;> omega
  refine ⟨s4, ?_, n4, Y4.size.trans (z2.trans hz.symm), Y4.len.trans l2, ⟨⟨?_, fun k hk => ?_⟩, hl, hq⟩, fun j h0 h1 h2' => ?_⟩
  · unfold lodgeOf
    rw [p1, nx_ok, h2, show e2 = 0 from f2, nx_ok, p3, nx_ok, h4, show e4 = 0 from f4]
  · rw [hH, v1 _ hat.1 (by omega), if_pos rfl]
  · rw [hl] at hk
    rw [v1 _ (by omega) (by omega), if_neg (by omega)]
    exact I1 k hk
  · rw [v1 j h0 h1, if_neg (by omega)]
    unfold view
    unfold at_ at h2'
    rw [S1.cach, if_neg (by omega), S1.last]
theorem Low.read {s : St} {z n : Nat} {a b c w k : Int} (h : Low s z n a b c w k) (hf : NoFail s) (hR : Room s z n a b c) (hw : w = 0 ∨ w = 1) : ∃ s' y, readOf s w a b c = (s', y, 0) ∧ (y.st ≠ 2 ∨ y.seq < k) := by
  have hroom := hR.room
  have hat : 0 ≤ at_ n z w ∧ at_ n z w + 1 + (many n z : Nat) ≤ s.last.length := by
    unfold at_
    rcases hw with rfl | rfl <;> omega
  have ht : (total a b c).toNat = n := by have := hR.tot; omega
  have e1 : readOf s w a b c = headOf s.tick (view s (at_ n z w)) (at_ n z w) a b c := by
    unfold readOf
    rw [hR.find hw, if_neg (fun h => h rfl), hR.size, hR.span, read_fine hf _ hat.1 (by omega), if_neg (fun h => h rfl)]
  rw [e1]
  unfold headOf
  by_cases h1 : decErr (view s (at_ n z w)) ≠ 0
  · rw [if_pos h1]
    exact ⟨_, _, rfl, .inl (show (0 : Int) ≠ 2 by decide)⟩
  rw [if_neg h1]
  by_cases h2 : ¬ (num (Ks.part (view s (at_ n z w)) 5 1) = a ∧ num (Ks.part (view s (at_ n z w)) 6 1) = b ∧ num (Ks.part (view s (at_ n z w)) 7 1) = c)
  · rw [if_pos h2]
    exact ⟨_, _, rfl, .inl (show (1 : Int) ≠ 2 by decide)⟩
  rw [if_neg h2, ht, show s.tick.size = z from hR.size]
  have h3 : num (Ks.part (view s (at_ n z w)) 12 8) < k := by
    rcases h with h | h | h
    · exact absurd h h1
    · exact absurd h h2
    · exact h
  unfold sealedOf
  rw [if_neg (fun h => h (loads_fine (NoFail.tick hf) _ _ (by omega) (by show at_ n z w + 1 + (many n z : Nat) ≤ (s.last.length : Int); omega)).1)]
  split
  · exact ⟨_, _, rfl, .inl (show (0 : Int) ≠ 2 by decide)⟩
  · exact ⟨_, _, rfl, .inr h3⟩
theorem at_cases {n z : Nat} {w : Int} (h : w = 0 ∨ w = 1) : (at_ n z w = 0 ∧ at_ n z (1 - w) = 1 + (many n z : Nat)) ∨ (at_ n z w = 1 + (many n z : Nat) ∧ at_ n z (1 - w) = 0) := by
  rcases h with rfl | rfl
  · left; unfold at_; omega
  · right; unfold at_; omega
/-- a disk on which shadow x is current -/
structure Cur (s : St) (z n : Nat) (a b c : Int) (x : Sh) : Prop where
  wh : x.which = 0 ∨ x.which = 1
  slot : Slotted s z n a b c x.which x.seq x.img
  low : Low s z n a b c (1 - x.which) x.seq
  fresh : x.stale = false
  in8 : In8 x.img
theorem Cur.of_view {s s' : St} {z n : Nat} {a b c : Int} {x : Sh} (h : Cur s z n a b c x) (hR : Room s z n a b c) (he : ∀ j : Int, 0 ≤ j → j < (s.last.length : Nat) → view s' j = view s j) : Cur s' z n a b c x := by
  have hroom := hR.room
  refine ⟨h.wh, h.slot.of_view fun j h0 h1 => he j ?_ ?_, h.low.of_view (he _ ?_ ?_), h.fresh, h.in8⟩
  all_goals (rcases at_cases (n := n) (z := z) h.wh with e | e <;> omega)
theorem sh_eta (x : Sh) : x = ⟨x.img, x.seq, x.which, x.stale⟩ := rfl
theorem slotted_read {s : St} {z n : Nat} {a b c w q : Int} {l : List Int} (h : Slotted s z n a b c w q l) (hf : NoFail s) (hR : Room s z n a b c) (hw : w = 0 ∨ w = 1) : (readOf s w a b c).2 = (⟨2, 0, q, l⟩, 0) :=
  read_good hf hR.size hR.z2 (hR.for_ hw h.2.1) h.2.2 (by rw [hR.span]; exact h.1)
/-- Open, where nothing fails -/
theorem open_fine {s : St} {z n : Nat} {a b c : Int} {x : Sh} (hf : NoFail s) (hR : Room s z n a b c) (h : Cur s z n a b c x) :
    ∃ s', openOf s a b c = (s', x, 0) ∧ NoFail s' ∧ s'.size = s.size ∧ s'.last.length = s.last.length ∧ (∀ j : Int, 0 ≤ j → j < (s.last.length : Nat) → view s' j = view s j) := by
  obtain ⟨f1, Y1, n1⟩ := sync_fine hf
  obtain ⟨s1, e1, h1⟩ : ∃ s1 e1, s.sync = (s1, e1) := ⟨_, _, rfl⟩
  rw [h1] at f1 Y1 n1
  obtain rfl : e1 = 0 := f1
  have R1 : Room s1 z n a b c := hR.of Y1.size Y1.len
  have v1 : ∀ j : Int, 0 ≤ j → j < (s.last.length : Nat) → view s1 j = view s j := fun j h0 hj => (Y1.view j h0 hj).trans rfl
  have C1 := h.of_view hR v1
  obtain ⟨s2, x2, e2, h2⟩ : ∃ s2 x2 e2, readOf s1 0 a b c = (s2, x2, e2) := ⟨_, _, _, rfl⟩
  have A2 := readOf_alike s1 0 a b c
  have n2 := readOf_nofail n1 0 a b c
  rw [h2] at A2 n2
  have R2 : Room s2 z n a b c := R1.of A2.size (congrArg List.length A2.last)
  have v2 : ∀ j : Int, 0 ≤ j → j < (s1.last.length : Nat) → view s2 j = view s1 j := fun j _ _ => A2.view j
  have C2 := C1.of_view R1 v2
  obtain ⟨s3, x3, e3, h3⟩ : ∃ s3 x3 e3, readOf s2 1 a b c = (s3, x3, e3) := ⟨_, _, _, rfl⟩
  have A3 := readOf_alike s2 1 a b c
  have n3 := readOf_nofail n2 1 a b c
  rw [h3] at A3 n3
  have L1 : s1.last.length = s.last.length := Y1.len
  refine ⟨s3, ?_, n3, ?_, ?_, fun j h0 hj => ?_⟩
  · unfold openOf
    rw [hR.find (.inl rfl), if_neg (fun h => h rfl), h1, if_neg (fun h => h rfl), h2, h3]
    obtain ⟨img, sq, wh, st⟩ := x
    obtain rfl : st = false := h.fresh
    rcases h.wh with e | e
    · obtain rfl : wh = 0 := e
      have r2 := slotted_read C1.slot n1 R1 (.inl rfl)
      obtain ⟨s3', y, r3, hy⟩ := C2.low.read n2 R2 (.inr rfl)
      rw [h2] at r2
      have r3 : (s3, x3, e3) = (s3', y, 0) := h3.symm.trans r3
      injection r3 with q1 q2
      injection q2 with q2 q3
      subst q1 q2 q3
      injection r2 with q1 q2
      subst q1 q2
      dsimp only
      have hp : pick ⟨2, 0, sq, img⟩ x3 = (0, 0) := by
        unfold pick
        rw [if_neg (fun h => by rcases h.2 with h2 | h2; exact h2 rfl; rcases hy with hy | hy; exact hy h.1; have hy : x3.seq < sq := hy; have h2 : sq < x3.seq := h2; omega), if_pos rfl]
      rw [if_neg (fun h => h rfl), if_neg (fun h => h rfl), hp, if_neg (fun h => h rfl), if_neg (by decide)]
    · obtain rfl : wh = 1 := e
      obtain ⟨s2', y, r2, hy⟩ := C1.low.read n1 R1 (.inl rfl)
      have r3 := slotted_read C2.slot n2 R2 (.inr rfl)
      rw [h3] at r3
      have r2 : (s2, x2, e2) = (s2', y, 0) := h2.symm.trans r2
      injection r2 with q1 q2
      injection q2 with q2 q3
      subst q1 q2 q3
      injection r3 with q1 q2
      subst q1 q2
      dsimp only
      have hp : pick x2 ⟨2, 0, sq, img⟩ = (1, 0) := by
        unfold pick
        rw [if_pos ⟨rfl, hy⟩]
      rw [if_neg (fun h => h rfl), if_neg (fun h => h rfl), hp, if_neg (fun h => h rfl), if_pos rfl]
  · rw [A3.size, A2.size, Y1.size]
    rfl
  · rw [A3.last, A2.last, L1]
  · rw [A3.view j, A2.view j, v1 j h0 hj]
/-- Commit, where nothing fails -/
theorem commit_fine {s : St} {z n : Nat} {a b c : Int} {x : Sh} {l : List Int} (hf : NoFail s) (hR : Room s z n a b c) (h : Cur s z n a b c x) (hl : l.length = n) (h8 : In8 l) (hq : x.seq < 18446744073709551615) (hne : l ≠ x.img) :
    ∃ s', commitOf s x a b c l = (s', ⟨l, x.seq + 1, 1 - x.which, false⟩, 0) ∧ NoFail s' ∧ s'.size = s.size ∧ s'.last.length = s.last.length ∧ Cur s' z n a b c ⟨l, x.seq + 1, 1 - x.which, false⟩ := by
  have hw : 1 - x.which = 0 ∨ 1 - x.which = 1 := by rcases h.wh with e | e <;> omega
  have hroom := hR.room
  obtain ⟨s', p, n', z', l', S, V⟩ := lodge_fine (q := x.seq + 1) hf hR hw hl (by have := h.slot.2.2; omega)
  refine ⟨s', ?_, n', z', l', hw, S, ?_, rfl, h8⟩
  · unfold commitOf
    rw [if_neg (by rw [h.fresh]; decide), if_neg (by rw [hl]; exact fun h => h hR.tot), if_neg hne, if_neg (by omega), p, if_pos rfl]
  · have e : 1 - (1 - x.which) = x.which := by omega
    show Low s' z n a b c (1 - (1 - x.which)) (x.seq + 1)
    rw [e]
    have S0 : Slotted s' z n a b c x.which x.seq x.img := h.slot.of_view fun j h0 h1 => V j (by rcases at_cases (n := n) (z := z) h.wh with e | e <;> omega) (by rcases at_cases (n := n) (z := z) h.wh with e | e <;> omega) (by rcases at_cases (n := n) (z := z) h.wh with e | e <;> omega)
    exact S0.low hR.can (by omega)
theorem fac_len {a b c : Int} (h : right a b c = true) : (fac a b c).length = (total a b c).toNat := facAt_len _ _ (fac_nums h).2.2.1
/-- Format, where nothing fails -/
theorem format_fine {s : St} {z n : Nat} {a b c : Int} (hf : NoFail s) (hR : Room s z n a b c) :
    ∃ s', formatOf s a b c = (s', 0) ∧ NoFail s' ∧ s'.size = s.size ∧ s'.last.length = s.last.length ∧ Cur s' z n a b c ⟨fac a b c, 1, 0, false⟩ := by
  have hroom := hR.room
  have hsp := hR.span
  have p1 := wiped_fine hf hR.size hR.z2 (hR.for_ (w := 0) (.inl rfl) (l := List.replicate n 0) (by simp))
  rw [hsp] at p1
  obtain ⟨s1, h1⟩ : ∃ s1, s.put (at_ n z 0) (padded [] z) = s1 := ⟨_, rfl⟩
  rw [show 0 * (1 + (many n z : Int)) = at_ n z 0 from rfl, h1] at p1
  have n1 : NoFail s1 := h1 ▸ NoFail.put hf _ _
  have z1 : s1.size = s.size := h1 ▸ rfl
  have l1 : s1.last.length = s.last.length := h1 ▸ rfl
  have R1 := hR.of z1 l1
  have p2 := wiped_fine n1 R1.size R1.z2 (R1.for_ (w := 1) (.inr rfl) (l := List.replicate n 0) (by simp))
  rw [hsp] at p2
  obtain ⟨s2, h2⟩ : ∃ s2, s1.put (at_ n z 1) (padded [] z) = s2 := ⟨_, rfl⟩
  rw [show 1 * (1 + (many n z : Int)) = at_ n z 1 from rfl, h2] at p2
  have n2 : NoFail s2 := h2 ▸ NoFail.put n1 _ _
  have z2 : s2.size = s.size := h2 ▸ z1
  have l2 : s2.last.length = s.last.length := h2 ▸ l1
  have v2 : view s2 (at_ n z 1) = List.replicate z 0 := by rw [← h2, put_view, if_pos rfl, padded_nil]
  obtain ⟨f3, Y3, n3⟩ := sync_fine n2
  obtain ⟨s3, e3, h3⟩ : ∃ s3 e3, s2.sync = (s3, e3) := ⟨_, _, rfl⟩
  rw [h3] at f3 Y3 n3
  obtain rfl : e3 = 0 := f3
  have z3 : s3.size = s.size := Y3.size.trans z2
  have l3 : s3.last.length = s.last.length := Y3.len.trans l2
  have R3 := hR.of z3 l3
  have v3 : view s3 (at_ n z 1) = List.replicate z 0 := (Y3.view _ (by unfold at_; omega) (by show at_ n z 1 < (s2.last.length : Int); unfold at_; omega)).trans v2
  have hfl : (fac a b c).length = n := by rw [fac_len hR.right]; have := hR.tot; omega
  obtain ⟨s', p, n', z', l', S, V⟩ := lodge_fine (q := 1) n3 R3 (.inl rfl) hfl (by omega)
  refine ⟨s', ?_, n', z'.trans z3, l'.trans l3, .inl rfl, S, .inl ?_, rfl, facAt_in _ _⟩
  · unfold formatOf
    rw [hR.find (.inl rfl), if_neg (fun h => h rfl), p1, nx_ok, p2, nx_ok, h3, nx_ok, p]
  · have ea : at_ n z 1 = 1 + (many n z : Nat) := by unfold at_; omega
    have eb : at_ n z 0 = 0 := by unfold at_; omega
    show decErr (view s' (at_ n z 1)) ≠ 0
    rw [V (at_ n z 1) (by omega) (by rw [l3]; omega) (by omega), v3, dec_zeros (by have := hR.z1; omega)]
    decide
end Go.Proofs.YthlemcnbebfliaaGreatDoor
namespace Go.Proofs.YthlemcnbebfliaaGreatDoor
open Ks Go.RowKit
set_option maxRecDepth 20000

/-- operations from s to s'; f: the last one failed -/
structure Went (s s' : St) (f : Bool) : Prop where
  ge : s.ops ≤ s'.ops
  plan : ∀ k : Int, s'.plan k = (s.plan k && !(decide ((s.ops : Int) < k) && decide (k ≤ (s'.ops : Int))))
  fine : ∀ k : Int, (s.ops : Int) < k → k ≤ (s'.ops : Int) → (f = true → k < (s'.ops : Int)) → s.plan k = false
  bad : f = true → s.ops < s'.ops ∧ s.plan s'.ops = true
section
variable {s s1 s2 s' : St} {f : Bool}
theorem Went.refl (s : St) : Went s s false := ⟨Nat.le_refl _, fun k => by
  by_cases h : (s.ops : Int) < k
  · rw [decide_eq_true h, decide_eq_false (by omega)]; simp
  · rw [decide_eq_false h]; simp, fun k h1 h2 _ => by omega, fun h => by cases h⟩
theorem Went.trans (h : Went s s1 false) (k : Went s1 s2 f) : Went s s2 f := by
  have h1 := h.ge
  have h2 := k.ge
  refine ⟨Nat.le_trans h1 h2, fun i => ?_, fun i h3 h4 h5 => ?_, fun hf => ?_⟩
  · rw [k.plan, h.plan]
    by_cases a1 : (s.ops : Int) < i <;> by_cases a2 : i ≤ (s1.ops : Int) <;> by_cases a3 : i ≤ (s2.ops : Int) <;> by_cases a4 : (s1.ops : Int) < i <;> simp [a1, a2, a3, a4] <;> omega
  · by_cases a2 : i ≤ (s1.ops : Int)
    · exact h.fine i h3 a2 (fun h => by cases h)
    · have := k.fine i (by omega) h4 h5
      rw [h.plan] at this
      simpa [h3, a2] using this
  · obtain ⟨h3, h4⟩ := k.bad hf
    refine ⟨by omega, ?_⟩
    rw [h.plan] at h4
    simp only [Bool.and_eq_true] at h4
    exact h4.1
theorem Went.same (h : Went s s1 f) (h1 : s2.ops = s1.ops) (h2 : s2.plan = s1.plan) : Went s s2 f :=
  ⟨by rw [h1]; exact h.ge, fun k => by rw [h2, h1]; exact h.plan k, fun k a b c => h.fine k a (by rw [← h1]; exact b) (by rw [← h1]; exact c), fun hf => by rw [h1]; exact h.bad hf⟩
/-- one operation -/
theorem Went.tick (s : St) : Went s s.tick s.fails := by
  have e : s.tick.ops = s.ops + 1 := rfl
  refine ⟨by rw [e]; omega, fun k => ?_, fun k h1 h2 h3 => ?_, fun hf => ⟨by rw [e]; omega, ?_⟩⟩
  · show (if k = (s.ops : Int) + 1 then false else s.plan k) = _
    rw [e]
    by_cases hk : k = (s.ops : Int) + 1
    · rw [if_pos hk, decide_eq_true (by omega), decide_eq_true (by omega)]; simp
    · rw [if_neg hk]
      by_cases h1 : (s.ops : Int) < k
      · rw [decide_eq_false (p := k ≤ _) (by omega)]; simp
      · rw [decide_eq_false h1]; simp
  · rw [e] at h2 h3
    obtain rfl : k = (s.ops : Int) + 1 := by omega
    cases hf : s.fails
    · exact hf
    · have := h3 hf
      omega
  · exact hf
theorem Went.nofail (h : Went s s' f) (hf : NoFail s) : f = false ∧ NoFail s' := by
  refine ⟨?_, fun k => by rw [h.plan, hf k]; rfl⟩
  cases f
  · rfl
  · have := (h.bad rfl).2
    rw [hf] at this
    cases this
end
/-- a write within range -/
theorem write_went (s : St) {i : Int} {bs : List Int} (h0 : 0 ≤ i) (h1 : i < s.last.length) (hb : bs.length = s.size) :
    ((s.write i bs).2 = 0 ∧ s.fails = false ∧ (s.write i bs).1 = s.put i bs ∧ Went s (s.write i bs).1 false) ∨ ((s.write i bs).2 = 3 ∧ s.fails = true ∧ (s.write i bs).1 = s.tick ∧ Went s (s.write i bs).1 true) := by
  have ht := Went.tick s
  unfold St.write
  cases hf : s.fails
  · rw [hf] at ht
    rw [if_neg (by decide), if_neg (by omega), if_neg (by omega), if_neg (fun e => e hb)]
    exact .inl ⟨rfl, rfl, rfl, ht.same rfl rfl⟩
  · rw [hf] at ht
    rw [if_pos rfl]
    exact .inr ⟨rfl, rfl, rfl, ht⟩
/-- writes in a row -/
theorem stores_went (s : St) (i : Int) (L : List (List Int)) (t : Nat) (h0 : 0 ≤ i) (h1 : i + t ≤ s.last.length) (hL : ∀ k, k < t → (L.getD k []).length = s.size) :
    ∃ s' er f, stores s i L t = (s', er) ∧ Went s s' f ∧ ((er = 0 ∧ f = false ∧ s'.ops = s.ops + t ∧ s'.wr = s.wr + t ∧ ∀ j : Int, s'.cach j = if i ≤ j ∧ j < i + t then some (L.getD (j - i).toNat []) else s.cach j) ∨ (er = 3 ∧ f = true ∧ s'.wr ≤ s.wr + t ∧ ∀ j : Int, (j < i ∨ i + t ≤ j) → s'.cach j = s.cach j)) ∧ s'.size = s.size ∧ s'.last = s.last := by
  induction t with
  | zero => exact ⟨s, 0, false, rfl, Went.refl s, .inl ⟨rfl, rfl, rfl, rfl, fun j => by rw [if_neg (by omega)]⟩, rfl, rfl⟩
  | succ t ih =>
    obtain ⟨s', er, f, e, hW, hc, hz, hl⟩ := ih (by omega) (fun k hk => hL k (by omega))
    rcases hc with ⟨rfl, rfl, ho, hw, hc⟩ | ⟨rfl, rfl, hw, hc⟩
    · rw [stores_succ s i L t (by rw [e])]
      rw [e]
      dsimp only
      rcases write_went s' (i := i + t) (bs := L.getD t []) (by omega) (by rw [hl]; omega) (by rw [hz]; exact hL t (by omega)) with ⟨w0, _, w1, w2⟩ | ⟨w0, _, w1, w2⟩
      · refine ⟨(s'.write (i + t) (L.getD t [])).1, 0, false, Prod.ext rfl w0, hW.trans w2, .inl ⟨rfl, rfl, by rw [w1]; show s'.ops + 1 = _; omega, by rw [w1]; show s'.wr + 1 = _; omega, fun j => ?_⟩, (put_size s' _ _).1.trans hz, (put_size s' _ _).2.trans hl⟩
        rw [w1]
        show (if j = i + t then some (L.getD t []) else s'.cach j) = _
        by_cases hj : j = i + t
        · rw [if_pos hj, if_pos (by omega)]
          congr 2
          omega
        · rw [if_neg hj, hc j]
          by_cases hk : i ≤ j ∧ j < i + t
          · rw [if_pos hk, if_pos (by omega)]
          · rw [if_neg hk, if_neg (by omega)]
      · refine ⟨(s'.write (i + t) (L.getD t [])).1, 3, true, Prod.ext rfl w0, hW.trans w2, .inr ⟨rfl, rfl, by rw [w1]; show s'.wr ≤ _; omega, fun j hj => ?_⟩, (put_size s' _ _).1.trans hz, (put_size s' _ _).2.trans hl⟩
        rw [w1]
        show s'.cach j = _
        rw [hc j, if_neg (by omega)]
    · rw [stores_stop s i L t (t + 1) (by rw [e]; show (3 : Int) ≠ 0; decide) (by omega)]
      exact ⟨s', 3, true, e, hW, .inr ⟨rfl, rfl, by omega, fun j hj => hc j (by omega)⟩, hz, hl⟩
theorem syncL_cnt (us : List Int) : ∀ s : St, (Dsk.syncL s us).wr = s.wr ∧ (Dsk.syncL s us).ops = s.ops := by
  induction us with
  | nil => intro s; exact ⟨rfl, rfl⟩
  | cons i us ih => intro s; exact ih _
/-- a Sync -/
theorem sync_went (s : St) : ∃ s', (s.sync = (s', 0) ∧ s.fails = false ∧ Went s s' false ∧ Synced s.tick s' ∧ s'.wr = s.wr ∧ s'.ops = s.ops + 1) ∨ (s.sync = (s', 3) ∧ s' = s.tick ∧ s.fails = true ∧ Went s s' true) := by
  have ht := Went.tick s
  cases hf : s.fails
  · rw [hf] at ht
    obtain ⟨h1, h2, h3, h4, h5⟩ := syncL_is s.uns s.tick (Dsk.sorted_uns s) (fun u hu => by have := (Dsk.mem_uns s u).1 hu; exact ⟨this.1, this.2.1⟩)
    refine ⟨Dsk.syncL s.tick s.uns, .inl ⟨by unfold St.sync; rw [hf]; rfl, rfl, ht.same (syncL_cnt _ _).2 h3, ⟨h1, h2, h3, fun j h0 hj => ?_, fun j h0 hj => ?_⟩, (syncL_cnt _ _).1, (syncL_cnt _ _).2⟩⟩
    · rw [h4]
      split
      · rfl
      · rename_i hm
        cases hc : s.cach j with
        | none => exact hc
        | some bs => exact absurd ((Dsk.mem_uns s j).2 ⟨h0, hj, by rw [hc]; rfl⟩) hm
    · rw [h5 j h0]
      unfold view
      split
      · rename_i hm
        have := ((Dsk.mem_uns s j).1 hm).2.2
        cases hc : s.cach j with
        | none => rw [hc] at this; cases this
        | some bs =>
          show (s.cach j).getD [] = (s.cach j).getD _
          rw [hc]
          rfl
      · rename_i hm
        cases hc : s.cach j with
        | none =>
          show _ = (s.cach j).getD _
          rw [hc]
          rfl
        | some bs => exact absurd ((Dsk.mem_uns s j).2 ⟨h0, hj, by rw [hc]; rfl⟩) hm
  · rw [hf] at ht
    exact ⟨s.tick, .inr ⟨by unfold St.sync; rw [hf]; rfl, rfl, rfl, ht⟩⟩
/-- nothing is cached -/
def Flat (s : St) : Prop := ∀ j : Int, 0 ≤ j → j < (s.last.length : Nat) → s.cach j = none
theorem Flat.view {s : St} (h : Flat s) (j : Int) (h0 : 0 ≤ j) (h1 : j < (s.last.length : Nat)) : view s j = s.last.getD j.toNat [] := by
  unfold Proofs.YthlemcnbebfliaaGreatDoor.view
  rw [h j h0 h1]
  rfl
/-- put, whatever fails -/
theorem lodge_went {s : St} {z n : Nat} {a b c w q : Int} {l : List Int} (hR : Room s z n a b c) (hw : w = 0 ∨ w = 1) (hl : l.length = n) (hq : 0 ≤ q ∧ q < 18446744073709551616) :
    ∃ s' er f, lodgeOf s w a b c q l = (s', er) ∧ Went s s' f ∧ s'.size = s.size ∧ s'.last.length = s.last.length ∧ s'.wr ≤ s.wr + many n z + 1 ∧
      (∀ j : Int, 0 ≤ j → j < (s.last.length : Nat) → (j < at_ n z w ∨ at_ n z w + 1 + (many n z : Nat) ≤ j) → view s' j = view s j) ∧
      ((er = 0 ∧ f = false ∧ Slotted s' z n a b c w q l ∧ s'.ops = s.ops + many n z + 3 ∧ s'.wr = s.wr + many n z + 1 ∧ Flat s') ∨
       (er = 3 ∧ f = true ∧ view s' (at_ n z w) = view s (at_ n z w) ∧ (Flat s → ∀ j : Int, 0 ≤ j → j < (s.last.length : Nat) → (j < at_ n z w + 1 ∨ at_ n z w + 1 + (many n z : Nat) ≤ j) → s'.cach j = none ∧ s'.last.getD j.toNat [] = view s j)) ∨
       (er = 3 ∧ f = true ∧ Slotted s' z n a b c w q l ∧ s'.last.getD (at_ n z w).toNat [] = view s (at_ n z w) ∧ ∀ j : Int, 0 ≤ j → j < (s.last.length : Nat) → j ≠ at_ n z w → s'.cach j = none)) := by
  have he := hR.for_ hw hl
  have hsp := hR.span
  have hz := hR.size
  have hroom := hR.room
  obtain ⟨q1, q2, q3, q4, q5, q6, q7⟩ := forErr_ok he
  have hb := many_bounds n z (by have := hR.z1; omega) hR.z2
  have hX := fill_len' l (many n z * z) (by rw [hl]; exact hb.1)
  have hlenH : (padded (enc a b c l.length q (sumOf l)) z).length = z := padded_len (by rw [enc_len]; have := hR.z1; omega)
  obtain ⟨at0, hat⟩ : ∃ x, at_ n z w = x := ⟨_, rfl⟩
  have hatb : 0 ≤ at0 ∧ at0 + 1 + (many n z : Nat) ≤ s.last.length := by
    rw [← hat]
    rcases at_cases (n := n) (z := z) hw with e | e <;> omega
  obtain ⟨F, hF⟩ : ∃ F, many n z = F := ⟨_, rfl⟩
  obtain ⟨s1, e1, f1, p1, W1, c1, z1, l1⟩ := stores_went s (at0 + 1) (secs l z) F (by omega) (by rw [← hF]; omega) (fun k hk => by rw [hz]; unfold secs; exact cutL_piece_len _ _ _ _ (by rw [hl, hF]; exact hk) (by rw [hl]; exact hX))
  have pp : put_ s w a b c l = (s1, e1) := by
    unfold put_
    rw [he, if_neg (fun h => h rfl), hz, hsp, hl, hF, ← p1, ← hat]
    show _ = stores s (w * (1 + ((many n z : Nat) : Int)) + 1) _ _
    rw [hF]
  have vo : ∀ {s' : St} {j : Int}, s'.cach j = s.cach j → s'.last = s.last → view s' j = view s j := fun h1 h2 => by unfold view; rw [h1, h2]
  have fl : ∀ {s' : St} {j : Int}, Flat s → 0 ≤ j → j < (s.last.length : Nat) → s'.cach j = s.cach j → s'.last = s.last → s'.cach j = none ∧ s'.last.getD j.toNat [] = view s j := fun hf h0 h1 h2 h3 => ⟨h2.trans (hf _ h0 h1), by rw [h3]; exact (hf.view _ h0 h1).symm⟩
  rw [hat]
  rcases c1 with ⟨rfl, rfl, o1, w1, c1⟩ | ⟨rfl, rfl, w1, c1⟩
  rotate_left 1
  · refine ⟨s1, 3, true, ?_, W1, z1, congrArg List.length l1, by omega, fun j h0 h1 h2 => vo (c1 j (by omega)) l1, .inr (.inl ⟨rfl, rfl, vo (c1 _ (by omega)) l1, fun hf j h0 h1 h2 => fl hf h0 h1 (c1 j (by omega)) l1⟩)⟩
    unfold lodgeOf
    rw [pp, nx_no (x := (s1, 3)) (show (3 : Int) ≠ 0 by decide), nx_no (x := (s1, 3)) (show (3 : Int) ≠ 0 by decide), nx_no (x := (s1, 3)) (show (3 : Int) ≠ 0 by decide)]
  have im1 : ∀ k, k < F → view s1 (at0 + 1 + k) = (secs l z).getD k [] := fun k hk => by
    unfold view
    rw [c1, if_pos (by omega)]
    simp only [Option.getD_some]
    congr 1
    omega
  obtain ⟨s2, h2⟩ := sync_went s1
  rcases h2 with ⟨p2, _, W2, Y2, w2, o2⟩ | ⟨p2, rfl, _, W2⟩
  rotate_left 1
  · refine ⟨s1.tick, 3, true, ?_, W1.trans W2, z1, congrArg List.length l1, by show s1.wr ≤ _; omega, fun j h0 h1 h2 => vo (s' := s1.tick) ((c1 j).trans (if_neg (by omega))) l1, .inr (.inl ⟨rfl, rfl, vo (s' := s1.tick) ((c1 _).trans (if_neg (by omega))) l1, fun hf j h0 h1 h2 => fl (s' := s1.tick) hf h0 h1 ((c1 j).trans (if_neg (by omega))) l1⟩)⟩
    unfold lodgeOf
    rw [pp, nx_ok, p2, nx_no (x := (s1.tick, 3)) (show (3 : Int) ≠ 0 by decide), nx_no (x := (s1.tick, 3)) (show (3 : Int) ≠ 0 by decide)]
  have z2 : s2.size = s.size := Y2.size.trans z1
  have l2 : s2.last.length = s.last.length := Y2.len.trans (congrArg List.length l1)
  have F2 : Flat s2 := fun j h0 hj => Y2.cach j h0 (by show j < (s1.last.length : Nat); rw [l1]; omega)
  have v2 : ∀ j : Int, 0 ≤ j → j < (s.last.length : Nat) → view s2 j = view s1 j := fun j h0 hj => (Y2.view j h0 (by show j < (s1.last.length : Nat); rw [l1]; exact hj)).trans rfl
  have v2o : ∀ j : Int, 0 ≤ j → j < (s.last.length : Nat) → (j < at0 + 1 ∨ at0 + 1 + F ≤ j) → view s2 j = view s j := fun j h0 hj ho => (v2 j h0 hj).trans (vo ((c1 j).trans (if_neg (by omega))) l1)
  have he2 : forErr s2 w a b c l.length = 0 := by rw [forErr_len z2 l2]; exact he
  obtain ⟨H, hH⟩ : ∃ H, padded (enc a b c l.length q (sumOf l)) z = H := ⟨_, rfl⟩
  rw [hH] at hlenH
  have p3 : laid s2 w a b c q l = s2.write at0 H := by
    unfold laid
    rw [he2, if_neg (fun h => h rfl), show s2.size = z from z2.trans hz, hsp, hH, ← hat]
  rcases write_went s2 (i := at0) (bs := H) hatb.1 (by rw [l2]; omega) (by rw [hlenH, z2, hz]) with ⟨w3, _, d3, W3⟩ | ⟨w3, _, d3, W3⟩
  rotate_left 1
  · rw [d3] at W3
    refine ⟨s2.tick, 3, true, ?_, (W1.trans W2).trans W3, z2, l2, by show s2.wr ≤ _; omega, fun j h0 h1 h2 => (v2o j h0 h1 (by omega)), .inr (.inl ⟨rfl, rfl, v2o _ (by omega) (by omega) (by omega), fun _ j h0 h1 h2 => ⟨F2 j h0 (by rw [l2]; exact h1), ?_⟩⟩)⟩
    · unfold lodgeOf
      rw [pp, nx_ok, p2, nx_ok, p3, show s2.write at0 H = (s2.tick, 3) from Prod.ext d3 w3, nx_no (x := (s2.tick, 3)) (show (3 : Int) ≠ 0 by decide)]
    · show s2.last.getD j.toNat [] = _
      rw [← F2.view j h0 (by rw [l2]; exact h1)]
      exact v2o j h0 h1 (by omega)
  rw [d3] at W3
  obtain ⟨s3, hs3⟩ : ∃ s3, s2.put at0 H = s3 := ⟨_, rfl⟩
  rw [hs3] at W3
  have pw : s2.write at0 H = (s3, 0) := Prod.ext (d3.trans hs3) w3
  have z3 : s3.size = s.size := by rw [← hs3]; exact z2
  have l3 : s3.last = s2.last := by rw [← hs3]; rfl
  have c3 : ∀ j, s3.cach j = if j = at0 then some H else s2.cach j := fun j => by rw [← hs3]; rfl
  have w3' : s3.wr = s2.wr + 1 := by rw [← hs3]; rfl
  have o3 : s3.ops = s2.ops + 1 := by rw [← hs3]; rfl
  have v3 : ∀ j : Int, 0 ≤ j → j < (s.last.length : Nat) → view s3 j = if j = at0 then H else view s1 j := fun j h0 hj => by
    rw [← hs3, put_view]
    split
    · rfl
    · exact v2 j h0 hj
  have sl : ∀ s' : St, (∀ j : Int, 0 ≤ j → j < (s.last.length : Nat) → view s' j = view s3 j) → Slotted s' z n a b c w q l := fun s' hv => by
    refine ⟨⟨?_, fun k hk => ?_⟩, hl, hq⟩
    · rw [hat, hv _ (by omega) (by omega), v3 _ (by omega) (by omega), if_pos rfl, hH]
    · rw [hl, hF] at hk
      rw [hat, hv _ (by omega) (by omega), v3 _ (by omega) (by omega), if_neg (by omega)]
      exact im1 k hk
  have vout : ∀ j : Int, 0 ≤ j → j < (s.last.length : Nat) → (j < at0 ∨ at0 + 1 + F ≤ j) → view s3 j = view s j := fun j h0 h1 h2 => by
    rw [v3 j h0 h1, if_neg (by omega)]
    exact vo ((c1 j).trans (if_neg (by omega))) l1
  obtain ⟨s4, h4⟩ := sync_went s3
  rcases h4 with ⟨p4, _, W4, Y4, w4, o4⟩ | ⟨p4, rfl, _, W4⟩
  · have l4 : s4.last.length = s.last.length := Y4.len.trans ((congrArg List.length l3).trans l2)
    have v4 : ∀ j : Int, 0 ≤ j → j < (s.last.length : Nat) → view s4 j = view s3 j := fun j h0 hj => (Y4.view j h0 (by show j < (s3.last.length : Nat); rw [l3, l2]; exact hj)).trans rfl
    refine ⟨s4, 0, false, ?_, ((W1.trans W2).trans W3).trans W4, Y4.size.trans z3, l4, by omega, fun j h0 h1 h2 => (v4 j h0 h1).trans (vout j h0 h1 (by omega)), .inl ⟨rfl, rfl, sl s4 v4, by omega, by omega, fun j h0 hj => Y4.cach j h0 (by show j < (s3.last.length : Nat); rw [l3, l2]; omega)⟩⟩
    unfold lodgeOf
    rw [pp, nx_ok, p2, nx_ok, p3, pw, nx_ok, p4]
  · refine ⟨s3.tick, 3, true, ?_, ((W1.trans W2).trans W3).trans W4, z3, (congrArg List.length l3).trans l2, by show s3.wr ≤ _; omega, fun j h0 h1 h2 => vout j h0 h1 (by omega), .inr (.inr ⟨rfl, rfl, sl s3.tick (fun _ _ _ => rfl), ?_, fun j h0 h1 h2 => ?_⟩)⟩
    · unfold lodgeOf
      rw [pp, nx_ok, p2, nx_ok, p3, pw, nx_ok, p4]
    · show s3.last.getD at0.toNat [] = _
      rw [l3, ← F2.view at0 hatb.1 (by rw [l2]; omega)]
      exact v2o at0 (by omega) (by omega) (by omega)
    · show s3.cach j = none
      rw [c3, if_neg h2]
      exact F2 j h0 (by rw [l2]; exact h1)
end Go.Proofs.YthlemcnbebfliaaGreatDoor
namespace Go.Proofs.YthlemcnbebfliaaGreatDoor
open Ks Go.RowKit
set_option maxRecDepth 20000

/-- a slot as its sectors tell -/
def seen (f : Int → List Int) (n z : Nat) (a b c w : Int) : Slt :=
  if decErr (f (at_ n z w)) ≠ 0 then ⟨0, decErr (f (at_ n z w)), 0, []⟩
  else if ¬ (num (Ks.part (f (at_ n z w)) 5 1) = a ∧ num (Ks.part (f (at_ n z w)) 6 1) = b ∧ num (Ks.part (f (at_ n z w)) 7 1) = c) then ⟨1, 0, 0, []⟩
  else if sumOf (glued ((List.range (many n z)).map fun (k : Nat) => f (at_ n z w + 1 + k)) n) ≠ num (Ks.part (f (at_ n z w)) 20 4) then ⟨0, 8, 0, []⟩
  else ⟨2, 0, num (Ks.part (f (at_ n z w)) 12 8), glued ((List.range (many n z)).map fun (k : Nat) => f (at_ n z w + 1 + k)) n⟩
theorem seen_congr {f g : Int → List Int} {n z : Nat} {a b c w : Int} (h : ∀ j : Int, at_ n z w ≤ j → j < at_ n z w + 1 + (many n z : Nat) → f j = g j) : seen f n z a b c w = seen g n z a b c w := by
  have h0 := h (at_ n z w) (by omega) (by omega)
  have h1 : (List.range (many n z)).map (fun (k : Nat) => f (at_ n z w + 1 + k)) = (List.range (many n z)).map fun (k : Nat) => g (at_ n z w + 1 + k) := by
    apply List.map_congr_left
    intro k hk
    rw [List.mem_range] at hk
    exact h _ (by omega) (by omega)
  unfold seen
  rw [h0, h1]
theorem loads_went (s : St) (i : Int) (t : Nat) (h0 : 0 ≤ i) (h1 : i + t ≤ s.last.length) :
    ∃ f, Went s (loads s i t).1 f ∧ (loads s i t).1.wr = s.wr ∧ (((loads s i t).2.2 = 0 ∧ f = false ∧ (loads s i t).2.1 = (List.range t).map fun (k : Nat) => view s (i + k)) ∨ ((loads s i t).2.2 = 3 ∧ f = true)) := by
  induction t with
  | zero => exact ⟨false, Went.refl s, rfl, .inl ⟨rfl, rfl, rfl⟩⟩
  | succ t ih =>
    have al := loads_alike s i t
    obtain ⟨f, hW, hw, hc⟩ := ih (by omega)
    rcases hc with ⟨e, rfl, e4⟩ | ⟨e, rfl⟩
    · rw [loads_succ s i t e, read_if (i + t) (by omega) (by rw [al.last]; omega)]
      have ht := Went.tick (loads s i t).1
      cases hf : (loads s i t).1.fails
      · rw [hf] at ht
        refine ⟨false, hW.trans ht, hw, .inl ⟨rfl, rfl, ?_⟩⟩
        show (loads s i t).2.1 ++ [view (loads s i t).1 (i + t)] = _
        rw [e4, List.range_succ, List.map_append, al.view]
        rfl
      · rw [hf] at ht
        exact ⟨true, hW.trans ht, hw, .inr ⟨rfl, rfl⟩⟩
    · rw [loads_stop s i t (t + 1) (by rw [e]; decide) (by omega)]
      exact ⟨true, hW, hw, .inr ⟨e, rfl⟩⟩
theorem readOf_went {s : St} {z n : Nat} {a b c w : Int} (hR : Room s z n a b c) (hw : w = 0 ∨ w = 1) :
    ∃ s' y er f, readOf s w a b c = (s', y, er) ∧ Went s s' f ∧ Alike s s' ∧ s'.wr = s.wr ∧ ((er = 0 ∧ f = false ∧ y = seen (view s) n z a b c w) ∨ (er = 3 ∧ f = true)) := by
  have hroom := hR.room
  have hat : 0 ≤ at_ n z w ∧ at_ n z w + 1 + (many n z : Nat) ≤ s.last.length := by rcases at_cases (n := n) (z := z) hw with e | e <;> omega
  have ht : (total a b c).toNat = n := by have := hR.tot; omega
  have hA := readOf_alike s w a b c
  have htk := Went.tick s
  have e0 : readOf s w a b c = if (if s.fails then (([] : List Int), (3 : Int)) else (view s (at_ n z w), 0)).2 ≠ 0 then (s.tick, noSlt, (if s.fails then (([] : List Int), (3 : Int)) else (view s (at_ n z w), 0)).2) else headOf s.tick (if s.fails then (([] : List Int), (3 : Int)) else (view s (at_ n z w), 0)).1 (at_ n z w) a b c := by
    unfold readOf
    rw [hR.find hw, if_neg (fun h => h rfl), hR.size, hR.span, read_if _ hat.1 (by omega)]
  cases hf : s.fails
  rotate_left 1
  · rw [hf] at e0 htk
    have e1 : readOf s w a b c = (s.tick, noSlt, 3) := e0
    exact ⟨s.tick, noSlt, 3, true, e1, htk, ⟨rfl, rfl, rfl⟩, rfl, .inr ⟨rfl, rfl⟩⟩
  rw [hf] at e0 htk
  have e1 : readOf s w a b c = headOf s.tick (view s (at_ n z w)) (at_ n z w) a b c := e0
  obtain ⟨S, hS⟩ : ∃ S, seen (view s) n z a b c w = S := ⟨_, rfl⟩
  have hS0 := hS
  rw [hS]
  unfold headOf at e1
  unfold seen at hS
  by_cases h1 : decErr (view s (at_ n z w)) ≠ 0
  · rw [if_pos h1] at e1 hS
    exact ⟨s.tick, _, 0, false, e1, htk, Alike.tick s, rfl, .inl ⟨rfl, rfl, hS⟩⟩
  rw [if_neg h1] at e1 hS
  by_cases h2 : ¬ (num (Ks.part (view s (at_ n z w)) 5 1) = a ∧ num (Ks.part (view s (at_ n z w)) 6 1) = b ∧ num (Ks.part (view s (at_ n z w)) 7 1) = c)
  · rw [if_pos h2] at e1 hS
    exact ⟨s.tick, _, 0, false, e1, htk, Alike.tick s, rfl, .inl ⟨rfl, rfl, hS⟩⟩
  rw [if_neg h2, ht, show s.tick.size = z from hR.size] at e1
  rw [if_neg h2] at hS
  obtain ⟨f, hW, hwr, hc⟩ := loads_went s.tick (at_ n z w + 1) (many n z) (by omega) (by show at_ n z w + 1 + (many n z : Nat) ≤ (s.last.length : Int); omega)
  have hAl := (Alike.tick s).trans (loads_alike s.tick (at_ n z w + 1) (many n z))
  unfold sealedOf at e1
  rcases hc with ⟨l0, rfl, l1⟩ | ⟨l0, rfl⟩
  · rw [if_neg (fun h => h l0), l1] at e1
    have e2 : (fun (k : Nat) => view s.tick (at_ n z w + 1 + k)) = fun (k : Nat) => view s (at_ n z w + 1 + k) := rfl
    rw [e2] at e1
    by_cases h3 : sumOf (glued ((List.range (many n z)).map fun (k : Nat) => view s (at_ n z w + 1 + k)) n) ≠ num (Ks.part (view s (at_ n z w)) 20 4)
    · rw [if_pos h3] at e1 hS
      exact ⟨_, _, 0, false, e1, htk.trans hW, hAl, hwr, .inl ⟨rfl, rfl, hS⟩⟩
    · rw [if_neg h3] at e1 hS
      exact ⟨_, _, 0, false, e1, htk.trans hW, hAl, hwr, .inl ⟨rfl, rfl, hS⟩⟩
  · rw [if_pos (by rw [l0]; decide), l0] at e1
    exact ⟨_, _, 3, true, e1, htk.trans hW, hAl, hwr, .inr ⟨rfl, rfl⟩⟩
/-- what is opened, as the sectors tell -/
def openedV (f : Int → List Int) (n z : Nat) (a b c : Int) : Sh × Int :=
  if (pick (seen f n z a b c 0) (seen f n z a b c 1)).2 ≠ 0 then (⟨[], 0, 0, false⟩, (pick (seen f n z a b c 0) (seen f n z a b c 1)).2)
  else if (pick (seen f n z a b c 0) (seen f n z a b c 1)).1 = 1 then (⟨(seen f n z a b c 1).img, (seen f n z a b c 1).seq, 1, false⟩, 0)
  else (⟨(seen f n z a b c 0).img, (seen f n z a b c 0).seq, 0, false⟩, 0)
theorem openedV_congr {f g : Int → List Int} {n z : Nat} {a b c : Int} (h : ∀ j : Int, 0 ≤ j → j < 2 * (1 + (many n z : Nat)) → f j = g j) : openedV f n z a b c = openedV g n z a b c := by
  have e0 : at_ n z 0 = 0 := by unfold at_; omega
  have e1 : at_ n z 1 = 1 + (many n z : Nat) := by unfold at_; omega
  unfold openedV
  rw [seen_congr (f := f) (g := g) (w := 0) (fun j h0 h1 => h j (by omega) (by omega)), seen_congr (f := f) (g := g) (w := 1) (fun j h0 h1 => h j (by omega) (by omega))]
/-- Open, whatever fails -/
theorem open_went {s : St} {z n : Nat} {a b c : Int} (hR : Room s z n a b c) :
    ∃ s' x er f, openOf s a b c = (s', x, er) ∧ Went s s' f ∧ s'.size = s.size ∧ s'.last.length = s.last.length ∧ s'.wr = s.wr ∧ (∀ j : Int, 0 ≤ j → j < (s.last.length : Nat) → view s' j = view s j) ∧
      ((f = false ∧ (x, er) = openedV (view s) n z a b c ∧ Flat s') ∨ (er = 3 ∧ f = true)) := by
  have hroom := hR.room
  obtain ⟨s1, h1⟩ := sync_went s
  rcases h1 with ⟨p1, _, W1, Y1, w1, _⟩ | ⟨p1, rfl, _, W1⟩
  rotate_left 1
  · refine ⟨s.tick, ⟨[], 0, 0, false⟩, 3, true, ?_, W1, rfl, rfl, rfl, fun _ _ _ => rfl, .inr ⟨rfl, rfl⟩⟩
    unfold openOf
    rw [hR.find (.inl rfl), if_neg (fun h => h rfl), p1, if_pos (show (3 : Int) ≠ 0 by decide)]
  have R1 : Room s1 z n a b c := hR.of Y1.size Y1.len
  have L1 : s1.last.length = s.last.length := Y1.len
  have v1 : ∀ j : Int, 0 ≤ j → j < (s.last.length : Nat) → view s1 j = view s j := fun j h0 hj => (Y1.view j h0 hj).trans rfl
  have F1 : Flat s1 := fun j h0 hj => Y1.cach j h0 (by show j < (s.last.length : Nat); omega)
  obtain ⟨s2, x2, e2, f2, p2, W2, A2, w2, c2⟩ := readOf_went (w := 0) R1 (.inl rfl)
  have v2 : ∀ j : Int, 0 ≤ j → j < (s.last.length : Nat) → view s2 j = view s j := fun j h0 hj => (A2.view j).trans (v1 j h0 hj)
  rcases c2 with ⟨rfl, rfl, hx2⟩ | ⟨rfl, rfl⟩
  rotate_left 1
  · refine ⟨s2, ⟨[], 0, 0, false⟩, 3, true, ?_, W1.trans W2, A2.size.trans Y1.size, by rw [A2.last]; exact L1, w2.trans w1, v2, .inr ⟨rfl, rfl⟩⟩
    unfold openOf
    rw [hR.find (.inl rfl), if_neg (fun h => h rfl), p1, if_neg (fun h => h rfl), p2, if_pos (show (3 : Int) ≠ 0 by decide)]
  have R2 : Room s2 z n a b c := R1.of A2.size (congrArg List.length A2.last)
  obtain ⟨s3, x3, e3, f3, p3, W3, A3, w3, c3⟩ := readOf_went (w := 1) R2 (.inr rfl)
  have v3 : ∀ j : Int, 0 ≤ j → j < (s.last.length : Nat) → view s3 j = view s j := fun j h0 hj => (A3.view j).trans (v2 j h0 hj)
  rcases c3 with ⟨rfl, rfl, hx3⟩ | ⟨rfl, rfl⟩
  rotate_left 1
  · refine ⟨s3, ⟨[], 0, 0, false⟩, 3, true, ?_, (W1.trans W2).trans W3, A3.size.trans (A2.size.trans Y1.size), by rw [A3.last, A2.last]; exact L1, w3.trans (w2.trans w1), v3, .inr ⟨rfl, rfl⟩⟩
    unfold openOf
    rw [hR.find (.inl rfl), if_neg (fun h => h rfl), p1, if_neg (fun h => h rfl), p2, if_neg (fun h => h rfl), p3, if_pos (show (3 : Int) ≠ 0 by decide)]
  have e0 : at_ n z 0 = 0 := by unfold at_; omega
  have e1 : at_ n z 1 = 1 + (many n z : Nat) := by unfold at_; omega
  have q2 : x2 = seen (view s) n z a b c 0 := by rw [hx2]; exact seen_congr fun j h0 hj => v1 j (by omega) (by omega)
  have q3 : x3 = seen (view s) n z a b c 1 := by rw [hx3]; exact seen_congr fun j h0 hj => v2 j (by omega) (by omega)
  have hF3 : Flat s3 := fun j h0 hj => by rw [A3.cach, A2.cach]; exact F1 j h0 (by rw [A3.last, A2.last] at hj; exact hj)
  refine ⟨s3, (openedV (view s) n z a b c).1, (openedV (view s) n z a b c).2, false, ?_, (W1.trans W2).trans W3, A3.size.trans (A2.size.trans Y1.size), by rw [A3.last, A2.last]; exact L1, w3.trans (w2.trans w1), v3, .inl ⟨rfl, rfl, hF3⟩⟩
  unfold openOf openedV
  rw [hR.find (.inl rfl), if_neg (fun h => h rfl), p1, if_neg (fun h => h rfl), p2, if_neg (fun h => h rfl), p3, if_neg (fun h => h rfl)]
  dsimp only
  rw [← q2, ← q3]
  split
  · rfl
  split
  · rfl
  · rfl
/-- the same disk, nothing planned -/
theorem Cur.opened {s : St} {z n : Nat} {a b c : Int} {x : Sh} (hR : Room s z n a b c) (h : Cur s z n a b c x) : openedV (view s) n z a b c = (x, 0) := by
  obtain ⟨s0, hs0⟩ : ∃ s0 : St, s0 = { s with plan := fun _ => false } := ⟨_, rfl⟩
  have f0 : NoFail s0 := by rw [hs0]; exact fun _ => rfl
  have R0 : Room s0 z n a b c := hR.of (by rw [hs0]) (by rw [hs0])
  have C0 : Cur s0 z n a b c x := h.of_view hR (fun j _ _ => by rw [hs0]; rfl)
  obtain ⟨s', p, _⟩ := open_fine f0 R0 C0
  obtain ⟨s2, x2, e2, f2, p2, W2, _, _, _, _, c2⟩ := open_went R0
  rw [p] at p2
  injection p2 with q1 q2
  injection q2 with q2 q3
  rcases c2 with ⟨_, h2, _⟩ | ⟨_, h2⟩
  · have e : view s0 = view s := by rw [hs0]; rfl
    rw [← e, ← h2, q2, q3]
  · have := (W2.nofail f0).1
    rw [h2] at this
    cases this
end Go.Proofs.YthlemcnbebfliaaGreatDoor
namespace Go.Proofs.YthlemcnbebfliaaGreatDoor
open Ks Go.RowKit
set_option maxRecDepth 20000

theorem fresh_any (sz a b c : Int) (m n : Nat) (w : World) (hT : Tab w) (hs : 0 ≤ sz ∧ sz ≤ 255) (hm : 32 + sz % 100 = m) (hn : 2 * spanOf m a b c + 1 = n) (hn1 : n ≤ 4096) :
    Calls Tryz.prog 15 #[.int .u8 sz, geoV a b c] w (Freshes w (Dsk.fresh m (List.replicate n (List.replicate m 0)))) := by
  obtain ⟨b0, b1, b2⟩ := boxed w (.int .i64 a) (.int .i64 b) (.int .i64 c) 23
  have HB := Lib.hid (below_box w (.cells #[.int .i64 a, .int .i64 b, .int .i64 c] 23))
  have HT := Lib.hid (tab_below hT HB.out (tab_pos hT))
  obtain ⟨r, hr⟩ : ∃ r, sz.tmod 100 = r := ⟨_, rfl⟩
  have hr0 : 0 ≤ r ∧ r < 100 := by rw [← hr, Int.tmod_eq_emod_of_nonneg hs.1]; omega
  have hrm : 32 + r = (m : Int) := by rw [← hm, ← hr, Int.tmod_eq_emod_of_nonneg hs.1]
  obtain ⟨s0, s1⟩ := hs
  obtain ⟨r0, r1⟩ := hr0
  obtain ⟨sp, hsp⟩ : ∃ sp, spanOf m a b c = sp := ⟨_, rfl⟩
  have HSP := Lib.hid hsp
  rw [hsp] at hn
  have hsb := hsp ▸ spanOf_bounds m a b c
  clear hT hm hsp
  go_enter Tryz.func15, Tryz.ntmps15
  go_wp2_with fail
  generalize w.alloc (.cells #[.int .i64 a, .int .i64 b, .int .i64 c] 23) = W at *
  have h1 : IntKind.i64.wrap (2 * sp) = 2 * sp := by rw [IntKind.wrap_i64]; omega
  have h2 : IntKind.i64.wrap (2 * sp + 1) = (n : Int) := by rw [IntKind.wrap_i64]; omega
  refine (refSpan_any (m : Int) a b c sp _ _ (On.start HT.out) HSP.out).mono ?_
  rintro e w1 ⟨rfl, hw1⟩
  have HB1 := Lib.hid (HB.out.trans (hw1.bel.mono HB.out.size))
  clear hw1
  go_wp2_with fail
  refine (Dsk.new_ok w1 n m (by omega) (by omega) (by omega)).mono ?_
  rintro e w2 ⟨p, rfl, hd, hk⟩
  have HK := Lib.hid (show Keeps No w w2 from (Keeps.of_below HB1.out).trans hk)
  have HD := Lib.hid (show DiskAt Tryz.prog w2 p (Dsk.Grow No w w2) (Dsk.fresh m (List.replicate n (List.replicate m 0))) from hd.mono (fun b hb => by
    rcases hb with hb | hb
    · exact hb.elim
    · exact .inr ⟨Nat.le_trans HB1.out.size hb.1, hb.2⟩) (fun b hb => by
    rcases hb with hb | hb
    · exact hb.elim
    · exact hb.2))
  clear hd hk
  go_wp2_with fail
  go_ret
  exact ⟨p, rfl, HD.out, HK.out⟩
/-- bytes cut or filled -/
def madeOf (l : List Int) (k : Nat) : List Int := l.take k ++ List.replicate (k - l.length) 0
theorem madeOf_len (l : List Int) (k : Nat) : (madeOf l k).length = k := by unfold madeOf; rw [List.length_append, List.length_take, List.length_replicate]; omega
theorem madeOf_in {l : List Int} (h : In8 l) (k : Nat) : In8 (madeOf l k) := by
  intro v hv
  rcases List.mem_append.1 hv with h1 | h1
  · exact h v (List.mem_of_mem_take h1)
  · rw [List.eq_of_mem_replicate h1]; omega
theorem copy_cut (w : World) (g m c ty B n : Nat) (zs : List Int) (hR : Row w g zs) (hm : zs.length = m) (A : Option Addr) (c' : Nat) (l : List Int) (hl : Bytes w B A n l) :
    ∃ w' x, (Builtin.copy_ #[33, 33] ty #[.slice (some ⟨g, 0, none⟩) m c, .slice A n c']).run Tryz.prog w = .ok (.int .i64 x) w' ∧ Only g w w' ∧ Row w' g (l.take m ++ zs.drop n) := by
  by_cases h0 : min n m = 0
  · refine ⟨_, 0, run_copy_none _ 33 33 ty 5 _ _ m c n c' Tryz.underlying33 size5 h0, Only.refl _ _, ?_⟩
    have hll := hl.1
    rcases Nat.eq_zero_or_pos n with h1 | h1
    · subst h1
      obtain rfl : l = [] := List.eq_nil_of_length_eq_zero hll
      simpa using hR
    · obtain rfl : m = 0 := by omega
      obtain rfl : zs = [] := List.eq_nil_of_length_eq_zero hm
      simpa using hR
  · obtain ⟨b, o, rfl, hb, hcs⟩ := hl.2.2 (by omega)
    have hll := hl.1
    have hr := run_copy_row (P := Tryz.prog) w 33 33 ty 5 g 0 m c ⟨b, o, none⟩ n c' _ 5 ((l.take m).map (Value.int .u8)) Tryz.underlying33 size5 hR (by rw [List.length_map, List.length_take, hll]; exact Nat.min_comm _ _) (bys_news (by
      intro k hk
      rw [List.length_take] at hk
      rw [hcs k (by omega)]
      simp [List.getD, show k < m by omega])) (by simp; omega) (ints_one _)
    refine ⟨_, _, hr, ⟨rfl, rfl, rfl, by simp [World.setRow], fun k hk => setRow_other _ _ _ _ hk⟩, ?_⟩
    unfold Row
    rw [setRow_heap _ _ _ _ _ _ hR]
    simp [hll, List.map_drop]
    omega
theorem made_any (w : World) (A : Option Addr) (n cp B k : Nat) (l : List Int) (hl : Bytes w B A n l) (hB : B ≤ w.heap.size) (hk : k ≤ 100000) :
    Calls Tryz.prog 23 #[.slice A n cp, .int .i64 k] w fun e w' => ∃ g, e = .returned (.slice (some ⟨g, 0, none⟩) k k) ∧ Row w' g (madeOf l k) ∧ g = w.heap.size ∧ Below w.heap.size w w' := by
  have hmb := make_bytes k (by omega)
  have hb := below_box w (.cells (madeCells #[Value.int .u8 0] k) 5)
  obtain ⟨w3, x, hcp, ho, hr⟩ := copy_cut (w.alloc (.cells (madeCells #[Value.int .u8 0] k) 5)) w.heap.size k k 3 w.heap.size n (List.replicate k 0) (row_made w k) (by simp) A cp l (bytes_below (bytes_mono hl hB) hb)
  have HR := Lib.hid (show Row w3 w.heap.size (madeOf l k) by
    have e : madeOf l k = l.take k ++ (List.replicate k 0).drop n := by unfold madeOf; rw [List.drop_replicate, hl.1]
    rw [e]; exact hr)
  have HB := Lib.hid (hb.trans (ho.below (Nat.le_refl _)))
  clear hr ho hb hl hB
  go_enter Tryz.func23, Tryz.ntmps23
  go_wp2_with fail
  go_ret
  exact ⟨_, rfl, HR.out, rfl, HB.out⟩
/-- a disk and its shadow in a law's memory -/
structure Sw (N : Nat) (w W : World) (p q : Nat) (F : Nat → Prop) (s : St) (a b c : Int) (x : Sh) : Prop where
  dk : Dk N w W p F s
  sh : ShAt W q p F a b c x
  qN : N ≤ q
section
variable {N : Nat} {w W W' : World} {p q : Nat} {F : Nat → Prop} {s s' : St} {a b c er : Int} {x x' : Sh} {e : Ending}
theorem Sw.below (h : Sw N w W p q F s a b c x) (hb : Below W.heap.size W W') : Sw N w W' p q F s a b c x := ⟨h.dk.below hb, h.sh.below hb, h.qN⟩
theorem Dk.two_ (h : Dk N w W p F s) : ∀ k, F k → 2 ≤ k := fun k hk => Nat.le_trans h.two (h.ge k hk)
theorem Dk.done (h : Dk N w W p F s) (hd : Done p F s' W er e W') : Dk N w W' p (Dsk.Grow F W W') s' := by
  obtain ⟨_, hs⟩ := hd
  have hb : Below N W W' := hs.keeps.below h.ge h.le
  exact ⟨hs.disk, fun b hg => by rcases hg with hg | hg; exact h.ge b hg; exact Nat.le_trans h.le hg.1, h.bel.trans hb, tab_below h.tab hb h.two, h.two, Nat.le_trans h.le hs.keeps.size⟩
/-- Open: the disk, and a new shadow, its blocks of those that grew -/
theorem Dk.opened (h : Dk N w W p F s) (hd : OpenSays W p F s' a b c x er e W') : ∃ F', Dk N w W' p F' s' ∧ (∀ k, F' k → Dsk.Grow F W W' k) ∧ Keeps F W W' ∧
    ((er ≠ 0 ∧ e = .returned (.tuple #[.pointer none, .int .i64 er])) ∨ (er = 0 ∧ ∃ q, W.heap.size ≤ q ∧ e = .returned (.tuple #[.pointer (some ⟨q, 0, none⟩), .int .i64 0]) ∧ Sw N w W' p q F' s' a b c x)) := by
  obtain ⟨hk, F', hd, hG, hr⟩ := hd
  have hb : Below N W W' := hk.below h.ge h.le
  have hdk : Dk N w W' p F' s' := ⟨hd, fun b hg => by rcases hG b hg with hg | hg; exact h.ge b hg; exact Nat.le_trans h.le hg.1, h.bel.trans hb, tab_below h.tab hb h.two, h.two, Nat.le_trans h.le hk.size⟩
  refine ⟨F', hdk, hG, hk, ?_⟩
  rcases hr with ⟨h1, h2⟩ | ⟨h1, q, h2, h3, h4⟩
  · exact .inl ⟨h1, h2⟩
  · exact .inr ⟨h1, q, h2, h3, hdk, h4, Nat.le_trans h.le h2⟩
theorem Sw.commit (h : Sw N w W p q F s a b c x) (hd : CommitSays W p q F s' a b c x' er e W') : e = .returned (.int .i64 er) ∧ Keeps (fun k => F k ∨ k = q) W W' ∧ ∃ F', Sw N w W' p q F' s' a b c x' ∧ (∀ k, F' k → Dsk.Grow F W W' k) := by
  obtain ⟨he, hk, F', hd, hG, hr⟩ := hd
  have hge : ∀ k, (F k ∨ k = q) → N ≤ k := fun k hk => by rcases hk with hk | hk; exact h.dk.ge k hk; exact hk ▸ h.qN
  have hb : Below N W W' := hk.below hge h.dk.le
  exact ⟨he, hk, F', ⟨⟨hd, fun b hg => by rcases hG b hg with hg | hg; exact h.dk.ge b hg; exact Nat.le_trans h.dk.le hg.1, h.dk.bel.trans hb, tab_below h.dk.tab hb h.dk.two, h.dk.two, Nat.le_trans h.dk.le hk.size⟩, hr, h.qN⟩, hG⟩
/-- bytes that are neither the disk's nor the shadow's -/
def Mine (W : World) (F : Nat → Prop) (q : Nat) (v : Value) (l : List Int) : Prop := Bys W (fun k => ¬ F k ∧ k ≠ q) v l
theorem Mine.next {S F' : Nat → Prop} {v : Value} {l : List Int} (h : Mine W F q v l) (hk : Keeps S W W') (hS : ∀ k, S k → F k ∨ k = q) (hG : ∀ k, F' k → Dsk.Grow F W W' k) : Mine W' F' q v l :=
  ((Bys.there h).keeps hk fun b hb _ hs => by rcases hS b hs with h1 | h1; exact hb.1.1 h1; exact hb.1.2 h1).mono fun b hb => ⟨fun h1 => by rcases hG b h1 with h2 | h2; exact hb.1.1 h2; have := hb.2; omega, hb.1.2⟩
theorem Mine.below {v : Value} {l : List Int} (h : Mine W F q v l) (hb : Below W.heap.size W W') : Mine W' F q v l := Bys.keeps h (S := No) (Keeps.of_below hb) fun _ _ _ h => h
/-- the same shadow beside a disk whose blocks grew -/
theorem ShAt.again {F' : Nat → Prop} (h : ShAt W q p F a b c x) (hk : Keeps F W W') (hG : ∀ k, F' k → Dsk.Grow F W W' k) : ShAt W' q p F' a b c x := (h.grow hk).mono hG
end
end Go.Proofs.YthlemcnbebfliaaGreatDoor
namespace Go.Proofs.YthlemcnbebfliaaGreatDoor
open Ks Go.RowKit
set_option maxRecDepth 20000

theorem nx_okd {m d : Nat} {x : St × Int} {f : St → St × Int} (h : Ok m x.1) (hf : ∀ s, Ok m s → Ok (m + d) (f s).1) : Ok (m + d) (nx x f).1 := by
  unfold nx
  split
  · exact h.mono (by omega)
  · exact hf _ h
theorem laid_okd {m : Nat} {s : St} (which a b c q : Int) (l : List Int) (h : Ok m s) : Ok (m + 1) (laid s which a b c q l).1 := laid_ok h rfl
theorem wiped_okd {m : Nat} {s : St} (which a b c : Int) (h : Ok m s) : Ok (m + 1) (wiped s which a b c).1 := wiped_ok h rfl
theorem lodge_ok {m : Nat} {s : St} (h : Ok m s) {l : List Int} (h8 : In8 l) (which a b c q : Int) : Ok (m + many l.length s.size + 1 + 1 + 1) (lodgeOf s which a b c q l).1 :=
  nx_okd (nx_okd (nx_okd (put_ok h h8 rfl) fun _ h => h.sync) fun _ h => laid_okd _ _ _ _ _ _ h) fun _ h => h.sync
theorem nx_size {z : Nat} {x : St × Int} {f : St → St × Int} (h : x.1.size = z) (hf : ∀ s : St, s.size = z → (f s).1.size = z) : (nx x f).1.size = z := by
  unfold nx
  split
  · exact h
  · exact hf _ h
theorem wiped_size (s : St) (which a b c : Int) : (wiped s which a b c).1.size = s.size := by
  unfold wiped
  split
  · rfl
  · exact (put_size _ _ _).1
theorem format_ok {m : Nat} {s : St} (h : Ok m s) (a b c : Int) : Ok (m + 1 + 1 + 1 + (many (fac a b c).length s.size + 1 + 1 + 1)) (formatOf s a b c).1 := by
  unfold formatOf
  split
  · exact h.mono (by omega)
  · have h3 : Ok (m + 1 + 1 + 1) (nx (nx (wiped s 0 a b c) fun t => wiped t 1 a b c) St.sync).1 := nx_okd (nx_okd (wiped_ok h rfl) fun _ h => wiped_okd _ _ _ _ h) fun _ h => h.sync
    have hz : (nx (nx (wiped s 0 a b c) fun t => wiped t 1 a b c) St.sync).1.size = s.size := nx_size (nx_size (wiped_size _ _ _ _ _) fun t ht => (wiped_size _ _ _ _ _).trans ht) fun t ht => (sync_size t).1.trans ht
    generalize nx (nx (wiped s 0 a b c) fun t => wiped t 1 a b c) St.sync = X at *
    unfold nx
    split
    · exact h3.mono (by omega)
    · rw [← hz]
      exact (lodge_ok h3 (l := fac a b c) (facAt_in _ _) _ _ _ _ _).mono (by omega)
theorem open_ok_ {m : Nat} {s : St} (h : Ok m s) (a b c : Int) : Ok (m + 1 + (1 + many (total a b c).toNat s.size) + (1 + many (total a b c).toNat s.size)) (openOf s a b c).1 := by
  have h1 := h.sync
  have z1 := (sync_size s).1
  have h2 := h1.readOf 0 a b c
  rw [z1] at h2
  have z2 := (readOf_alike s.sync.1 0 a b c).size
  have h3 := h2.readOf 1 a b c
  rw [z2, z1] at h3
  unfold openOf
  split
  · exact h.mono (by omega)
  split
  · exact h1.mono (by omega)
  split
  · exact h2.mono (by omega)
  split
  · exact h3.mono (by omega)
  split
  · exact h3.mono (by omega)
  split
  · exact h3.mono (by omega)
  · exact h3.mono (by omega)
theorem commit_ok {m : Nat} {s : St} (h : Ok m s) {l : List Int} (h8 : In8 l) (x : Sh) (a b c : Int) : Ok (m + many l.length s.size + 1 + 1 + 1) (commitOf s x a b c l).1 := by
  have h1 := lodge_ok h h8 (1 - x.which) a b c (x.seq + 1)
  unfold commitOf
  split
  · exact h.mono (by omega)
  split
  · exact h.mono (by omega)
  split
  · exact h.mono (by omega)
  split
  · exact h.mono (by omega)
  split
  · exact h1
  · exact h1
/-- a store into bytes -/
theorem _root_.Ks.Byt.set_ {w : World} {F : Nat → Prop} {g o n c : Nat} {l : List Int} (h : Byt w F (.slice (some ⟨g, o, none⟩) n c) l) (i : Nat) (hi : i < n) (x : Int) :
    Byt (w.setCell ⟨g, o + i, none⟩ (.int .u8 x)) F (.slice (some ⟨g, o, none⟩) n c) (l.set i x) ∧ w.frozen? ⟨g, o + i, none⟩ = false ∧ F g ∧ w.cell? ⟨g, o + i, none⟩ = some (.int .u8 (l.getD i 0)) := by
  obtain ⟨A, c', e, hc, hx⟩ := h
  injection e with e1 e2 e3
  subst e2 e3
  obtain ⟨b, o', e, hF, hcs⟩ := hx (by omega)
  rw [e] at e1
  injection e1 with e1
  injection e1 with e4 e5 e6
  subst e4 e5
  obtain ⟨hFg, cs, hb⟩ := hF
  refine ⟨⟨some ⟨g, o, none⟩, c, by rw [List.length_set], by rw [List.length_set]; exact hc, fun h0 => ⟨g, o, rfl, ⟨hFg, cs.setIfInBounds (o + i) (.int .u8 x), ?_⟩, fun k hk => ?_⟩⟩, ?_, hFg, hcs i hi⟩
  · simp [World.setCell, Array.getElem?_modify, hb]
  · rw [List.length_set] at hk
    have hck := hcs k hk
    by_cases hki : k = i
    · subst hki
      simp [go_sem, hck, List.getD, List.getElem?_set_self hi]
    · have hne : (⟨g, o + i, none⟩ : Addr) ≠ ⟨g, o + k, none⟩ := fun e => by injection e with _ e2; omega
      rw [World.cell?_setCell_other _ _ _ _ hne, hck]
      simp [List.getD, List.getElem?_set_ne (Ne.symm hki)]
  · simp [World.frozen?, hb]
abbrev z64 : List Int := List.replicate 64 0
theorem fac_one : fac 0 0 1 = z64 := by decide
theorem one_in8 : In8 (z64.set 3 1) := by
  intro v hv
  rcases List.mem_or_eq_of_mem_set hv with h | h
  · rw [List.eq_of_mem_replicate h]; omega
  · omega
theorem awake_plan : ∃ s1 s2 s3, formatOf (Dsk.fresh 32 (List.replicate 6 (List.replicate 32 0))) 0 0 1 = (s1, 0) ∧ openOf s1 0 0 1 = (s2, ⟨z64, 1, 0, false⟩, 0) ∧ commitOf s2 ⟨z64, 1, 0, false⟩ 0 0 1 (z64.set 3 1) = (s3, ⟨z64.set 3 1, 2, 1, false⟩, 0) ∧
    Ok 0 (Dsk.fresh 32 (List.replicate 6 (List.replicate 32 0))) ∧ Ok 10000 s1 ∧ Ok 10000 s2 ∧ s1.size = 32 ∧ s2.size = 32 := by
  have hm : many 64 32 = 2 := by decide
  have R0 : Room (Dsk.fresh 32 (List.replicate 6 (List.replicate 32 0))) 32 64 0 0 1 := ⟨rfl, by omega, by omega, by decide, by decide, by rw [hm]; simp [Dsk.fresh]⟩
  have O0 := ok_fresh 32 (List.replicate 6 (List.replicate 32 0)) 0 (new_in8 6 32) (by simp) (by omega)
  obtain ⟨s1, p1, n1, z1, l1, C1⟩ := format_fine (nofail_fresh 32 (List.replicate 6 (List.replicate 32 0))) R0
  rw [fac_one] at C1
  have R1 := R0.of z1 l1
  have O1 := format_ok O0 0 0 1
  rw [p1, fac_one] at O1
  obtain ⟨s2, p2, n2, z2, l2, V2⟩ := open_fine n1 R1 C1
  have R2 := R1.of z2 l2
  have C2 := C1.of_view R1 V2
  have O2 := open_ok_ O1 0 0 1
  rw [p2] at O2
  obtain ⟨s3, p3, _, _, _, _⟩ := commit_fine (l := z64.set 3 1) n2 R2 C2 (by decide) one_in8 (by decide) (by decide)
  refine ⟨s1, s2, s3, p1, p2, p3, O0, O1.mono ?_, O2.mono ?_, z1, z2.trans z1⟩
  · have e : many z64.length (Dsk.fresh 32 (List.replicate 6 (List.replicate 32 0))).size = 2 := by decide
    rw [e]; omega
  · have e : many z64.length (Dsk.fresh 32 (List.replicate 6 (List.replicate 32 0))).size = 2 := by decide
    have e2 : many (total 0 0 1).toNat s1.size = 2 := by rw [z1]; decide
    rw [e, e2]; omega
set_option maxHeartbeats 4000000 in
theorem awake_any (w : World) (hT : Tab w) : Calls Tryz.prog 10 #[] w fun e w' => e = .returned (.bool true) ∧ Below w.heap.size w w' := by
  obtain ⟨s1, s2, s3, p1, p2, p3, o0, o1, o2, z1, z2⟩ := awake_plan
  have HP1 := Lib.hid p1
  have HP2 := Lib.hid p2
  have HP3 := Lib.hid p3
  have HO0 := Lib.hid o0
  have HO1 := Lib.hid o1
  have HO2 := Lib.hid o2
  have HZ1 := Lib.hid z1
  have HZ2 := Lib.hid z2
  have HM := Lib.hid (show many (total 0 0 1).toNat 32 = 2 by decide)
  obtain ⟨g0, g1, g2⟩ := boxed w (.int .i64 0) (.int .i64 0) (.int .i64 1) 23
  have HGE := Lib.hid (And.intro g0 (And.intro g1 g2))
  have HB := Lib.hid (below_box w (.cells #[.int .i64 0, .int .i64 0, .int .i64 1] 23))
  have HT := Lib.hid (tab_below hT HB.out (tab_pos hT))
  clear p1 p2 p3 o0 o1 o2 z1 z2 hT
  go_enter Tryz.func10, Tryz.ntmps10
  go_wp2_with fail
  generalize w.alloc (.cells #[.int .i64 0, .int .i64 0, .int .i64 1] 23) = W at *
  refine (Dsk.new_ok W 6 32 (by omega) (by omega) (by omega)).mono ?_
  rintro e w1 ⟨p, rfl, hd1, hk1⟩
  have D1 := Lib.hid (Dk.start HT.out hk1 hd1)
  clear hd1 hk1 g0 g1 g2
  generalize Dsk.Grow No W w1 = F1 at *
  obtain ⟨g0, g1, g2⟩ := geo_below HGE.out D1.out.bel
  go_wp2_with fail
  refine (format_any w1 p 0 F1 _ s1 0 0 1 0 D1.out.tab D1.out.two_ D1.out.disk HO0.out (by decide) HP1.out).mono ?_
  rintro e w2 hd
  have D2 := Lib.hid (D1.out.done hd)
  obtain ⟨rfl, -⟩ := hd
  generalize Dsk.Grow F1 w1 w2 = F2 at *
  clear g0 g1 g2 D1
  obtain ⟨g0, g1, g2⟩ := geo_below HGE.out D2.out.bel
  go_wp2_with fail
  refine (open_any w2 p 10000 F2 s1 s2 _ 0 0 1 0 D2.out.tab D2.out.two_ D2.out.disk HO1.out (by rw [HZ1.out, HM.out]; omega) HP2.out).mono ?_
  rintro e w3 hd
  obtain ⟨F3, D3, hG3, hk3, hr⟩ := D2.out.opened hd
  rcases hr with ⟨h, _⟩ | ⟨_, q, hq, rfl, hs⟩
  · exact absurd rfl h
  have S3 := Lib.hid hs
  clear hd hs hG3 hk3 D3 hq D2 g0 g1 g2
  go_wp2_with fail
  refine (image_any S3.out.sh (by decide)).mono ?_
  rintro e w4 ⟨v, rfl, hv, hk4⟩
  obtain ⟨A, c4, rfl⟩ := hv.bys.form
  obtain ⟨g, o, rfl⟩ : ∃ g o, A = some ⟨g, o, none⟩ := by
    obtain ⟨A', c', e, _, hx⟩ := hv
    injection e with e1
    obtain ⟨b, o, e2, _⟩ := hx (by decide)
    exact ⟨b, o, e1.trans e2⟩
  rw [show (Sh.mk z64 1 0 false).img.length = 64 from rfl]
  have hv : Byt w4 (From w3.heap.size) (.slice (some ⟨g, o, none⟩) 64 c4) z64 := hv
  obtain ⟨hv5, hfz, hgF, hce⟩ := hv.set_ 3 (by omega) 1
  have S4 := Lib.hid (S3.out.below (hk4.below (fun b h => h.elim) (Nat.le_refl _)))
  have hk5 : Keeps No w3 (w4.setCell ⟨g, o + 3, none⟩ (.int .u8 1)) := hk4.set_ (p := ⟨g, o + 3, none⟩) (.inr hgF) _
  have S5 := Lib.hid (S3.out.below (hk5.below (fun b h => h.elim) (Nat.le_refl _)))
  have M5 := Lib.hid (show Mine (w4.setCell ⟨g, o + 3, none⟩ (.int .u8 1)) F3 q (.slice (some ⟨g, o, none⟩) 64 c4) (z64.set 3 1) from hv5.bys.mono fun b hb => ⟨fun h => by have := S3.out.dk.disk.there b h; unfold From at hb; omega, by have := S3.out.sh.lt; unfold From at hb; omega⟩)
  clear hv hv5 hk4 hk5 hgF
  go_wp2_with fail
  refine (seq_any S4.out.sh).mono ?_
  rintro e w' ⟨rfl, rfl⟩
  dsimp only
  go_wp2_with fail
  refine (which_any S4.out.sh).mono ?_
  rintro e w' ⟨rfl, rfl⟩
  dsimp only
  go_wp2_with fail
  generalize w4.setCell ⟨g, o + 3, none⟩ (.int .u8 1) = w5 at *
  refine (commit_any w5 p q 10000 F3 s2 s3 _ _ 0 0 1 0 _ (z64.set 3 1) S5.out.dk.tab S5.out.dk.two_ (Nat.le_trans S5.out.dk.two S5.out.qN) S5.out.dk.disk HO2.out (by rw [HZ2.out]; decide) S5.out.sh (by decide) (by decide) M5.out one_in8 (by decide) HP3.out).mono ?_
  rintro e w6 hd
  obtain ⟨rfl, hk6, F6, hs6, hG6⟩ := S5.out.commit hd
  have S6 := Lib.hid hs6
  have M6 := Lib.hid (M5.out.next hk6 (fun k h => h) hG6)
  clear hd hk6 hs6 hG6 S4 S5 M5 hfz hce
  go_wp2_with fail
  refine (seq_any S6.out.sh).mono ?_
  rintro e w' ⟨rfl, rfl⟩
  dsimp only
  go_wp2_with fail
  refine (which_any S6.out.sh).mono ?_
  rintro e w' ⟨rfl, rfl⟩
  dsimp only
  go_wp2_with fail
  refine (image_any S6.out.sh (by decide)).mono ?_
  rintro e w7 ⟨v, rfl, hv, hk7⟩
  obtain ⟨A7, c7, rfl⟩ := hv.bys.form
  have HV7 := Lib.hid hv.bys
  have hb7 := hk7.below (N := w6.heap.size) (fun b h => h.elim) (Nat.le_refl _)
  have S7 := Lib.hid (S6.out.below hb7)
  have M7 := Lib.hid (M6.out.below hb7)
  clear hv hk7 hb7 S6 M6
  rw [show (Sh.mk (z64.set 3 1) 2 1 false).img.length = 64 from rfl] at HV7 ⊢
  go_wp2_with fail
  refine (Dsk.same_any w7 _ _ _ _ (z64.set 3 1) (z64.set 3 1) HV7.out M7.out (by decide) (by decide)).mono ?_
  rintro e w8 ⟨rfl, k8, rfl⟩
  rw [decide_eq_true rfl]
  have S8 := Lib.hid (S7.out.below (below_drewN (Below.refl _ _) k8))
  clear S7 M7 HV7
  go_wp2_with fail
  refine (stale_any S8.out.sh).mono ?_
  rintro e w' ⟨rfl, rfl⟩
  dsimp only
  have HE := Lib.hid (HB.out.trans (S8.out.dk.bel.mono HB.out.size))
  go_wp2_with fail
  go_ret
  exact ⟨rfl, HE.out⟩
end Go.Proofs.YthlemcnbebfliaaGreatDoor
namespace Go.Proofs.YthlemcnbebfliaaGreatDoor
open Ks Go.RowKit
set_option maxRecDepth 20000

/-- Commit of another image, whatever fails -/
theorem commit_went {s : St} {z n : Nat} {a b c : Int} {x : Sh} {l : List Int} (hR : Room s z n a b c) (h : Cur s z n a b c x) (hl : l.length = n) (h8 : In8 l) (hq : x.seq < 18446744073709551615) (hne : l ≠ x.img) :
    ∃ s' er f x', commitOf s x a b c l = (s', x', er) ∧ Went s s' f ∧ s'.size = s.size ∧ s'.last.length = s.last.length ∧ s'.wr ≤ s.wr + many n z + 1 ∧
      ((er = 0 ∧ f = false ∧ x' = ⟨l, x.seq + 1, 1 - x.which, false⟩ ∧ Cur s' z n a b c ⟨l, x.seq + 1, 1 - x.which, false⟩ ∧ s'.ops = s.ops + many n z + 3 ∧ s'.wr = s.wr + many n z + 1 ∧ Flat s') ∨
       (er = 3 ∧ f = true ∧ x' = { x with stale := true } ∧ (Cur s' z n a b c x ∨ Cur s' z n a b c ⟨l, x.seq + 1, 1 - x.which, false⟩))) := by
  have hw : 1 - x.which = 0 ∨ 1 - x.which = 1 := by rcases h.wh with e | e <;> omega
  have hroom := hR.room
  obtain ⟨s', er, f, p, W, z', l', w', V, c'⟩ := lodge_went (q := x.seq + 1) hR hw hl (by have := h.slot.2.2; omega)
  have ec : commitOf s x a b c l = if er = 0 then (s', ⟨l, x.seq + 1, 1 - x.which, false⟩, 0) else (s', { x with stale := true }, er) := by
    unfold commitOf
    rw [if_neg (by rw [h.fresh]; decide), if_neg (by rw [hl]; exact fun h => h hR.tot), if_neg hne, if_neg (by omega), p]
  have e1 : 1 - (1 - x.which) = x.which := by omega
  have S0 : Slotted s' z n a b c x.which x.seq x.img := h.slot.of_view fun j h0 h1 => V j (by rcases at_cases (n := n) (z := z) h.wh with e | e <;> omega) (by rcases at_cases (n := n) (z := z) h.wh with e | e <;> omega) (by rcases at_cases (n := n) (z := z) h.wh with e | e <;> omega)
  have new : Slotted s' z n a b c (1 - x.which) (x.seq + 1) l → Cur s' z n a b c ⟨l, x.seq + 1, 1 - x.which, false⟩ := fun S => ⟨hw, S, by show Low s' z n a b c (1 - (1 - x.which)) (x.seq + 1); rw [e1]; exact S0.low hR.can (by omega), rfl, h8⟩
  rcases c' with ⟨rfl, hf, S, o, w, F⟩ | ⟨rfl, hf, S, _⟩ | ⟨rfl, hf, S, _⟩
  · exact ⟨s', 0, f, _, ec, W, z', l', w', .inl ⟨rfl, hf, rfl, new S, o, w, F⟩⟩
  · exact ⟨s', 3, f, _, ec, W, z', l', w', .inr ⟨rfl, hf, rfl, .inl ⟨h.wh, S0, h.low.of_view S, h.fresh, h.in8⟩⟩⟩
  · exact ⟨s', 3, f, _, ec, W, z', l', w', .inr ⟨rfl, hf, rfl, .inr (new S)⟩⟩
theorem commit_stale (s : St) (x : Sh) (a b c : Int) (l : List Int) (h : x.stale = true) : commitOf s x a b c l = (s, x, 11) := by
  unfold commitOf
  rw [if_pos h]
theorem commit_same {s : St} {x : Sh} {a b c : Int} (h : x.stale = false) (hl : (x.img.length : Int) = total a b c) : commitOf s x a b c x.img = (s, x, 0) := by
  unfold commitOf
  rw [if_neg (by rw [h]; decide), if_neg (fun h => h hl), if_pos rfl]
/-- the one that is planned -/
theorem fail_plan {s : St} (hf : NoFail s) {k : Int} (hk : (s.ops : Int) < k) : (s.fail k).size = s.size ∧ (s.fail k).last = s.last ∧ (s.fail k).cach = s.cach ∧ (s.fail k).ops = s.ops ∧ (s.fail k).wr = s.wr ∧ ∀ i, (s.fail k).plan i = decide (i = k) := by
  unfold St.fail
  rw [if_neg (by omega)]
  refine ⟨rfl, rfl, rfl, rfl, rfl, fun i => ?_⟩
  show (if i = k then true else s.plan i) = _
  by_cases h : i = k
  · rw [if_pos h, decide_eq_true h]
  · rw [if_neg h, decide_eq_false h, hf i]
/-- a new disk with room for both slots and one more -/
theorem fresh_Room {a b c : Int} {z n k : Nat} (hz : 32 ≤ z) (hz2 : z ≤ 131) (hr : right a b c = true) (hn : (n : Int) = total a b c) (h5 : n ≤ 500) (hk : 2 * spanOf z a b c + 1 = k) :
    k ≤ 4096 ∧ many n z ≤ 500 ∧ Room (Dsk.fresh z (List.replicate k (List.replicate z 0))) z n a b c := by
  have hb := many_bounds n z (by omega) (by omega)
  have hs := span_eq hr hz (by omega) hn
  refine ⟨by omega, by omega, rfl, hz, by omega, hr, hn, ?_⟩
  show 2 * (1 + (many n z : Nat) : Int) ≤ ((List.replicate k (List.replicate z (0 : Int))).length : Nat)
  rw [List.length_replicate]
  omega
/-- formatted and opened -/
theorem start_plan {a b c : Int} {z n k : Nat} (hz : 32 ≤ z) (hz2 : z ≤ 131) (hr : right a b c = true) (hn : (n : Int) = total a b c) (h5 : n ≤ 500) (hk : 2 * spanOf z a b c + 1 = k) :
    ∃ s1 s2, formatOf (Dsk.fresh z (List.replicate k (List.replicate z 0))) a b c = (s1, 0) ∧ openOf s1 a b c = (s2, ⟨fac a b c, 1, 0, false⟩, 0) ∧ NoFail s2 ∧ Room s1 z n a b c ∧ Room s2 z n a b c ∧ Cur s2 z n a b c ⟨fac a b c, 1, 0, false⟩ ∧
      Ok 0 (Dsk.fresh z (List.replicate k (List.replicate z 0))) ∧ Ok 1000 s1 ∧ Ok 3000 s2 ∧ (fac a b c).length = n := by
  obtain ⟨hk4, hm, R0⟩ := fresh_Room hz hz2 hr hn h5 hk
  have hfl : (fac a b c).length = n := by rw [fac_len hr]; omega
  have O0 : Ok 0 (Dsk.fresh z (List.replicate k (List.replicate z 0))) := ok_fresh z _ 0 (new_in8 k z) (by simpa using hk4) (by omega)
  obtain ⟨s1, p1, n1, z1, l1, C1⟩ := format_fine (nofail_fresh z (List.replicate k (List.replicate z 0))) R0
  have R1 := R0.of z1 l1
  have O1 := format_ok O0 a b c
  rw [p1, hfl, show (Dsk.fresh z (List.replicate k (List.replicate z 0))).size = z from rfl] at O1
  obtain ⟨s2, p2, n2, z2, l2, V2⟩ := open_fine n1 R1 C1
  have R2 := R1.of z2 l2
  have O2 := open_ok_ O1 a b c
  rw [p2, R1.size, show (total a b c).toNat = n by omega] at O2
  exact ⟨s1, s2, p1, p2, n2, R1, R2, C1.of_view R1 V2, O0, O1.mono (by omega), O2.mono (by omega), hfl⟩
theorem stale_plan {a b c : Int} {z n : Nat} {s : St} {l : List Int} {fl : Int} (hf : NoFail s) (hR : Room s z n a b c) (hC : Cur s z n a b c ⟨fac a b c, 1, 0, false⟩) (hO : Ok 3000 s) (hm : many n z ≤ 500) (hl : l.length = n) (h8 : In8 l) (hne : l ≠ fac a b c)
    (h0 : 0 ≤ fl) (h1 : fl < 3 + (many n z : Nat)) :
    ∃ s4 s5 s6 s7 y y', s.fail ((s.ops : Int) + 1 + fl) = s4 ∧ s4.ops = s.ops ∧ commitOf s4 ⟨fac a b c, 1, 0, false⟩ a b c l = (s5, ⟨fac a b c, 1, 0, true⟩, 3) ∧ openOf s5 a b c = (s6, y, 0) ∧ commitOf s6 y a b c l = (s7, y', 0) ∧ y'.img = l ∧ y'.stale = false ∧
      Ok 3001 s4 ∧ Ok 5000 s5 ∧ Ok 7000 s6 ∧ s4.size = z ∧ s5.size = z ∧ s6.size = z ∧ (0 ≤ y.seq ∧ y.seq < 18446744073709551616) ∧ (0 ≤ y.which ∧ y.which ≤ 1) ∧ y.img.length = n := by
  obtain ⟨g1, g2, g3, g4, g5, g6⟩ := fail_plan hf (k := (s.ops : Int) + 1 + fl) (by omega)
  have O4 := hO.fail ((s.ops : Int) + 1 + fl)
  generalize s.fail ((s.ops : Int) + 1 + fl) = s4 at *
  have R4 : Room s4 z n a b c := hR.of g1 (by rw [g2])
  have C4 : Cur s4 z n a b c ⟨fac a b c, 1, 0, false⟩ := hC.of_view hR (fun j _ _ => by unfold view; rw [g2, g3])
  have O5 := commit_ok O4 h8 ⟨fac a b c, 1, 0, false⟩ a b c
  obtain ⟨s5, er, f, x', p5, W5, z5, l5, _, c5⟩ := commit_went R4 C4 hl h8 (show (1 : Int) < 18446744073709551615 by decide) hne
  rw [p5, hl, R4.size] at O5
  have R5 := R4.of z5 l5
  rcases c5 with ⟨rfl, rfl, _, _, o5, _⟩ | ⟨rfl, rfl, rfl, hc⟩
  · have := W5.fine ((s.ops : Int) + 1 + fl) (by omega) (by omega) (fun h => by cases h)
    rw [g6] at this
    simp at this
  · obtain ⟨b1, b2⟩ := W5.bad rfl
    rw [g6] at b2
    have b2 : (s5.ops : Int) = (s.ops : Int) + 1 + fl := by simpa using b2
    have n5 : NoFail s5 := fun k => by
      rw [W5.plan, g6]
      by_cases hk : k = (s.ops : Int) + 1 + fl
      · rw [decide_eq_true hk, decide_eq_true (by omega), decide_eq_true (by omega)]; rfl
      · rw [decide_eq_false hk]; rfl
    have fin : ∀ y, Cur s5 z n a b c y → (0 ≤ y.seq ∧ y.seq < 18446744073709551615) → (y.img = l ∨ l ≠ y.img) → ∃ s6 s7 y', openOf s5 a b c = (s6, y, 0) ∧ commitOf s6 y a b c l = (s7, y', 0) ∧ y'.img = l ∧ y'.stale = false ∧ Ok 7000 s6 ∧ s6.size = z := fun y C hq hi => by
      obtain ⟨s6, p6, n6, z6, l6, V6⟩ := open_fine n5 R5 C
      have O6 := open_ok_ O5 a b c
      rw [p6, R5.size, show (total a b c).toNat = n by have := hR.tot; omega] at O6
      have C6 := C.of_view R5 V6
      have R6 := R5.of z6 l6
      rcases hi with hi | hi
      · subst hi
        exact ⟨s6, s6, y, p6, commit_same C.fresh (by rw [hl]; exact hR.tot), rfl, C.fresh, O6.mono (by omega), R6.size⟩
      · obtain ⟨s7, p7, _⟩ := commit_fine n6 R6 C6 hl h8 hq.2 hi
        exact ⟨s6, s7, _, p6, p7, rfl, rfl, O6.mono (by omega), R6.size⟩
    rcases hc with hc | hc
    · obtain ⟨s6, s7, y', p6, p7, h1, h2, h3, h4⟩ := fin _ hc (show (0 : Int) ≤ 1 ∧ (1 : Int) < 18446744073709551615 by decide) (.inr hne)
      exact ⟨s4, s5, s6, s7, _, y', rfl, g4, p5, p6, p7, h1, h2, O4, O5.mono (by omega), h3, R4.size, R5.size, h4, show (0 : Int) ≤ 1 ∧ (1 : Int) < 18446744073709551616 by decide, show (0 : Int) ≤ 0 ∧ (0 : Int) ≤ 1 by decide, hc.slot.2.1⟩
    · obtain ⟨s6, s7, y', p6, p7, h1, h2, h3, h4⟩ := fin _ hc (show (0 : Int) ≤ 1 + 1 ∧ (1 + 1 : Int) < 18446744073709551615 by decide) (.inl rfl)
      exact ⟨s4, s5, s6, s7, _, y', rfl, g4, p5, p6, p7, h1, h2, O4, O5.mono (by omega), h3, R4.size, R5.size, h4, show (0 : Int) ≤ 1 + 1 ∧ (1 + 1 : Int) < 18446744073709551616 by decide, show (0 : Int) ≤ 1 - 0 ∧ (1 - 0 : Int) ≤ 1 by decide, hc.slot.2.1⟩
end Go.Proofs.YthlemcnbebfliaaGreatDoor
