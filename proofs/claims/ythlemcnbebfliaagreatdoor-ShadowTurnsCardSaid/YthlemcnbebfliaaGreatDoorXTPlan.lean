/-
  WHAT A ROUND OF ShadowTurns DOES, OF DISKS AS VALUES; a shadow's number and slot behind any draws.
-/
import Derived.Test.YthlemcnbebfliaaGreatDoorXStale
namespace Go.Proofs.YthlemcnbebfliaaGreatDoor
open Ks Go.RowKit
set_option maxRecDepth 20000

theorem getD_mem {L : List (List Int)} {k : Nat} (h : k < L.length) : L.getD k [] ∈ L := by
  have e : L.getD k [] = L[k] := by simp [List.getD, h]
  rw [e]
  exact List.getElem_mem h
theorem turn_plan {a b c : Int} {z n m : Nat} {s : St} {x : Sh} {l : List Int} (hf : NoFail s) (hR : Room s z n a b c) (hC : Cur s z n a b c x) (hO : Ok m s) (hm : many n z ≤ 500) (hl : l.length = n) (h8 : In8 l) (hq : x.seq < 1000) :
    ∃ s3 x3 s4, commitOf s x a b c l = (s3, x3, 0) ∧ x3.img = l ∧ ((l = x.img ∧ x3.seq = x.seq ∧ x3.which = x.which) ∨ (l ≠ x.img ∧ x3.seq = x.seq + 1 ∧ x3.which = 1 - x.which)) ∧ openOf s3 a b c = (s4, x3, 0) ∧
      Ok (m + 600) s3 ∧ s3.size = z ∧ NoFail s4 ∧ Room s4 z n a b c ∧ Cur s4 z n a b c x3 ∧ Ok (m + 2000) s4 ∧ x3.stale = false := by
  have O3 := commit_ok hO h8 x a b c
  have first : ∃ s3 x3, commitOf s x a b c l = (s3, x3, 0) ∧ x3.img = l ∧ ((l = x.img ∧ x3.seq = x.seq ∧ x3.which = x.which) ∨ (l ≠ x.img ∧ x3.seq = x.seq + 1 ∧ x3.which = 1 - x.which)) ∧ NoFail s3 ∧ s3.size = s.size ∧ s3.last.length = s.last.length ∧ Cur s3 z n a b c x3 := by
    by_cases e : l = x.img
    · subst e
      exact ⟨s, x, commit_same hC.fresh (by rw [hl]; exact hR.tot), rfl, .inl ⟨rfl, rfl, rfl⟩, hf, rfl, rfl, hC⟩
    · obtain ⟨s3, p3, n3, z3, l3, C3⟩ := commit_fine hf hR hC hl h8 (by omega) e
      exact ⟨s3, _, p3, rfl, .inr ⟨e, rfl, rfl⟩, n3, z3, l3, C3⟩
  obtain ⟨s3, x3, p3, i3, c3, n3, z3, l3, C3⟩ := first
  rw [p3, hl, hR.size] at O3
  have R3 := hR.of z3 l3
  obtain ⟨s4, p4, n4, z4, l4, V4⟩ := open_fine n3 R3 C3
  have O4 := open_ok_ O3 a b c
  rw [p4, R3.size, show (total a b c).toNat = n by have := hR.tot; omega] at O4
  exact ⟨s3, x3, s4, p3, i3, c3, p4, O3.mono (by omega), R3.size, n4, R3.of z4 l4, C3.of_view R3 V4, O4.mono (by omega), C3.fresh⟩
section
variable {W : World} {p q : Nat} {F : Nat → Prop} {a b c : Int} {x : Sh}
theorem seq_in (h : ShAt W q p F a b c x) (r : Regrown) : Calls Tryz.prog 33 #[.pointer (some ⟨q, 0, none⟩)] (In W r) fun e w'' => e = .returned (.int .u64 x.seq) ∧ ∃ r : Regrown, w'' = In W r := by
  apply Calls.regrown_of
  exact (seq_any (h.below (in_below W r))).mono fun _ _ h => ⟨h.1, h.2 ▸ Below.refl _ _⟩
theorem which_in (h : ShAt W q p F a b c x) (r : Regrown) : Calls Tryz.prog 34 #[.pointer (some ⟨q, 0, none⟩)] (In W r) fun e w'' => e = .returned (.int .i64 x.which) ∧ ∃ r : Regrown, w'' = In W r := by
  apply Calls.regrown_of
  exact (which_any (h.below (in_below W r))).mono fun _ _ h => ⟨h.1, h.2 ▸ Below.refl _ _⟩
end
/-- a shadow behind k rounds -/
def TurnAt (N : Nat) (w W : World) (p q : Nat) (a b c : Int) (z n k : Nat) : Prop :=
  ∃ F s x, Sw N w W p q F s a b c x ∧ Cur s z n a b c x ∧ NoFail s ∧ Room s z n a b c ∧ Ok (3000 + 2000 * k) s ∧ 1 ≤ x.seq ∧ x.seq ≤ 1 + (k : Int)
end Go.Proofs.YthlemcnbebfliaaGreatDoor
