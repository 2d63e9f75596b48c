/-
  WHAT ShadowWrites DOES, OF DISKS AS VALUES.
-/
import Derived.Test.YthlemcnbebfliaaGreatDoorXStale
namespace Go.Proofs.YthlemcnbebfliaaGreatDoor
open Ks Go.RowKit
set_option maxRecDepth 20000

/-- every byte another one -/
abbrev flip1 (l : List Int) : List Int := l.map fun x => bits .xor .u8 x 1
theorem flip_in {l : List Int} (h : In8 l) : In8 (flip1 l) := fun v hv => by
  obtain ⟨x, hx, rfl⟩ := List.mem_map.1 hv
  exact (xor_byte 1 (.inr rfl) x (h x hx)).1
theorem flip_step {l : List Int} {k : Nat} (hk : k < l.length) : (flip1 (l.take k) ++ l.drop k).set k (bits .xor .u8 (l.getD k 0) 1) = flip1 (l.take (k + 1)) ++ l.drop (k + 1) := by
  have e1 : (flip1 (l.take k)).length = k := by simp; omega
  have e2 : l.getD k 0 = l[k] := by simp [List.getD, hk]
  rw [List.set_append_right _ _ (by rw [e1]; exact Nat.le_refl _), e1, Nat.sub_self, List.drop_eq_getElem_cons hk, List.set_cons_zero, List.take_succ_eq_append_getElem hk, flip1, flip1, List.map_append, List.append_assoc, e2]
  rfl
theorem flip_at {l : List Int} {k : Nat} (hk : k < l.length) : (flip1 (l.take k) ++ l.drop k).getD k 0 = l.getD k 0 := by
  have e1 : (flip1 (l.take k)).length = k := by simp; omega
  rw [List.getD, List.getElem?_append_right (by rw [e1]; exact Nat.le_refl _), e1, Nat.sub_self]
  simp [List.getD]
theorem writes_plan {a b c : Int} {z n : Nat} {s : St} {l : List Int} {fl : Int} (hf : NoFail s) (hR : Room s z n a b c) (hC : Cur s z n a b c ⟨fac a b c, 1, 0, false⟩) (hO : Ok 3000 s) (hm : many n z ≤ 500) (hl : l.length = n) (h8 : In8 l) (h0 : 0 ≤ fl) :
    ∃ s3 x3 s4 s5 x5 er, commitOf s ⟨fac a b c, 1, 0, false⟩ a b c l = (s3, x3, 0) ∧ ((l = fac a b c ∧ (s3.ops : Int) = s.ops) ∨ (l ≠ fac a b c ∧ (s3.wr : Int) = s.wr + (1 + (many n z : Nat)))) ∧ commitOf s3 x3 a b c l = (s3, x3, 0) ∧ s3.fail ((s3.ops : Int) + 1 + fl) = s4 ∧ s4.wr = s3.wr ∧ commitOf s4 x3 a b c (flip1 l) = (s5, x5, er) ∧ (er = 0 ∨ er = 3) ∧ (s5.wr : Int) ≤ s3.wr + (1 + (many n z : Nat)) ∧
      Ok 4000 s3 ∧ Ok 4001 s4 ∧ Ok 6000 s5 ∧ s3.size = z ∧ s4.size = z ∧ x3.img = l ∧ (0 ≤ x3.seq ∧ x3.seq < 18446744073709551616) ∧ (0 ≤ x3.which ∧ x3.which ≤ 1) := by
  have O3 := commit_ok hO h8 ⟨fac a b c, 1, 0, false⟩ a b c
  have first : ∃ s3 x3, commitOf s ⟨fac a b c, 1, 0, false⟩ a b c l = (s3, x3, 0) ∧ ((l = fac a b c ∧ (s3.ops : Int) = s.ops) ∨ (l ≠ fac a b c ∧ (s3.wr : Int) = s.wr + (1 + (many n z : Nat)))) ∧ NoFail s3 ∧ s3.size = s.size ∧ s3.last.length = s.last.length ∧ Cur s3 z n a b c x3 ∧ x3.img = l ∧ (1 ≤ x3.seq ∧ x3.seq ≤ 2) := by
    by_cases e : l = fac a b c
    · have p : commitOf s ⟨fac a b c, 1, 0, false⟩ a b c l = (s, ⟨fac a b c, 1, 0, false⟩, 0) := by
        rw [e]
        exact commit_same rfl (show ((fac a b c).length : Int) = _ by rw [← e, hl]; exact hR.tot)
      exact ⟨s, _, p, .inl ⟨e, rfl⟩, hf, rfl, rfl, hC, e.symm, show (1 : Int) ≤ 1 ∧ (1 : Int) ≤ 2 by decide⟩
    · obtain ⟨s3, er, f, x', p, W, z3, l3, w3, c3⟩ := commit_went hR hC hl h8 (show (1 : Int) < 18446744073709551615 by decide) e
      have n3 := W.nofail hf
      rcases c3 with ⟨rfl, hf', rfl, C3, _, w, _⟩ | ⟨_, hf', _⟩
      · exact ⟨s3, _, p, .inr ⟨e, by omega⟩, n3.2, z3, l3, C3, rfl, show (1 : Int) ≤ 1 + 1 ∧ (1 + 1 : Int) ≤ 2 by decide⟩
      · rw [n3.1] at hf'
        cases hf'
  obtain ⟨s3, x3, p3, c3, n3, z3, l3, C3, i3, q3⟩ := first
  rw [p3, hl, hR.size] at O3
  have R3 := hR.of z3 l3
  have hil : x3.img.length = n := by rw [i3]; exact hl
  obtain ⟨g1, g2, g3, g4, g5, g6⟩ := fail_plan n3 (k := (s3.ops : Int) + 1 + fl) (by omega)
  have O4 := Ok.fail O3 ((s3.ops : Int) + 1 + fl)
  obtain ⟨s4, h4⟩ : ∃ s4, s3.fail ((s3.ops : Int) + 1 + fl) = s4 := ⟨_, rfl⟩
  rw [h4] at g1 g2 g3 g4 g5 g6 O4
  have R4 : Room s4 z n a b c := R3.of g1 (by rw [g2])
  have C4 : Cur s4 z n a b c x3 := C3.of_view R3 (fun j _ _ => by unfold view; rw [g2, g3])
  have O5 := commit_ok O4 (flip_in h8) x3 a b c
  have again : commitOf s3 x3 a b c l = (s3, x3, 0) := by
    have := commit_same (s := s3) (x := x3) (a := a) (b := b) (c := c) C3.fresh (by rw [hil]; exact hR.tot)
    rwa [i3] at this
  have hwh : 0 ≤ x3.which ∧ x3.which ≤ 1 := by rcases C3.wh with e | e <;> omega
  have hfl : (flip1 l).length = n := by simp [hl]
  have last : ∃ s5 x5 er, commitOf s4 x3 a b c (flip1 l) = (s5, x5, er) ∧ (er = 0 ∨ er = 3) ∧ s5.wr ≤ s4.wr + many n z + 1 := by
    by_cases e : flip1 l = l
    · refine ⟨s4, x3, 0, ?_, .inl rfl, by omega⟩
      rw [e]
      have := commit_same (s := s4) (x := x3) (a := a) (b := b) (c := c) C4.fresh (by rw [hil]; exact hR.tot)
      rwa [i3] at this
    · obtain ⟨s5, er, f, x', p, W, z5, l5, w5, c5⟩ := commit_went R4 C4 hfl (flip_in h8) (by omega) (by rw [i3]; exact e)
      refine ⟨s5, x', er, p, ?_, w5⟩
      rcases c5 with h | h
      · exact .inl h.1
      · exact .inr h.1
  obtain ⟨s5, x5, er, p5, he, w5⟩ := last
  rw [p5, hfl, R4.size] at O5
  exact ⟨s3, x3, s4, s5, x5, er, p3, c3, again, h4, g5, p5, he, by rw [← g5]; omega, O3.mono (by omega), O4.mono (by omega), O5.mono (by omega), R3.size, R4.size, i3, by omega, hwh⟩
end Go.Proofs.YthlemcnbebfliaaGreatDoor
