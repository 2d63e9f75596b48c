/-
  THE DOCUMENT'S SEQUENCE BESIDE THE CHIP'S STEP.
-/
import Derived.Test.YtojdbmkbcjaikaaFVals
import Derived.Test.YtojdbmkbcjaikaaFRefG
namespace Go.Proofs.Ytojdbmkbcjaikaa
open Go.RowKit
set_option maxRecDepth 20000

/-- the writes that were begun tell which step comes next -/
def SeqFor (k : Nat) (l : List Wr) : Prop :=
  if k = 0 then l = []
  else if k = 1 then ∃ x, l = [x] ∧ isW x 85 170 = true
  else if k = 2 then ∃ x y, l = [x, y] ∧ isW x 85 170 = true ∧ isW y 170 85 = true
  else if k = 3 then ∃ x y c, l = [x, y, c] ∧ isW x 85 170 = true ∧ isW y 170 85 = true ∧ isW c 85 160 = true
  else if k = 4 then ∃ x y c, l = [x, y, c] ∧ isW x 85 170 = true ∧ isW y 170 85 = true ∧ isW c 85 128 = true
  else if k = 5 then ∃ x y c u, l = [x, y, c, u] ∧ isW x 85 170 = true ∧ isW y 170 85 = true ∧ isW c 85 128 = true ∧ isW u 85 170 = true
  else ∃ x y c u v, l = [x, y, c, u, v] ∧ isW x 85 170 = true ∧ isW y 170 85 = true ∧ isW c 85 128 = true ∧ isW u 85 170 = true ∧ isW v 170 85 = true
/-- the writes that are begun behind a write -/
def seqNext (s : Flash) (l : List Wr) (x : Wr) : List Wr := if (s.put x.a x.v).k = 0 then [] else l ++ [x]
theorem isW_true {x : Wr} {low v : Int} : isW x low v = true ↔ x.a % 256 = low ∧ x.v = v := by simp [isW]
theorem isW_false {x : Wr} {low v : Int} : isW x low v = false ↔ ¬ (x.a % 256 = low ∧ x.v = v) := by
  rw [← isW_true]
  simp
theorem isW_not {x : Wr} {low v v' : Int} (h : isW x low v = true) (hv : v ≠ v') : isW x low v' = false := by
  rw [isW_false]
  rw [isW_true] at h
  omega
section
variable {s : Flash} {x : Wr} {l : List Wr}
theorem put0 (hk : s.k = 0) : s.put x.a x.v = if isW x 85 170 then { s with k := 1 } else s.ends x.v := by
  unfold Flash.put
  rw [if_neg (by omega), if_neg (by omega), if_neg (by omega)]
  unfold Flash.exact
  rw [hk]
  show (if x.a % 256 = 85 ∧ x.v = 170 then _ else _) = _
  simp only [isW_true]
theorem put1 (hk : s.k = 1) : s.put x.a x.v = if isW x 170 85 then { s with k := 2 } else s.ends x.v := by
  unfold Flash.put
  rw [if_neg (by omega), if_neg (by omega), if_neg (by omega)]
  unfold Flash.exact
  rw [hk]
  show (if x.a % 256 = 170 ∧ x.v = 85 then _ else _) = _
  simp only [isW_true]
theorem put4 (hk : s.k = 4) : s.put x.a x.v = if isW x 85 170 then { s with k := 5 } else s.ends x.v := by
  unfold Flash.put
  rw [if_neg (by omega), if_neg (by omega), if_neg (by omega)]
  unfold Flash.exact
  rw [hk]
  show (if x.a % 256 = 85 ∧ x.v = 170 then _ else _) = _
  simp only [isW_true]
theorem put5 (hk : s.k = 5) : s.put x.a x.v = if isW x 170 85 then { s with k := 6 } else s.ends x.v := by
  unfold Flash.put
  rw [if_neg (by omega), if_neg (by omega), if_neg (by omega)]
  unfold Flash.exact
  rw [hk]
  show (if x.a % 256 = 170 ∧ x.v = 85 then _ else _) = _
  simp only [isW_true]
theorem put2 (hk : s.k = 2) : s.put x.a x.v = if isW x 85 160 then { s with k := 3 } else if isW x 85 128 then { s with k := 4 } else if isW x 85 144 then { s with k := 0, named := true } else s.ends x.v := by
  unfold Flash.put
  rw [if_pos hk]
  unfold Flash.command
  simp only [isW_true]
  by_cases h : x.a % 256 = 85
  · simp only [h, true_and, if_true]
  · simp only [h, false_and, if_false]
theorem put3 (hk : s.k = 3) : s.put x.a x.v = s.busy 10 1 x.a 1 x.v := by
  unfold Flash.put
  rw [if_neg (by omega), if_pos hk]
theorem put6 (hk : s.k = 6) : s.put x.a x.v = if x.v = 48 then s.busy 100 2 (x.a - x.a % 256) 256 0 else if isW x 85 16 then s.busy 200 2 0 s.size 0 else s.ends x.v := by
  unfold Flash.put
  rw [if_neg (by omega), if_neg (by omega), if_pos hk]
  unfold Flash.erase
  simp only [isW_true]
  by_cases h : x.v = 48
  · rw [if_pos h, if_pos h]
  · rw [if_neg h, if_neg h]
    by_cases h1 : x.v = 16 ∧ x.a % 256 = 85
    · rw [if_pos h1, if_pos ⟨h1.2, h1.1⟩]
    · rw [if_neg h1, if_neg fun e => h1 ⟨e.2, e.1⟩]
end
theorem seq_len {k : Nat} {l : List Wr} (h : SeqFor k l) : l.length ≤ 5 := by
  unfold SeqFor at h
  repeat' split at h
  · rw [h]; decide
  · obtain ⟨x, rfl, _⟩ := h; simp
  · obtain ⟨x, y, rfl, _⟩ := h; simp
  · obtain ⟨x, y, c, rfl, _⟩ := h; simp
  · obtain ⟨x, y, c, rfl, _⟩ := h; simp
  · obtain ⟨x, y, c, u, rfl, _⟩ := h; simp
  · obtain ⟨x, y, c, u, v, rfl, _⟩ := h; simp
theorem seq_next {s : Flash} {l : List Wr} (x : Wr) (h : SeqFor s.k l) (hk : s.k ≤ 6) : SeqFor (s.put x.a x.v).k (seqNext s l x) := by
  have hz : ∀ s' : Flash, s.put x.a x.v = s' → s'.k = 0 → SeqFor (s.put x.a x.v).k (seqNext s l x) := fun s' e h0 => by
    unfold seqNext
    rw [e, h0, if_pos rfl]
    rfl
  have hnz : ∀ s' : Flash, s.put x.a x.v = s' → s'.k ≠ 0 → SeqFor s'.k (l ++ [x]) → SeqFor (s.put x.a x.v).k (seqNext s l x) := fun s' e h0 h1 => by
    unfold seqNext
    rw [e, if_neg h0]
    exact h1
  have : s.k = 0 ∨ s.k = 1 ∨ s.k = 2 ∨ s.k = 3 ∨ s.k = 4 ∨ s.k = 5 ∨ s.k = 6 := by omega
  rcases this with e | e | e | e | e | e | e <;> rw [e] at h
  · obtain rfl : l = [] := h
    by_cases hx : isW x 85 170 = true
    · exact hnz _ ((put0 e).trans (if_pos hx)) (by show (1 : Nat) ≠ 0; decide) ⟨x, rfl, hx⟩
    · exact hz _ ((put0 e).trans (if_neg hx)) rfl
  · obtain ⟨y, rfl, hy⟩ : ∃ y, l = [y] ∧ isW y 85 170 = true := h
    by_cases hx : isW x 170 85 = true
    · exact hnz _ ((put1 e).trans (if_pos hx)) (by show (2 : Nat) ≠ 0; decide) ⟨y, x, rfl, hy, hx⟩
    · exact hz _ ((put1 e).trans (if_neg hx)) rfl
  · obtain ⟨y, z, rfl, hy, hzz⟩ : ∃ x y, l = [x, y] ∧ isW x 85 170 = true ∧ isW y 170 85 = true := h
    by_cases h1 : isW x 85 160 = true
    · exact hnz _ ((put2 e).trans (if_pos h1)) (by show (3 : Nat) ≠ 0; decide) ⟨y, z, x, rfl, hy, hzz, h1⟩
    · by_cases h2 : isW x 85 128 = true
      · exact hnz _ ((put2 e).trans ((if_neg h1).trans (if_pos h2))) (by show (4 : Nat) ≠ 0; decide) ⟨y, z, x, rfl, hy, hzz, h2⟩
      · by_cases h3 : isW x 85 144 = true
        · exact hz _ ((put2 e).trans ((if_neg h1).trans ((if_neg h2).trans (if_pos h3)))) rfl
        · exact hz _ ((put2 e).trans ((if_neg h1).trans ((if_neg h2).trans (if_neg h3)))) rfl
  · exact hz _ (put3 e) rfl
  · obtain ⟨y, z, c, rfl, hy, hzz, hc⟩ : ∃ x y c, l = [x, y, c] ∧ isW x 85 170 = true ∧ isW y 170 85 = true ∧ isW c 85 128 = true := h
    by_cases hx : isW x 85 170 = true
    · exact hnz _ ((put4 e).trans (if_pos hx)) (by show (5 : Nat) ≠ 0; decide) ⟨y, z, c, x, rfl, hy, hzz, hc, hx⟩
    · exact hz _ ((put4 e).trans (if_neg hx)) rfl
  · obtain ⟨y, z, c, u, rfl, hy, hzz, hc, hu⟩ : ∃ x y c u, l = [x, y, c, u] ∧ isW x 85 170 = true ∧ isW y 170 85 = true ∧ isW c 85 128 = true ∧ isW u 85 170 = true := h
    by_cases hx : isW x 170 85 = true
    · exact hnz _ ((put5 e).trans (if_pos hx)) (by show (6 : Nat) ≠ 0; decide) ⟨y, z, c, u, x, rfl, hy, hzz, hc, hu, hx⟩
    · exact hz _ ((put5 e).trans (if_neg hx)) rfl
  · by_cases h1 : x.v = 48
    · exact hz _ ((put6 e).trans (if_pos h1)) rfl
    · by_cases h2 : isW x 85 16 = true
      · exact hz _ ((put6 e).trans ((if_neg h1).trans (if_pos h2))) rfl
      · exact hz _ ((put6 e).trans ((if_neg h1).trans (if_neg h2))) rfl
end Go.Proofs.Ytojdbmkbcjaikaa
