/-
  WHAT A WRITE COMES TO, BY THE WRITES THAT WERE BEGUN.
-/
import Derived.Test.YtojdbmkbcjaikaaFRefV
namespace Go.Proofs.Ytojdbmkbcjaikaa
open Go.RowKit
set_option maxRecDepth 20000

/-- was a byte's Program begun? -/
def byteNext (l : List Wr) : Bool := decide (l.length = 3) && isW (l.getD 2 w0) 85 160
theorem seq_cases {k : Nat} {l : List Wr} (h : SeqFor k l) (hk : k ≤ 6) (x : Wr) :
    (k = 0 ∧ l.length = 0 ∧ byteNext l = false ∧ goesL (l ++ [x]) = isW x 85 170) ∨
    (k = 1 ∧ l.length = 1 ∧ byteNext l = false ∧ goesL (l ++ [x]) = isW x 170 85) ∨
    (k = 2 ∧ l.length = 2 ∧ byteNext l = false ∧ goesL (l ++ [x]) = (isW x 85 160 || (isW x 85 144 || isW x 85 128))) ∨
    (k = 3 ∧ l.length = 3 ∧ byteNext l = true ∧ goesL (l ++ [x]) = true) ∨
    (k = 4 ∧ l.length = 3 ∧ byteNext l = false ∧ goesL (l ++ [x]) = isW x 85 170) ∨
    (k = 5 ∧ l.length = 4 ∧ byteNext l = false ∧ goesL (l ++ [x]) = isW x 170 85) ∨
    (k = 6 ∧ l.length = 5 ∧ byteNext l = false ∧ goesL (l ++ [x]) = (x.v == 48 || isW x 85 16)) := by
  have : k = 0 ∨ k = 1 ∨ k = 2 ∨ k = 3 ∨ k = 4 ∨ k = 5 ∨ k = 6 := by omega
  rcases this with rfl | rfl | rfl | rfl | rfl | rfl | rfl
  · obtain rfl : l = [] := h
    refine .inl ⟨rfl, rfl, rfl, ?_⟩
    simp [goesL, keyL]
  · obtain ⟨y, rfl, hy⟩ : ∃ y, l = [y] ∧ isW y 85 170 = true := h
    refine .inr (.inl ⟨rfl, rfl, rfl, ?_⟩)
    simp [goesL, keyL, hy]
  · obtain ⟨y, z, rfl, hy, hz⟩ : ∃ x y, l = [x, y] ∧ isW x 85 170 = true ∧ isW y 170 85 = true := h
    refine .inr (.inr (.inl ⟨rfl, rfl, rfl, ?_⟩))
    simp [goesL, keyL, hy, hz]
  · obtain ⟨y, z, c, rfl, hy, hz, hc⟩ : ∃ x y c, l = [x, y, c] ∧ isW x 85 170 = true ∧ isW y 170 85 = true ∧ isW c 85 160 = true := h
    refine .inr (.inr (.inr (.inl ⟨rfl, rfl, by simp [byteNext, hc], ?_⟩)))
    simp [goesL, keyL, hy, hz, hc]
  · obtain ⟨y, z, c, rfl, hy, hz, hc⟩ : ∃ x y c, l = [x, y, c] ∧ isW x 85 170 = true ∧ isW y 170 85 = true ∧ isW c 85 128 = true := h
    have h1 : isW c 85 160 = false := isW_not hc (by decide)
    have h2 : isW c 85 144 = false := isW_not hc (by decide)
    refine .inr (.inr (.inr (.inr (.inl ⟨rfl, rfl, by simp [byteNext, h1], ?_⟩))))
    simp [goesL, keyL, hy, hz, hc, h1, h2]
  · obtain ⟨y, z, c, u, rfl, hy, hz, hc, hu⟩ : ∃ x y c u, l = [x, y, c, u] ∧ isW x 85 170 = true ∧ isW y 170 85 = true ∧ isW c 85 128 = true ∧ isW u 85 170 = true := h
    have h1 : isW c 85 160 = false := isW_not hc (by decide)
    have h2 : isW c 85 144 = false := isW_not hc (by decide)
    refine .inr (.inr (.inr (.inr (.inr (.inl ⟨rfl, rfl, by simp [byteNext], ?_⟩)))))
    simp [goesL, keyL, hy, hz, hc, hu, h1, h2]
  · obtain ⟨y, z, c, u, v, rfl, hy, hz, hc, hu, hv⟩ : ∃ x y c u v, l = [x, y, c, u, v] ∧ isW x 85 170 = true ∧ isW y 170 85 = true ∧ isW c 85 128 = true ∧ isW u 85 170 = true ∧ isW v 170 85 = true := h
    have h1 : isW c 85 160 = false := isW_not hc (by decide)
    have h2 : isW c 85 144 = false := isW_not hc (by decide)
    refine .inr (.inr (.inr (.inr (.inr (.inr ⟨rfl, rfl, by simp [byteNext], ?_⟩)))))
    simp [goesL, keyL, hy, hz, hc, hu, hv, h1, h2]
section
variable {s : Flash} {l : List Wr} {x : Wr}
/-- f0, and no byte is to be programmed -/
theorem out_f0 (h : SeqFor s.k l) (hk : s.k ≤ 6) (hv : x.v = 240) (hb : byteNext l = false) : s.put x.a x.v = s.ends 240 := by
  have hn : ∀ low v : Int, v ≠ 240 → isW x low v = false := fun low v h => by rw [isW_false]; omega
  rcases seq_cases h hk x with ⟨e, _, _, _⟩ | ⟨e, _, _, _⟩ | ⟨e, _, _, _⟩ | ⟨e, _, h1, _⟩ | ⟨e, _, _, _⟩ | ⟨e, _, _, _⟩ | ⟨e, _, _, _⟩
  · rw [put0 e, hn 85 170 (by decide), hv]; rfl
  · rw [put1 e, hn 170 85 (by decide), hv]; rfl
  · rw [put2 e, hn 85 160 (by decide), hn 85 128 (by decide), hn 85 144 (by decide), hv]; rfl
  · rw [hb] at h1; cases h1
  · rw [put4 e, hn 85 170 (by decide), hv]; rfl
  · rw [put5 e, hn 170 85 (by decide), hv]; rfl
  · rw [put6 e, hn 85 16 (by decide), if_neg (by omega), hv]; rfl
/-- it doesn't fit -/
theorem out_no (h : SeqFor s.k l) (hk : s.k ≤ 6) (hr : goesL (l ++ [x]) = false) : s.put x.a x.v = s.ends x.v := by
  rcases seq_cases h hk x with ⟨e, _, _, hg⟩ | ⟨e, _, _, hg⟩ | ⟨e, _, _, hg⟩ | ⟨e, _, h1, hg⟩ | ⟨e, _, _, hg⟩ | ⟨e, _, _, hg⟩ | ⟨e, _, _, hg⟩ <;> rw [hr] at hg
  · rw [put0 e, ← hg]; rfl
  · rw [put1 e, ← hg]; rfl
  · have h1 : isW x 85 160 = false := by cases hq : isW x 85 160 <;> simp [hq] at hg ⊢
    have h2 : isW x 85 144 = false := by cases hq : isW x 85 144 <;> simp [hq] at hg ⊢
    have h3 : isW x 85 128 = false := by cases hq : isW x 85 128 <;> simp [hq] at hg ⊢
    rw [put2 e, h1, h2, h3]; rfl
  · cases hg
  · rw [put4 e, ← hg]; rfl
  · rw [put5 e, ← hg]; rfl
  · have h1 : (x.v == 48) = false := by cases hq : (x.v == 48) <;> simp [hq] at hg ⊢
    have h2 : isW x 85 16 = false := by cases hq : isW x 85 16 <;> simp [hq] at hg ⊢
    rw [put6 e, if_neg (by simpa using h1), h2]; rfl
/-- it identifies itself -/
theorem out_name (h : SeqFor s.k l) (hk : s.k ≤ 6) (hr : goesL (l ++ [x]) = true) (hl : l.length = 2) (hv : x.v = 144) : s.put x.a x.v = { s with k := 0, named := true } := by
  have hn : ∀ low v : Int, v ≠ 144 → isW x low v = false := fun low v h => by rw [isW_false]; omega
  rcases seq_cases h hk x with ⟨e, q, _, hg⟩ | ⟨e, q, _, hg⟩ | ⟨e, q, _, hg⟩ | ⟨e, q, h1, hg⟩ | ⟨e, q, _, hg⟩ | ⟨e, q, _, hg⟩ | ⟨e, q, _, hg⟩ <;> try omega
  rw [hr, hn 85 160 (by decide), hn 85 128 (by decide)] at hg
  rw [put2 e, hn 85 160 (by decide), hn 85 128 (by decide)]
  have : isW x 85 144 = true := by simpa using hg.symm
  rw [this]
  rfl
theorem out_byte (h : SeqFor s.k l) (hk : s.k ≤ 6) (hb : byteNext l = true) : s.put x.a x.v = s.busy 10 1 x.a 1 x.v := by
  rcases seq_cases h hk x with ⟨e, _, h1, _⟩ | ⟨e, _, h1, _⟩ | ⟨e, _, h1, _⟩ | ⟨e, _, _, _⟩ | ⟨e, _, h1, _⟩ | ⟨e, _, h1, _⟩ | ⟨e, _, h1, _⟩ <;> try (rw [hb] at h1; cases h1)
  exact put3 e
theorem go_byte (h : SeqFor s.k l) (hk : s.k ≤ 6) (hb : byteNext l = true) : l.length = 3 ∧ goesL (l ++ [x]) = true := by
  rcases seq_cases h hk x with ⟨e, _, h1, _⟩ | ⟨e, _, h1, _⟩ | ⟨e, _, h1, _⟩ | ⟨e, h2, _, h3⟩ | ⟨e, _, h1, _⟩ | ⟨e, _, h1, _⟩ | ⟨e, _, h1, _⟩ <;> try (rw [hb] at h1; cases h1)
  exact ⟨h2, h3⟩
theorem out_sector (h : SeqFor s.k l) (hk : s.k ≤ 6) (hl : l.length = 5) (hv : x.v = 48) : s.put x.a x.v = s.busy 100 2 (x.a - x.a % 256) 256 0 := by
  rcases seq_cases h hk x with ⟨e, q, _, hg⟩ | ⟨e, q, _, hg⟩ | ⟨e, q, _, hg⟩ | ⟨e, q, h1, hg⟩ | ⟨e, q, _, hg⟩ | ⟨e, q, _, hg⟩ | ⟨e, q, _, hg⟩ <;> try omega
  rw [put6 e, if_pos hv]
theorem out_all (h : SeqFor s.k l) (hk : s.k ≤ 6) (hr : goesL (l ++ [x]) = true) (hl : l.length = 5) (hv : x.v ≠ 48) : x.v = 16 ∧ s.put x.a x.v = s.busy 200 2 0 s.size 0 := by
  rcases seq_cases h hk x with ⟨e, q, _, hg⟩ | ⟨e, q, _, hg⟩ | ⟨e, q, _, hg⟩ | ⟨e, q, h1, hg⟩ | ⟨e, q, _, hg⟩ | ⟨e, q, _, hg⟩ | ⟨e, q, _, hg⟩ <;> try omega
  rw [hr, show (x.v == 48) = false by simp [hv]] at hg
  have h1 : isW x 85 16 = true := by simpa using hg.symm
  exact ⟨(isW_true.1 h1).2, by rw [put6 e, if_neg hv, h1]; rfl⟩
/-- it goes on -/
theorem out_on (h : SeqFor s.k l) (hk : s.k ≤ 6) (hr : goesL (l ++ [x]) = true) (hb : byteNext l = false) (hl : l.length ≠ 5) (hv : ¬ (l.length = 2 ∧ x.v = 144)) : ∃ k, k ≠ 0 ∧ s.put x.a x.v = { s with k := k } := by
  rcases seq_cases h hk x with ⟨e, q, _, hg⟩ | ⟨e, q, _, hg⟩ | ⟨e, q, _, hg⟩ | ⟨e, q, h1, hg⟩ | ⟨e, q, _, hg⟩ | ⟨e, q, _, hg⟩ | ⟨e, q, _, hg⟩ <;> try omega
  · rw [hr] at hg; rw [put0 e, ← hg]; exact ⟨1, by decide, rfl⟩
  · rw [hr] at hg; rw [put1 e, ← hg]; exact ⟨2, by decide, rfl⟩
  · have h3 : isW x 85 144 = false := by rw [isW_false]; omega
    rw [hr, h3] at hg
    rw [put2 e, h3]
    cases h1 : isW x 85 160
    · have h2 : isW x 85 128 = true := by rw [h1] at hg; simpa using hg.symm
      rw [h2]
      exact ⟨4, by decide, rfl⟩
    · exact ⟨3, by decide, rfl⟩
  · rw [hb] at h1; cases h1
  · rw [hr] at hg; rw [put4 e, ← hg]; exact ⟨5, by decide, rfl⟩
  · rw [hr] at hg; rw [put5 e, ← hg]; exact ⟨6, by decide, rfl⟩
end
end Go.Proofs.Ytojdbmkbcjaikaa
