/-
  THE PLAIN MATHEMATICS OF HEADS: what is encoded is decoded, what is decoded is encoded as it was, what differs within 32 bits isn't decoded.
-/
import Derived.Test.YtpbhkkcboppdmaaDoorHDec
namespace Go.Proofs.YtpbhkkcboppdmaaDoor
open Ks Go.RowKit

theorem part_mid (x y z : List Int) {o k : Nat} (ho : x.length = o) (hk : y.length = k) : Ks.part (x ++ (y ++ z)) o k = y := by
  subst ho hk
  unfold Ks.part
  rw [List.drop_left, List.take_left]
theorem can_le {a b c n : Int} (h : can a b c n = true) : num (le 1 a) = a ∧ num (le 1 b) = b ∧ num (le 1 c) = c ∧ num (le 4 n) = n := by
  obtain ⟨h1, h2, h3, h4⟩ := can_in h
  exact ⟨num_le 1 a h1.1 (by simp; omega), num_le 1 b h2.1 (by simp; omega), num_le 1 c h3.1 (by simp; omega), num_le 4 n h4.1 (by simp; omega)⟩
theorem dec_enc (a b c n q s : Int) (m : List Int) (hc : can a b c n = true) (hq : 0 ≤ q ∧ q < 18446744073709551616) (hs : 0 ≤ s ∧ s < 4294967296) :
    decErr (enc a b c n q s ++ m) = 0 ∧ decH (enc a b c n q s ++ m) = headV a b c n q s := by
  obtain ⟨n1, n2, n3, n4⟩ := can_le hc
  have n5 : num (le 8 q) = q := num_le 8 q hq.1 (by simpa using hq.2)
  have n6 : num (le 4 s) = s := num_le 4 s hs.1 (by simpa using hs.2)
  have hz := sumOf_in (body a b c n q s)
  have n7 : num (le 4 (sumOf (body a b c n q s))) = sumOf (body a b c n q s) := num_le 4 _ hz.1 (by simpa using hz.2)
  have p0 : Ks.part (enc a b c n q s ++ m) 0 4 = keep := by
    have e : enc a b c n q s ++ m = [] ++ (keep ++ (le 1 1 ++ (le 1 a ++ (le 1 b ++ (le 1 c ++ (le 4 n ++ (le 8 q ++ (le 4 s ++ (le 4 (sumOf (body a b c n q s)) ++ m))))))))) := by
      conv => lhs; rw [enc]; arg 1; arg 1; rw [body]
      simp only [List.append_assoc, List.nil_append]
    rw [e]; exact part_mid _ _ _ rfl rfl
  have e4 : enc a b c n q s ++ m = keep ++ ([1] ++ (le 1 a ++ (le 1 b ++ (le 1 c ++ (le 4 n ++ (le 8 q ++ (le 4 s ++ (le 4 (sumOf (body a b c n q s)) ++ m)))))))) := by
    conv => lhs; rw [enc]; arg 1; arg 1; rw [body]
    rw [le_one 1 (by omega)]
    simp only [List.append_assoc]
  have p4 : (enc a b c n q s ++ m).getD 4 0 = 1 := by rw [e4]; rfl
  have p5 : Ks.part (enc a b c n q s ++ m) 5 1 = le 1 a := by
    rw [e4, ← List.append_assoc keep]; exact part_mid _ _ _ rfl (le_len _ _)
  have p6 : Ks.part (enc a b c n q s ++ m) 6 1 = le 1 b := by
    rw [e4, ← List.append_assoc keep, ← List.append_assoc (keep ++ [1])]; exact part_mid _ _ _ (by simp [keep, le_len]) (le_len _ _)
  have p7 : Ks.part (enc a b c n q s ++ m) 7 1 = le 1 c := by
    rw [e4, ← List.append_assoc keep, ← List.append_assoc (keep ++ [1]), ← List.append_assoc (keep ++ [1] ++ le 1 a)]; exact part_mid _ _ _ (by simp [keep, le_len]) (le_len _ _)
  have p8 : Ks.part (enc a b c n q s ++ m) 8 4 = le 4 n := by
    rw [e4, ← List.append_assoc keep, ← List.append_assoc (keep ++ [1]), ← List.append_assoc (keep ++ [1] ++ le 1 a), ← List.append_assoc (keep ++ [1] ++ le 1 a ++ le 1 b)]; exact part_mid _ _ _ (by simp [keep, le_len]) (le_len _ _)
  have p12 : Ks.part (enc a b c n q s ++ m) 12 8 = le 8 q := by
    rw [e4, ← List.append_assoc keep, ← List.append_assoc (keep ++ [1]), ← List.append_assoc (keep ++ [1] ++ le 1 a), ← List.append_assoc (keep ++ [1] ++ le 1 a ++ le 1 b), ← List.append_assoc (keep ++ [1] ++ le 1 a ++ le 1 b ++ le 1 c)]; exact part_mid _ _ _ (by simp [keep, le_len]) (le_len _ _)
  have p20 : Ks.part (enc a b c n q s ++ m) 20 4 = le 4 s := by
    rw [e4, ← List.append_assoc keep, ← List.append_assoc (keep ++ [1]), ← List.append_assoc (keep ++ [1] ++ le 1 a), ← List.append_assoc (keep ++ [1] ++ le 1 a ++ le 1 b), ← List.append_assoc (keep ++ [1] ++ le 1 a ++ le 1 b ++ le 1 c), ← List.append_assoc (keep ++ [1] ++ le 1 a ++ le 1 b ++ le 1 c ++ le 4 n)]; exact part_mid _ _ _ (by simp [keep, le_len]) (le_len _ _)
  have eb : enc a b c n q s ++ m = body a b c n q s ++ (le 4 (sumOf (body a b c n q s)) ++ m) := by rw [enc, List.append_assoc]
  have p24 : Ks.part (enc a b c n q s ++ m) 24 4 = le 4 (sumOf (body a b c n q s)) := by
    rw [eb]; exact part_mid _ _ _ (body_len _ _ _ _ _ _) (le_len _ _)
  have pb : Ks.part (enc a b c n q s ++ m) 0 24 = body a b c n q s := by
    rw [eb]; exact part_mid [] _ _ rfl (body_len _ _ _ _ _ _)
  constructor
  · unfold decErr
    rw [if_neg (by rw [List.length_append, enc_len]; omega), if_neg (fun h => h p0), if_neg (fun h => h p4), if_neg (fun h => h (by rw [p24, pb, n7])), p5, p6, p7, p8, n1, n2, n3, n4, if_neg (by rw [hc]; decide)]
  · unfold decH
    rw [p5, p6, p7, p8, p12, p20, n1, n2, n3, n4, n5, n6]

/-- what holds of bytes that are decoded -/
theorem dec_ok {l : List Int} (h : decErr l = 0) : 28 ≤ l.length ∧ Ks.part l 0 4 = keep ∧ l.getD 4 0 = 1 ∧ num (Ks.part l 24 4) = sumOf (Ks.part l 0 24) ∧ can (num (Ks.part l 5 1)) (num (Ks.part l 6 1)) (num (Ks.part l 7 1)) (num (Ks.part l 8 4)) = true := by
  unfold decErr at h
  by_cases h1 : l.length < 28
  · rw [if_pos h1] at h; omega
  rw [if_neg h1] at h
  by_cases h2 : Ks.part l 0 4 = keep
  rotate_left
  · rw [if_pos h2] at h; omega
  rw [if_neg (fun e => e h2)] at h
  by_cases h3 : l.getD 4 0 = 1
  rotate_left
  · rw [if_pos h3] at h; omega
  rw [if_neg (fun e => e h3)] at h
  by_cases h4 : num (Ks.part l 24 4) = sumOf (Ks.part l 0 24)
  rotate_left
  · rw [if_pos h4] at h; omega
  rw [if_neg (fun e => e h4)] at h
  refine ⟨by omega, h2, h3, h4, ?_⟩
  cases hc : can (num (Ks.part l 5 1)) (num (Ks.part l 6 1)) (num (Ks.part l 7 1)) (num (Ks.part l 8 4))
  · rw [if_pos hc] at h; omega
  · rfl

/-- what is decoded is encoded as it was -/
theorem enc_dec {l : List Int} (h : decErr l = 0) (hv : ∀ v ∈ l, 0 ≤ v ∧ v ≤ 255) :
    enc (num (Ks.part l 5 1)) (num (Ks.part l 6 1)) (num (Ks.part l 7 1)) (num (Ks.part l 8 4)) (num (Ks.part l 12 8)) (num (Ks.part l 20 4)) = l.take 28 := by
  obtain ⟨h1, h2, h3, h4, h5⟩ := dec_ok h
  have hb : body (num (Ks.part l 5 1)) (num (Ks.part l 6 1)) (num (Ks.part l 7 1)) (num (Ks.part l 8 4)) (num (Ks.part l 12 8)) (num (Ks.part l 20 4)) = l.take 24 := by
    unfold body
    rw [le_part l hv 5 1 (by omega), le_part l hv 6 1 (by omega), le_part l hv 7 1 (by omega), le_part l hv 8 4 (by omega), le_part l hv 12 8 (by omega), le_part l hv 20 4 (by omega), le_one 1 (by omega), ← h2, ← h3, ← part_one l 4 (by omega)]
    rw [part_next l 20 4, part_next l 12 8, part_next l 8 4, part_next l 7 1, part_next l 6 1, part_next l 5 1, part_next l 4 1, part_next l 0 4]
    rw [List.take_zero, List.nil_append]
  have hp : Ks.part l 0 24 = l.take 24 := by unfold Ks.part; rw [List.drop_zero]
  unfold enc
  rw [hb, ← hp, ← h4, le_part l hv 24 4 (by omega), hp]
  exact (part_next l 24 4).symm

/-- what differs within 32 bits isn't decoded -/
theorem dec_bursts (a b c n q s : Int) (hc : can a b c n = true) (hq : 0 ≤ q ∧ q < 18446744073709551616) (hs : 0 ≤ s ∧ s < 4294967296) (l : List Int) (hl : l.length = 28) (hv : ∀ v ∈ l, 0 ≤ v ∧ v ≤ 255) (k : Nat) (y : BitVec 32) (hk : k ≤ 224)
    (h : ∀ j, j < 224 → bitOf l j = (bitOf (enc a b c n q s) j ^^ (decide (k ≤ j) && y.getLsbD (j - k)))) : decErr l = 0 ↔ enc a b c n q s = l := by
  constructor
  · intro hd
    obtain ⟨_, _, _, h4, _⟩ := dec_ok hd
    have e1 : l = Ks.part l 0 24 ++ Ks.part l 24 4 := by
      have := part_next l 24 4
      rw [List.take_of_length_le (by omega)] at this
      conv => lhs; rw [this]
      unfold Ks.part; rw [List.drop_zero]
    have s1 := sealed (Ks.part l 0 24) (Ks.part l 24 4) (part_len l 24 4 (by omega)) (part_in l hv 24 4) h4
    rw [← e1] at s1
    have hz := sumOf_in (body a b c n q s)
    have s2 := sealed (body a b c n q s) (le 4 (sumOf (body a b c n q s))) (le_len _ _) (le_in _ _) (num_le 4 _ hz.1 (by simpa using hz.2))
    have := (bursts (enc a b c n q s) l (enc_in a b c n q s) hv (by rw [enc_len, hl]) k y (by rw [enc_len]; omega) (by rw [enc_len]; exact h)).1 (s2.trans s1.symm)
    exact this
  · rintro rfl
    have := (dec_enc a b c n q s [] hc hq hs).1
    rwa [List.append_nil] at this
theorem headV_inj {a b c n q s a' b' c' n' q' s' : Int} : headV a b c n q s = headV a' b' c' n' q' s' ↔ (a = a' ∧ b = b' ∧ c = c' ∧ n = n' ∧ q = q' ∧ s = s') := by
  simp [headV]
/-- unlike heads have unlike bytes -/
theorem enc_inj {a b c n q s a' b' c' n' q' s' : Int} (hc : can a b c n = true) (hq : 0 ≤ q ∧ q < 18446744073709551616) (hs : 0 ≤ s ∧ s < 4294967296) (hc' : can a' b' c' n' = true) (hq' : 0 ≤ q' ∧ q' < 18446744073709551616) (hs' : 0 ≤ s' ∧ s' < 4294967296) :
    enc a b c n q s = enc a' b' c' n' q' s' ↔ (a = a' ∧ b = b' ∧ c = c' ∧ n = n' ∧ q = q' ∧ s = s') := by
  constructor
  · intro h
    have h1 := (dec_enc a b c n q s [] hc hq hs).2
    have h2 := (dec_enc a' b' c' n' q' s' [] hc' hq' hs').2
    rw [h, h2] at h1
    obtain ⟨e1, e2, e3, e4, e5, e6⟩ := headV_inj.1 h1
    exact ⟨e1.symm, e2.symm, e3.symm, e4.symm, e5.symm, e6.symm⟩
  · rintro ⟨rfl, rfl, rfl, rfl, rfl, rfl⟩; rfl
theorem enc12 (a b c n q s : Int) : Ks.part (enc a b c n q s) 0 12 = keep ++ le 1 1 ++ le 1 a ++ le 1 b ++ le 1 c ++ le 4 n := by
  have e : enc a b c n q s = [] ++ ((keep ++ le 1 1 ++ le 1 a ++ le 1 b ++ le 1 c ++ le 4 n) ++ (le 8 q ++ (le 4 s ++ le 4 (sumOf (body a b c n q s))))) := by
    conv => lhs; rw [enc]; arg 1; rw [body]
    simp only [List.append_assoc, List.nil_append]
  rw [e]; exact part_mid _ _ _ rfl (by simp [keep, le_len])
theorem can_total {a b c n : Int} (h : can a b c n = true) : n = total a b c := by
  unfold can at h
  simp only [Bool.and_eq_true, beq_iff_eq] at h
  exact h.2
/-- the first twelve bytes tell the chips alone -/
theorem enc12_inj {a b c n q s a' b' c' n' q' s' : Int} (hc : can a b c n = true) (hc' : can a' b' c' n' = true) :
    Ks.part (enc a b c n q s) 0 12 = Ks.part (enc a' b' c' n' q' s') 0 12 ↔ (a = a' ∧ b = b' ∧ c = c') := by
  rw [enc12, enc12]
  constructor
  · intro h
    obtain ⟨h1, h2, h3, _⟩ := can_in hc
    obtain ⟨h1', h2', h3', _⟩ := can_in hc'
    rw [le_one a (by omega), le_one b (by omega), le_one c (by omega), le_one a' (by omega), le_one b' (by omega), le_one c' (by omega)] at h
    have hh := List.append_inj_left h (by simp [keep, le_len])
    have g5 := congrArg (fun l => l.getD 5 0) hh
    have g6 := congrArg (fun l => l.getD 6 0) hh
    have g7 := congrArg (fun l => l.getD 7 0) hh
    exact ⟨g5, g6, g7⟩
  · rintro ⟨rfl, rfl, rfl⟩
    rw [can_total hc, can_total hc']
end Go.Proofs.YtpbhkkcboppdmaaDoor
