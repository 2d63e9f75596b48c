/-
  WHAT A CUT LEAVES, AS LISTS.
-/
namespace Go.Proofs.Ytojdbmkbcjaikaa
set_option maxRecDepth 20000

/-- one place has what was picked, if it is there -/
def putL (l : List Int) (z p : Int) : List Int := if 0 ≤ z ∧ z < l.length then l.set z.toNat p else l
/-- places have what was picked, as far as both lists go -/
def cellsL (l zs ps : List Int) : List Int := (zs.zip ps).foldl (fun b x => putL b x.1 x.2) l
/-- the same by pairs -/
def pairsL (l : List Int) (xs : List (Int × Int)) : List Int := xs.foldl (fun b x => putL b x.1 x.2) l
theorem cellsL_pairs (l zs ps : List Int) : cellsL l zs ps = pairsL l (zs.zip ps) := rfl
theorem putL_len (l : List Int) (z p : Int) : (putL l z p).length = l.length := by unfold putL; split <;> simp
theorem pairsL_snoc (l : List Int) (xs : List (Int × Int)) (x : Int × Int) : pairsL l (xs ++ [x]) = putL (pairsL l xs) x.1 x.2 := by simp [pairsL]
theorem snoc_rec {α : Type} {P : List α → Prop} (h0 : P []) (h1 : ∀ xs x, P xs → P (xs ++ [x])) (xs : List α) : P xs := by
  have : ∀ n (xs : List α), xs.length = n → P xs := by
    intro n
    induction n with
    | zero => intro xs h; obtain rfl := List.eq_nil_of_length_eq_zero h; exact h0
    | succ n ih =>
      intro xs h
      have hne : xs ≠ [] := fun e => by rw [e] at h; simp at h
      rw [← List.dropLast_concat_getLast hne]
      exact h1 _ _ (ih _ (by simp [h]))
  exact this _ xs rfl
theorem pairsL_len (l : List Int) (xs : List (Int × Int)) : (pairsL l xs).length = l.length := by
  induction xs using snoc_rec with
  | h0 => rfl
  | h1 xs x ih => rw [pairsL_snoc, putL_len, ih]
theorem cellsL_len (l zs ps : List Int) : (cellsL l zs ps).length = l.length := pairsL_len _ _
theorem putL_get (l : List Int) (z p : Int) (i : Nat) (h : i < l.length) : (putL l z p).getD i 0 = if z = i then p else l.getD i 0 := by
  unfold putL
  split
  · rename_i hz
    simp only [List.getD, List.getElem?_set]
    by_cases e : z = i
    · subst e; simp [h]
    · rw [if_neg (by omega), if_neg e]
  · rename_i hz
    rw [if_neg (by omega)]
theorem putL_in {l : List Int} {z p : Int} (hl : ∀ v ∈ l, 0 ≤ v ∧ v ≤ 255) (hp : 0 ≤ p ∧ p ≤ 255) : ∀ v ∈ putL l z p, 0 ≤ v ∧ v ≤ 255 := by
  unfold putL
  split
  · intro v hv
    rcases List.mem_or_eq_of_mem_set hv with h | h
    · exact hl v h
    · rw [h]; exact hp
  · exact hl
theorem pairsL_in {l : List Int} (xs : List (Int × Int)) (hl : ∀ v ∈ l, 0 ≤ v ∧ v ≤ 255) (hp : ∀ x ∈ xs, 0 ≤ x.2 ∧ x.2 ≤ 255) : ∀ v ∈ pairsL l xs, 0 ≤ v ∧ v ≤ 255 := by
  induction xs using snoc_rec with
  | h0 => exact hl
  | h1 xs x ih =>
    rw [pairsL_snoc]
    exact putL_in (ih (fun y hy => hp y (by simp [hy]))) (hp x (by simp))
theorem cellsL_in {l zs ps : List Int} (hl : ∀ v ∈ l, 0 ≤ v ∧ v ≤ 255) (hp : ∀ v ∈ ps, 0 ≤ v ∧ v ≤ 255) : ∀ v ∈ cellsL l zs ps, 0 ≤ v ∧ v ≤ 255 :=
  pairsL_in _ hl fun _ hx => hp _ (List.of_mem_zip hx).2

/-- one place more -/
theorem cellsL_succ (l pre ps : List Int) (x : Int) (h : pre.length < ps.length) : cellsL l (pre ++ [x]) ps = putL (cellsL l pre ps) x (ps.getD pre.length 0) := by
  have hz : (pre ++ [x]).zip ps = pre.zip ps ++ [(x, ps.getD pre.length 0)] := by
    conv => lhs; rw [← List.take_append_drop pre.length ps]
    rw [List.zip_append (by simp; omega), List.drop_eq_getElem_cons h]
    simp only [List.zip_cons_cons, List.zip_nil_left, List.getD, List.getElem?_eq_getElem h, Option.getD_some]
    congr 1
    rw [@List.zip_eq_zip_take_min _ _ pre ps, Nat.min_eq_left (by omega), List.take_length]
  rw [cellsL_pairs, cellsL_pairs, hz, pairsL_snoc]
/-- behind the last pick nothing more comes -/
theorem cellsL_over (l pre xs ps : List Int) (h : ps.length ≤ pre.length) : cellsL l (pre ++ xs) ps = cellsL l pre ps := by
  rw [cellsL_pairs, cellsL_pairs]
  congr 1
  rw [@List.zip_eq_zip_take_min _ _ (pre ++ xs) ps, @List.zip_eq_zip_take_min _ _ pre ps, List.length_append, Nat.min_eq_right (by omega), Nat.min_eq_right h, List.take_append_of_le_length h]
theorem cellsL_prefix {l pre zs ps : List Int} (hp : pre <+: zs) (h : ps.length ≤ pre.length) : cellsL l pre ps = cellsL l zs ps := by
  obtain ⟨xs, rfl⟩ := hp
  rw [cellsL_over _ _ _ _ h]
theorem cellsL_none (l zs : List Int) : cellsL l zs [] = l := by simp [cellsL]

/-- a place has one and the same thing, or what it had -/
theorem pairsL_dich (xs : List (Int × Int)) (n i : Nat) (hi : i < n) : (∃ c, ∀ l : List Int, l.length = n → (pairsL l xs).getD i 0 = c) ∨ (∀ l : List Int, l.length = n → (pairsL l xs).getD i 0 = l.getD i 0) := by
  induction xs using snoc_rec with
  | h0 => exact .inr fun l _ => rfl
  | h1 xs x ih =>
    have key : ∀ l : List Int, l.length = n → (pairsL l (xs ++ [x])).getD i 0 = if x.1 = i then x.2 else (pairsL l xs).getD i 0 := fun l hl => by
      rw [pairsL_snoc, putL_get _ _ _ _ (by rw [pairsL_len, hl]; exact hi)]
    by_cases e : x.1 = i
    · exact .inl ⟨x.2, fun l hl => by rw [key l hl, if_pos e]⟩
    · rcases ih with ⟨c, hc⟩ | h
      · exact .inl ⟨c, fun l hl => by rw [key l hl, if_neg e, hc l hl]⟩
      · exact .inr fun l hl => by rw [key l hl, if_neg e, h l hl]
theorem list_ext {a b : List Int} (h : a.length = b.length) (he : ∀ j, j < a.length → a.getD j 0 = b.getD j 0) : a = b := by
  apply List.ext_getElem h
  intro i h1 h2
  have := he i h1
  simpa [List.getD, h1, h2] using this
/-- what is cut twice alike is as it was cut once -/
theorem cellsL_twice (l zs ps : List Int) : cellsL (cellsL l zs ps) zs ps = cellsL l zs ps := by
  refine list_ext (by simp [cellsL_len]) fun j hj => ?_
  rw [cellsL_len, cellsL_len] at hj
  rcases pairsL_dich (zs.zip ps) l.length j hj with ⟨c, hc⟩ | h
  · exact (hc _ (pairsL_len _ _)).trans (hc l rfl).symm
  · exact h _ (pairsL_len _ _)
/-- no other place is another one -/
theorem pairsL_else (l : List Int) (xs : List (Int × Int)) (i : Nat) (hi : i < l.length) (h : ∀ x ∈ xs, x.1 ≠ i) : (pairsL l xs).getD i 0 = l.getD i 0 := by
  induction xs using snoc_rec with
  | h0 => rfl
  | h1 xs x ih =>
    rw [pairsL_snoc, putL_get _ _ _ _ (by rw [pairsL_len]; exact hi), if_neg (h x (by simp)), ih fun y hy => h y (by simp [hy])]
theorem cellsL_else (l zs ps : List Int) (i : Nat) (hi : i < l.length) (h : (i : Int) ∉ zs) : (cellsL l zs ps).getD i 0 = l.getD i 0 :=
  pairsL_else _ _ _ hi fun _ hx e => h (e ▸ (List.of_mem_zip hx).1)

/-- places in a row, as many as are asked for; a sum that doesn't fit goes round -/
def rowL (from_ many : Int) : List Int := (List.range many.toNat).map fun i : Nat => (from_ + (i : Int) + 9223372036854775808) % 18446744073709551616 - 9223372036854775808
theorem rowL_len (a m : Int) : (rowL a m).length = m.toNat := by simp [rowL]
theorem rowL_get (a m : Int) (k : Nat) (hk : k < m.toNat) (h0 : -9223372036854775808 ≤ a + k) (h1 : a + k < 9223372036854775808) : (rowL a m).getD k 0 = a + k := by
  simp only [rowL, List.getD, List.getElem?_map, List.getElem?_range hk, Option.map_some, Option.getD_some]
  omega

/-- where two are apart -/
def apartAt (a b : List Int) (i : Nat) : Bool := decide (a.length ≤ i) || decide (b.length ≤ i) || (a.getD i 0 != b.getD i 0)
def apartTo (a b : List Int) (k : Nat) : List Int := ((List.range k).filter (apartAt a b)).map fun i : Nat => (i : Int)
def apartL (a b : List Int) : List Int := apartTo a b (max a.length b.length)
theorem apartTo_succ (a b : List Int) (k : Nat) : apartTo a b (k + 1) = if apartAt a b k then apartTo a b k ++ [(k : Int)] else apartTo a b k := by
  unfold apartTo
  rw [List.range_succ, List.filter_append, List.map_append]
  cases h : apartAt a b k <;> simp [h]
theorem apartTo_len (a b : List Int) (k : Nat) : (apartTo a b k).length ≤ k := by
  unfold apartTo
  rw [List.length_map]
  exact Nat.le_trans (List.length_filter_le _ _) (by simp)
theorem apartTo_mem (a b : List Int) (k : Nat) (v : Int) : v ∈ apartTo a b k ↔ ∃ i : Nat, i < k ∧ v = i ∧ apartAt a b i = true := by
  simp only [apartTo, List.mem_map, List.mem_filter, List.mem_range]
  constructor
  · rintro ⟨i, ⟨h1, h2⟩, rfl⟩; exact ⟨i, h1, rfl, h2⟩
  · rintro ⟨i, h1, rfl, h2⟩; exact ⟨i, ⟨h1, h2⟩, rfl⟩
theorem apartAt_comm (a b : List Int) : apartAt a b = apartAt b a := by
  funext i
  unfold apartAt
  rw [Bool.or_comm (decide (a.length ≤ i))]
  congr 1
  rw [Bool.eq_iff_iff, bne_iff_ne, bne_iff_ne]
  exact ⟨Ne.symm, Ne.symm⟩
theorem apartL_comm (a b : List Int) : apartL a b = apartL b a := by
  unfold apartL apartTo
  rw [apartAt_comm, Nat.max_comm]
/-- of two of one length: just where they have unlike bytes -/
theorem apartL_mem (a b : List Int) (h : b.length = a.length) (v : Int) : v ∈ apartL a b ↔ ∃ i : Nat, i < a.length ∧ v = i ∧ a.getD i 0 ≠ b.getD i 0 := by
  unfold apartL
  rw [apartTo_mem, h, Nat.max_self]
  constructor
  · rintro ⟨i, h1, h2, h3⟩
    refine ⟨i, h1, h2, ?_⟩
    unfold apartAt at h3
    rw [decide_eq_false (by omega), decide_eq_false (by omega)] at h3
    simpa using h3
  · rintro ⟨i, h1, h2, h3⟩
    refine ⟨i, h1, h2, ?_⟩
    unfold apartAt
    rw [(bne_iff_ne).2 h3]
    simp
theorem apartL_same (a : List Int) : apartL a a = [] := by
  rw [List.eq_nil_iff_forall_not_mem]
  intro v hv
  obtain ⟨i, _, _, h⟩ := (apartL_mem a a rfl v).1 hv
  exact h rfl
theorem apartL_len (a b : List Int) (h : b.length = a.length) : (apartL a b).length ≤ a.length := by
  have := apartTo_len a b (max a.length b.length)
  unfold apartL
  rw [h, Nat.max_self] at this ⊢
  exact this

theorem mix (a b : List Int) (k j : Nat) (hk : k ≤ b.length) : (b.take k ++ a.drop k).getD j 0 = if j < k then b.getD j 0 else a.getD j 0 := by
  have hl : (b.take k).length = k := by rw [List.length_take]; omega
  simp only [List.getD]
  by_cases h : j < k
  · rw [List.getElem?_append_left (by omega), List.getElem?_take_of_lt h, if_pos h]
  · rw [List.getElem?_append_right (by omega), hl, List.getElem?_drop, if_neg h]
    congr 2
    omega
/-- a range makes one the other -/
theorem cellsL_row (a b : List Int) (h : b.length = a.length) (hb : a.length < 1000000) : cellsL a (rowL 0 a.length) b = b := by
  have key : ∀ k, k ≤ a.length → cellsL a ((rowL 0 a.length).take k) b = b.take k ++ a.drop k := by
    intro k
    induction k with
    | zero => intro _; simp [cellsL]
    | succ k ih =>
      intro hk
      have hr : k < (rowL 0 a.length).length := by rw [rowL_len]; omega
      rw [List.take_succ_eq_append_getElem hr, cellsL_succ _ _ _ _ (by simp; omega), ih (by omega)]
      have hg : (rowL 0 a.length)[k] = (k : Int) := by
        have := rowL_get 0 a.length k (by omega) (by omega) (by omega)
        simp only [List.getD, List.getElem?_eq_getElem hr, Option.getD_some] at this
        omega
      rw [hg]
      refine list_ext (by rw [putL_len]; simp; omega) fun j hj => ?_
      rw [putL_len] at hj
      have hj' : j < a.length := by simp at hj; omega
      rw [putL_get _ _ _ _ hj]
      have hl : min k (rowL 0 ↑a.length).length = k := by rw [rowL_len]; omega
      rw [mix _ _ _ _ (by omega), mix _ _ _ _ (by omega), List.length_take, hl]
      by_cases e : (k : Int) = j
      · obtain rfl : k = j := by omega
        rw [if_pos rfl, if_pos (by omega)]
      · rw [if_neg e]
        by_cases h1 : j < k
        · rw [if_pos h1, if_pos (by omega)]
        · rw [if_neg h1, if_neg (by omega)]
  have h1 := key a.length (Nat.le_refl _)
  rw [List.take_of_length_le (by rw [rowL_len]; omega), List.take_of_length_le (by omega), List.drop_length, List.append_nil] at h1
  exact h1
/-- what is picked where they are apart makes one the other -/
theorem cellsL_apart (a b : List Int) (h : b.length = a.length) : cellsL a (apartL a b) ((apartL a b).map fun v => b.getD v.toNat 0) = b := by
  have key : ∀ (L pre : List Int), (∀ v ∈ L, 0 ≤ v) → pre <+: L → ∀ i, i < a.length → (cellsL a pre (L.map fun v => b.getD v.toNat 0)).getD i 0 = if (i : Int) ∈ pre then b.getD i 0 else a.getD i 0 := by
    intro L pre hL
    induction pre using snoc_rec with
    | h0 => intro _ i _; simp [cellsL]
    | h1 pre x ih =>
      intro hp i hi
      obtain ⟨t, rfl⟩ := hp
      rw [cellsL_succ _ _ _ _ (by simp), putL_get _ _ _ _ (by rw [cellsL_len]; exact hi), ih ⟨[x] ++ t, by simp⟩ i hi]
      have hx : (((pre ++ [x] ++ t).map fun v => b.getD v.toNat 0).getD pre.length 0) = b.getD x.toNat 0 := by simp [List.getD]
      rw [hx]
      by_cases e : x = i
      · subst e; simp
      · rw [if_neg e]
        have : ((i : Int) ∈ pre ++ [x]) ↔ (i : Int) ∈ pre := by simp; intro h; exact absurd h.symm e
        simp only [this]
  refine list_ext (by rw [cellsL_len, h]) fun i hi => ?_
  rw [cellsL_len] at hi
  rw [key _ _ (fun v hv => by obtain ⟨j, _, rfl, _⟩ := (apartL_mem a b h v).1 hv; omega) (List.prefix_refl _) i hi]
  by_cases e : a.getD i 0 = b.getD i 0
  · split
    · rfl
    · exact e
  · rw [if_pos ((apartL_mem a b h i).2 ⟨i, hi, rfl, e⟩)]
end Go.Proofs.Ytojdbmkbcjaikaa
