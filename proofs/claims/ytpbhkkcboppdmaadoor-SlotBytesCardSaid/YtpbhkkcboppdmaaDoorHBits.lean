/-
  THE PLAIN MATHEMATICS OF BITS IN A ROW: a text's bits one by one; what differs within 32 of them.
-/
import Derived.Test.YtpbhkkcboppdmaaDoorHWords
namespace Ks

def bt (b : Bool) : BitVec 32 := if b then 1#32 else 0#32
/-- the first m bits of f, one by one -/
def GF : Nat → (Nat → Bool) → BitVec 32
  | 0, _ => 0#32
  | m + 1, f => X (GF m f ^^^ bt (f m))

theorem byte0 : ∀ v, v < 256 → Xn 8 (BitVec.ofNat 32 v) = X (X (X (X (X (X (X (X (bt (v.testBit 0)) ^^^ bt (v.testBit 1)) ^^^ bt (v.testBit 2)) ^^^ bt (v.testBit 3)) ^^^ bt (v.testBit 4)) ^^^ bt (v.testBit 5)) ^^^ bt (v.testBit 6)) ^^^ bt (v.testBit 7)) := by
  decide +kernel
theorem byte_bits (S : BitVec 32) (v : Nat) (hv : v < 256) : Xn 8 (S ^^^ BitVec.ofNat 32 v) = X (X (X (X (X (X (X (X (S ^^^ bt (v.testBit 0)) ^^^ bt (v.testBit 1)) ^^^ bt (v.testBit 2)) ^^^ bt (v.testBit 3)) ^^^ bt (v.testBit 4)) ^^^ bt (v.testBit 5)) ^^^ bt (v.testBit 6)) ^^^ bt (v.testBit 7)) := by
  rw [Xn_xor, byte0 v hv]
  simp only [Xn, X_xor, BitVec.xor_assoc]
theorem GF_congr {m : Nat} {f g : Nat → Bool} (h : ∀ j, j < m → f j = g j) : GF m f = GF m g := by
  induction m with
  | zero => rfl
  | succ m ih => rw [GF, GF, ih (fun j hj => h j (by omega)), h m (by omega)]

/-- bit j of a text -/
def bitOf (l : List Int) (j : Nat) : Bool := (l.getD (j / 8) 0).toNat.testBit (j % 8)
theorem Bv_toNat (v : Int) (h : 0 ≤ v) : Bv v = BitVec.ofNat 32 v.toNat := by
  obtain ⟨k, rfl⟩ := Int.eq_ofNat_of_zero_le h
  unfold Bv; rw [BitVec.ofInt_natCast]; rfl
theorem run_take (l : List Int) (h : ∀ v ∈ l, 0 ≤ v ∧ v ≤ 255) (i : Nat) (hi : i ≤ l.length) : run 0#32 ((l.take i).map Bv) = GF (8 * i) (bitOf l) := by
  induction i with
  | zero => rfl
  | succ i ih =>
    have hlt : i < l.length := by omega
    have hv := h l[i] (List.getElem_mem hlt)
    rw [List.take_succ_eq_append_getElem hlt, List.map_append, List.map_cons, List.map_nil, run_snoc, ih (by omega)]
    unfold step
    rw [Bv_toNat _ hv.1, byte_bits _ _ (by omega)]
    have e : ∀ t, t < 8 → bitOf l (8 * i + t) = l[i].toNat.testBit t := by
      intro t ht
      unfold bitOf
      rw [show (8 * i + t) / 8 = i by omega, show (8 * i + t) % 8 = t by omega]
      simp [List.getD, hlt]
    show _ = GF (8 * i + 8) (bitOf l)
    simp only [GF]
    rw [← e 0 (by omega), ← e 1 (by omega), ← e 2 (by omega), ← e 3 (by omega), ← e 4 (by omega), ← e 5 (by omega), ← e 6 (by omega), ← e 7 (by omega)]
    rfl
theorem run_all (l : List Int) (h : ∀ v ∈ l, 0 ≤ v ∧ v ≤ 255) : run 0#32 (l.map Bv) = GF (8 * l.length) (bitOf l) := by
  have := run_take l h l.length (Nat.le_refl _)
  rwa [List.take_length] at this

/-- the lowest m bits -/
def low (y : BitVec 32) (m : Nat) : BitVec 32 := BitVec.ofNat 32 (y.toNat % 2 ^ m)
theorem low_bit (y : BitVec 32) (m i : Nat) (hi : i < 32) : (low y m).getLsbD i = (decide (i < m) && y.getLsbD i) := by
  unfold low
  rw [BitVec.getLsbD_ofNat, Nat.testBit_mod_two_pow]
  simp [hi, BitVec.getLsbD]
theorem X_shl : ∀ i, i < 32 → Xn i (1#32 <<< i) = 1#32 := by decide +kernel
theorem low_succ (y : BitVec 32) (m : Nat) : Xn m (low y m) ^^^ bt (y.getLsbD m) = Xn m (low y (m + 1)) := by
  by_cases hm : m < 32
  · have e : bt (y.getLsbD m) = Xn m (if y.getLsbD m then 1#32 <<< m else 0#32) := by
      cases h : y.getLsbD m
      · simp [bt, Xn_zero]
      · simp [bt, X_shl m hm]
    rw [e, ← Xn_xor]
    congr 1
    apply BitVec.eq_of_getLsbD_eq
    intro i hi
    rw [BitVec.getLsbD_xor, low_bit _ _ _ hi, low_bit _ _ _ hi]
    have e1 : (1#32 <<< m).getLsbD i = decide (i = m) := by
      rw [BitVec.getLsbD_shiftLeft]
      by_cases h : i < m
      · simp [h]; omega
      · rw [BitVec.getLsbD_one]
        have : (i - m = 0) = (i = m) := by simp; omega
        simp [hi, h, this]
    by_cases him : i = m
    · subst him
      cases h : y.getLsbD i
      · simp
      · simp [e1]
    · have e2 : (i < m + 1) = (i < m) := by simp; omega
      cases h : y.getLsbD m
      · simp [e2]
      · simp [e1, him, e2]
  · have h1 : y.getLsbD m = false := BitVec.getLsbD_of_ge _ _ (by omega)
    have h2 : ∀ k, 32 ≤ k → low y k = y := by
      intro k hk
      apply BitVec.eq_of_getLsbD_eq
      intro i hi
      rw [low_bit _ _ _ hi]; simp; omega
    rw [h1, h2 m (by omega), h2 (m + 1) (by omega)]
    simp [bt]
theorem GF_window (y : BitVec 32) (k m : Nat) (h : k ≤ m) : GF m (fun j => decide (k ≤ j) && y.getLsbD (j - k)) = Xn (m - k) (low y (m - k)) := by
  induction m with
  | zero =>
    obtain rfl : k = 0 := by omega
    simp [GF, low, Xn, Nat.mod_one]
  | succ m ih =>
    by_cases hk : k ≤ m
    · rw [GF, ih hk, show m + 1 - k = (m - k) + 1 by omega]
      simp only [hk, decide_true, Bool.true_and]
      rw [low_succ, ← Xn_X, Xn]
    · obtain rfl : k = m + 1 := by omega
      have z : GF (m + 1) (fun j => decide (m + 1 ≤ j) && y.getLsbD (j - (m + 1))) = GF (m + 1) (fun _ => false) := GF_congr fun j hj => by
        simp; intro; omega
      have z0 : ∀ n, GF n (fun _ => false) = 0#32 := by
        intro n
        induction n with
        | zero => rfl
        | succ n ih => rw [GF, ih]; decide
      rw [z, z0]
      simp [low, Xn, Nat.mod_one]

/-- two texts of one length, told apart bit by bit -/
theorem run_diff (s : BitVec 32) (b c d : List (BitVec 32)) (hc : c.length = b.length) (hd : d.length = b.length) (h : ∀ i, i < b.length → d.getD i 0#32 = b.getD i 0#32 ^^^ c.getD i 0#32) :
    run s b ^^^ run s c = run 0#32 d := by
  suffices H : ∀ (b c d : List (BitVec 32)) (s t : BitVec 32), c.length = b.length → d.length = b.length → (∀ i, i < b.length → d.getD i 0#32 = b.getD i 0#32 ^^^ c.getD i 0#32) → run s b ^^^ run t c = run (s ^^^ t) d by
    have := H b c d s s hc hd h
    rwa [BitVec.xor_self] at this
  intro b
  induction b with
  | nil =>
    intro c d s t hc hd _
    obtain rfl := List.length_eq_zero_iff.1 hc
    obtain rfl := List.length_eq_zero_iff.1 hd
    rfl
  | cons x b ih =>
    intro c d s t hc hd h
    match c, d, hc, hd with
    | y :: c, z :: d, hc, hd =>
      have h0 : z = x ^^^ y := by simpa using h 0 (by simp)
      show run (step s x) b ^^^ run (step t y) c = run (step (s ^^^ t) z) d
      rw [ih c d (step s x) (step t y) (by simpa using hc) (by simpa using hd) (fun i hi => by simpa using h (i + 1) (by simp; omega)), h0, step_xor]

/-- the sum of a text's bytes and another one's that are apart in y's bits from bit k on -/
theorem bursts (b c : List Int) (hb : ∀ v ∈ b, 0 ≤ v ∧ v ≤ 255) (hc : ∀ v ∈ c, 0 ≤ v ∧ v ≤ 255) (hl : c.length = b.length) (k : Nat) (y : BitVec 32) (hk : k ≤ 8 * b.length)
    (h : ∀ j, j < 8 * b.length → bitOf c j = (bitOf b j ^^ (decide (k ≤ j) && y.getLsbD (j - k)))) :
    more 0#32 (b.map Bv) = more 0#32 (c.map Bv) ↔ b = c := by
  constructor
  · intro e
    have e1 : run (~~~ 0#32) (b.map Bv) = run (~~~ 0#32) (c.map Bv) := by
      unfold more at e
      have := congrArg (fun x => ~~~ x) e
      simpa using this
    -- the text of what differs
    let d : List Int := (List.range b.length).map fun i => (((b.getD i 0).toNat ^^^ (c.getD i 0).toNat : Nat) : Int)
    have gb : ∀ i, i < b.length → 0 ≤ b.getD i 0 ∧ b.getD i 0 ≤ 255 := fun i hi => by simpa [List.getD, hi] using hb b[i] (List.getElem_mem hi)
    have gc : ∀ i, i < b.length → 0 ≤ c.getD i 0 ∧ c.getD i 0 ≤ 255 := fun i hi => by
      have hi' : i < c.length := by omega
      simpa [List.getD, hi'] using hc c[i] (List.getElem_mem hi')
    have dl : d.length = b.length := by simp [d]
    have dg : ∀ i, i < b.length → d.getD i 0 = (((b.getD i 0).toNat ^^^ (c.getD i 0).toNat : Nat) : Int) := fun i hi => by
      simp [d, List.getD, hi]
    have xl : ∀ x y : Nat, x < 256 → y < 256 → x ^^^ y < 256 := fun x y hx hy => Nat.xor_lt_two_pow (n := 8) hx hy
    have db : ∀ v ∈ d, 0 ≤ v ∧ v ≤ 255 := by
      intro v hv
      simp only [d, List.mem_map, List.mem_range] at hv
      obtain ⟨i, hi, rfl⟩ := hv
      have h1 := gb i hi
      have h2 := gc i hi
      have := xl (b.getD i 0).toNat (c.getD i 0).toNat (by omega) (by omega)
      omega
    have r := run_diff (~~~ 0#32) (b.map Bv) (c.map Bv) (d.map Bv) (by simp [hl]) (by simp [dl]) (by
      intro i hi
      have hi : i < b.length := by simpa using hi
      have m : ∀ l : List Int, i < l.length → (l.map Bv).getD i 0#32 = Bv (l.getD i 0) := fun l h => by simp [List.getD, h]
      rw [m d (by omega), m b hi, m c (by omega), dg i hi, Bv_toNat _ (gb i hi).1, Bv_toNat _ (gc i hi).1]
      unfold Bv
      rw [BitVec.ofInt_natCast, BitVec.ofNat_xor])
    rw [e1, BitVec.xor_self, run_all d db, dl] at r
    have bd : ∀ j, j < 8 * b.length → bitOf d j = (decide (k ≤ j) && y.getLsbD (j - k)) := by
      intro j hj
      have hi : j / 8 < b.length := by omega
      have := h j hj
      unfold bitOf at this ⊢
      rw [dg _ hi, Int.toNat_natCast, Nat.testBit_xor, this]
      cases (b.getD (j / 8) 0).toNat.testBit (j % 8) <;> simp
    rw [GF_congr bd, GF_window y k _ hk] at r
    have z := Xn_eq_zero r.symm
    have yz : ∀ i, i < 8 * b.length - k → y.getLsbD i = false := by
      intro i hi
      by_cases h32 : i < 32
      · have := congrArg (fun q => q.getLsbD i) z
        simp only [low_bit _ _ _ h32, hi, decide_true, Bool.true_and, BitVec.getLsbD_zero] at this
        exact this
      · exact BitVec.getLsbD_of_ge _ _ (by omega)
    apply List.ext_getElem hl.symm
    intro i h1 h2
    have q1 := gb i h1
    have q2 := gc i h1
    have e1 : b.getD i 0 = b[i] := by simp [List.getD, h1]
    have e2 : c.getD i 0 = c[i] := by simp [List.getD, h2]
    rw [e1] at q1; rw [e2] at q2
    have : b[i].toNat = c[i].toNat := by
      apply Nat.eq_of_testBit_eq
      intro t
      by_cases ht : t < 8
      · have hj := h (8 * i + t) (by omega)
        have e0 : (decide (k ≤ 8 * i + t) && y.getLsbD (8 * i + t - k)) = false := by
          by_cases hkj : k ≤ 8 * i + t
          · rw [yz _ (by omega), Bool.and_false]
          · simp [hkj]
        rw [e0, Bool.xor_false] at hj
        unfold bitOf at hj
        rw [show (8 * i + t) / 8 = i by omega, show (8 * i + t) % 8 = t by omega, e1, e2] at hj
        exact hj.symm
      · have p8 : 2 ^ 8 ≤ 2 ^ t := Nat.pow_le_pow_right (by omega) (by omega)
        rw [Nat.testBit_lt_two_pow (Nat.lt_of_lt_of_le (by omega : b[i].toNat < 2 ^ 8) p8), Nat.testBit_lt_two_pow (Nat.lt_of_lt_of_le (by omega : c[i].toNat < 2 ^ 8) p8)]
    omega
  · rintro rfl; rfl

/-- four bytes -/
theorem four_bytes (a : Int) (h0 : 0 ≤ a) (h1 : a ≤ 4294967295) : run 0#32 ([a % 256, a / 256 % 256, a / 65536 % 256, a / 16777216].map Bv) = Xn 32 (Bv a) := by
  have hb : ∀ v ∈ [a % 256, a / 256 % 256, a / 65536 % 256, a / 16777216], 0 ≤ v ∧ v ≤ 255 := by
    intro v hv
    simp only [List.mem_cons, List.not_mem_nil, or_false] at hv
    rcases hv with rfl | rfl | rfl | rfl <;> omega
  rw [run_all _ hb]
  have hg := GF_window (Bv a) 0 32 (by omega)
  have hlow : low (Bv a) 32 = Bv a := by
    apply BitVec.eq_of_getLsbD_eq
    intro i hi
    rw [low_bit _ _ _ hi]; simp [hi]
  rw [Nat.sub_zero, hlow] at hg
  rw [← hg]
  apply GF_congr
  intro j hj
  have hj32 : j < 32 := by simpa using hj
  obtain ⟨n, rfl⟩ := Int.eq_ofNat_of_zero_le h0
  have ea : (Bv (n : Int)).getLsbD j = n.testBit j := by
    unfold Bv; rw [BitVec.ofInt_natCast, BitVec.getLsbD_ofNat, decide_eq_true hj32, Bool.true_and]
  simp only [Nat.zero_le, decide_true, Bool.true_and, Nat.sub_zero, ea]
  have d8 : ∀ m t : Nat, t < 8 → (m % 256).testBit t = m.testBit t := fun m t ht => by
    rw [show 256 = 2 ^ 8 from rfl, Nat.testBit_mod_two_pow]; simp [ht]
  have sh : ∀ (m s t : Nat), (m / 2 ^ s).testBit t = m.testBit (s + t) := fun m s t => by rw [Nat.testBit_div_two_pow, Nat.add_comm]
  unfold bitOf
  have q : j / 8 = 0 ∨ j / 8 = 1 ∨ j / 8 = 2 ∨ j / 8 = 3 := by omega
  rcases q with q | q | q | q <;> rw [q]
  · have : ((n : Int) % 256).toNat = n % 256 := by omega
    simp only [List.getD_cons_zero, this]
    rw [d8 _ _ (by omega)]; congr 1; omega
  · have : ((n : Int) / 256 % 256).toNat = n / 2 ^ 8 % 256 := by omega
    simp only [List.getD_cons_succ, List.getD_cons_zero, this]
    rw [d8 _ _ (by omega), sh]; congr 1; omega
  · have : ((n : Int) / 65536 % 256).toNat = n / 2 ^ 16 % 256 := by omega
    simp only [List.getD_cons_succ, List.getD_cons_zero, this]
    rw [d8 _ _ (by omega), sh]; congr 1; omega
  · have : ((n : Int) / 16777216).toNat = n / 2 ^ 24 := by omega
    simp only [List.getD_cons_succ, List.getD_cons_zero, this]
    rw [sh]; congr 1; omega
theorem more4 (s a b : Int) (ha : 0 ≤ a ∧ a ≤ 4294967295) (hb : 0 ≤ b ∧ b ≤ 4294967295) :
    (more (Bv s) ([a % 256, a / 256 % 256, a / 65536 % 256, a / 16777216].map Bv) = more (Bv s) ([b % 256, b / 256 % 256, b / 65536 % 256, b / 16777216].map Bv)) ↔ a = b := by
  constructor
  · intro e
    unfold more at e
    have e := congrArg (fun x => ~~~ x) e
    simp only [BitVec.not_not] at e
    have r : ∀ l : List (BitVec 32), run (~~~ Bv s) l = Xn (8 * l.length) (~~~ Bv s) ^^^ run 0#32 l := fun l => by
      have := run_split (~~~ Bv s) 0#32 l
      rwa [BitVec.xor_zero] at this
    rw [r, r, four_bytes a ha.1 ha.2, four_bytes b hb.1 hb.2] at e
    have e2 : Xn 32 (Bv a) = Xn 32 (Bv b) := by
      have := congrArg (fun x => Xn 32 (~~~ Bv s) ^^^ x) e
      simpa [← BitVec.xor_assoc] using this
    have e3 := congrArg U (Xn_inj e2)
    rwa [U_Bv a ha.1 (by omega), U_Bv b hb.1 (by omega)] at e3
  · rintro rfl; rfl
end Ks
