/-
  LISTS OF BYTES IN MEMORY; THE WALK OF image.Glue.
-/
import Derived.Test.YthlemcnbebfliaaGreatDoorICut
namespace Go.Proofs.YthlemcnbebfliaaGreatDoor
open Ks Go.RowKit
set_option maxRecDepth 20000

/-- a slice of bytes as a value -/
def Byv (w : World) (B : Nat) (v : Value) (l : List Int) : Prop := ∃ A c, v = .slice A l.length c ∧ l.length ≤ c ∧ (A = none → c = 0) ∧ Bytes w B A l.length l
/-- a slice of slices of bytes that reads as L, all of it below block B -/
def Lsts (w : World) (B : Nat) (A : Option Addr) (n : Nat) (L : List (List Int)) : Prop :=
  L.length = n ∧ (0 < n → ∃ b o, A = some ⟨b, o, none⟩ ∧ b < B ∧ ∀ k, k < n → ∃ v, w.cell? ⟨b, o + k, none⟩ = some v ∧ Byv w B v (L.getD k []))
theorem Byv.below {w w' : World} {B : Nat} {v : Value} {l : List Int} (h : Byv w B v l) (hb : Below B w w') : Byv w' B v l := by
  obtain ⟨A, c, e, h1, h2, h3⟩ := h
  exact ⟨A, c, e, h1, h2, bytes_below h3 hb⟩
theorem Lsts.below {w w' : World} {B n : Nat} {A : Option Addr} {L : List (List Int)} (h : Lsts w B A n L) (hb : Below B w w') : Lsts w' B A n L := by
  refine ⟨h.1, fun hn => ?_⟩
  obtain ⟨b, o, e, hB, hc⟩ := h.2 hn
  refine ⟨b, o, e, hB, fun k hk => ?_⟩
  obtain ⟨v, hv, hy⟩ := hc k hk
  exact ⟨v, (hb.cell (p := ⟨b, o + k, none⟩) hB).trans hv, hy.below hb⟩
theorem Lsts.ok {w : World} {B n : Nat} {A : Option Addr} {L : List (List Int)} (h : Lsts w B A n L) : ∀ x ∈ L, ∀ v ∈ x, 0 ≤ v ∧ v ≤ 255 := by
  intro x hx
  obtain ⟨k, hk, rfl⟩ := List.getElem_of_mem hx
  obtain ⟨b, o, _, _, hc⟩ := h.2 (by have := h.1; omega)
  obtain ⟨v, _, _, _, _, _, _, hb⟩ := hc k (by have := h.1; omega)
  have := hb.2.1
  simpa [List.getD, hk] using this
theorem Byv.take {w : World} {B : Nat} {A : Option Addr} {n : Nat} {l : List Int} (h : Bytes w B A n l) (t : Nat) (ht : t ≤ n) : Bytes w B A t (l.take t) := by
  obtain ⟨h1, h2, h3⟩ := h
  refine ⟨by simp; omega, fun v hv => h2 v (List.mem_of_mem_take hv), fun hk => ?_⟩
  obtain ⟨b', o', e, hb, hc⟩ := h3 (by omega)
  exact ⟨b', o', e, hb, fun j hj => by rw [hc j (by omega)]; simp [List.getD, hj]⟩

/-- the first bytes of all of L together -/
def glued (L : List (List Int)) (m : Nat) : List Int := L.flatten.take m
theorem glued_succ (L : List (List Int)) (k m : Nat) (h : k < L.length) : glued (L.take (k + 1)) m = glued (L.take k) m ++ (L.getD k []).take (m - (glued (L.take k) m).length) := by
  unfold glued
  rw [List.take_succ_eq_append_getElem h, List.flatten_append, List.take_append, List.length_take]
  have : L.getD k [] = L[k] := by simp [List.getD, h]
  rw [this, List.flatten_cons, List.flatten_nil, List.append_nil]
  congr 2
  omega
theorem glued_le (L : List (List Int)) (m : Nat) : (glued L m).length ≤ m := by simp [glued]; omega
theorem glued_in (L : List (List Int)) (m : Nat) (h : ∀ x ∈ L, ∀ v ∈ x, 0 ≤ v ∧ v ≤ 255) : ∀ v ∈ glued L m, 0 ≤ v ∧ v ≤ 255 := by
  intro v hv
  obtain ⟨x, hx, hvx⟩ := List.mem_flatten.1 (List.mem_of_mem_take hv)
  exact h x hx v hvx
theorem flat_bound (L : List (List Int)) (z : Nat) (h : ∀ k, k < L.length → (L.getD k []).length ≤ z) (k : Nat) (hk : k ≤ L.length) : (L.take k).flatten.length ≤ k * z := by
  induction k with
  | zero => simp
  | succ k ih =>
    have h1 : k < L.length := by omega
    have h2 := h k h1
    have : L.getD k [] = L[k] := by simp [List.getD, h1]
    rw [this] at h2
    rw [List.take_succ_eq_append_getElem h1, List.flatten_append, List.length_append, Nat.add_mul, Nat.one_mul]
    simp
    have := ih (by omega)
    simp at this
    omega

theorem glue_neg (A : Option Addr) (n c : Nat) (many : Int) (w : World) (hm : many < 0) : Calls Tryz.prog 156 #[.slice A n c, .int .i64 many] w fun e w' => e = .returned (.tuple #[.slice none 0 0, .int .i64 1]) ∧ w' = w := by
  go_enter Tryz.func156, Tryz.ntmps156
  go_wp2_with fail
  go_returns
  exact ⟨rfl, rfl⟩

/-- what Glue answers -/
def GluePost (w : World) (m : Nat) (b : List Int) (e : Ending) (w' : World) : Prop :=
  Below w.heap.size w w' ∧ ((b.length < m ∧ e = .returned (.tuple #[.slice none 0 0, .int .i64 1])) ∨ (b.length = m ∧ ∃ v, e = .returned (.tuple #[v, .int .i64 0]) ∧ Own w.heap.size w' v b))

/-- where the loop stands -/
def GlueAt (w : World) (L : List (List Int)) (m k : Nat) (v : Value) (wr : World) : Prop := Own w.heap.size wr v (glued (L.take k) m) ∧ Below w.heap.size w wr

theorem glue_any (A : Option Addr) (n c B m z : Nat) (L : List (List Int)) (w : World) (hL : Lsts w B A n L) (hB : B ≤ w.heap.size) (hz : ∀ k, k < L.length → (L.getD k []).length ≤ z) (hnz : n * z ≤ 1000000) (hn : n ≤ 1000000) (hm : m < 9223372036854775808) :
    Calls Tryz.prog 156 #[.slice A n c, .int .i64 m] w (GluePost w m (glued L m)) := by
  have HL := Lib.hid hL
  have HB := Lib.hid hB
  have HZ := Lib.hid hz
  have HNZ := Lib.hid hnz
  have hneg : decide ((m : Int) < 0) = false := by simp
  clear hL hB hz hnz
  go_enter Tryz.func156, Tryz.ntmps156
  go_wp2_with fail
  go_loopw [6, 13] (fun v i wr => ∃ k : Nat, k ≤ n ∧ i = .int .i64 k ∧ GlueAt w L m k v wr) (fun _ i _ => n - (intOf i).toNat)
  case atStart => exact ⟨0, Nat.zero_le _, rfl, by unfold Own glued; simpa using World.ownsRow_nil _ _ _ _, Below.refl _ _⟩
  case round =>
    obtain ⟨k, hk, rfl, hat⟩ := hrel
    have hok := glued_in (L.take k) m (fun x hx => HL.out.ok x (List.mem_of_mem_take hx))
    obtain ⟨A1, c1, rfl, hc1, _⟩ := hat.1.bytes hok
    have hq := glued_le (L.take k) m
    have hLn := HL.out.1
    by_cases hlt : k < n
    · obtain ⟨b, o, rfl, hbB, hcs⟩ := HL.out.2 (by omega)
      obtain ⟨v, hv, A2, c2, rfl, hc2, hA2, hb2⟩ := hcs k hlt
      have hG := glued_succ L k m (by omega)
      have hzk := HZ.out k (by omega)
      have hfb := flat_bound L z HZ.out (k + 1) (by omega)
      have hkz : (k + 1) * z ≤ n * z := Nat.mul_le_mul_right _ hlt
      have hlen1 : (glued (L.take (k + 1)) m).length ≤ 1000000 := by
        have : (glued (L.take (k + 1)) m).length ≤ (L.take (k + 1)).flatten.length := by unfold glued; simp; omega
        have := HNZ.out
        omega
      rw [hG, List.length_append, List.length_take] at hlen1
      have hcell : wr.cell? ⟨b, o + k, none⟩ = some (.slice A2 (L.getD k []).length c2) := (hat.2.cell (p := ⟨b, o + k, none⟩) (Nat.lt_of_lt_of_le hbB HB.out)).trans hv
      obtain ⟨t, ht⟩ : ∃ t, min (m - (glued (L.take k) m).length) (L.getD k []).length = t := ⟨_, rfl⟩
      have hsrc : Bytes wr B A2 t ((L.getD k []).take (m - (glued (L.take k) m).length)) := by
        have h1 := Byv.take (bytes_below hb2 (hat.2.mono HB.out)) t (by omega)
        rwa [show (L.getD k []).take t = (L.getD k []).take (m - (glued (L.take k) m).length) by
          rw [← ht, List.take_eq_take_iff]; omega] at h1
      rw [ht] at hlen1
      obtain ⟨v', w', hr, hown, hbel⟩ := append_own wr w.heap.size 33 _ _ hat.1 A2 t c2 B _ hsrc hlen1 hat.2.size
      rw [← hG] at hown
      have R := Lib.hid (show GlueAt w L m (k + 1) v' w' from ⟨hown, hat.2.trans hbel⟩)
      have HR := Lib.hid hr
      have HT := Lib.hid ht
      obtain ⟨q, hq2⟩ : ∃ q, (glued (L.take k) m).length = q := ⟨_, rfl⟩
      obtain ⟨p, hp2⟩ : ∃ q, (L.getD k []).length = q := ⟨_, rfl⟩
      rw [hq2] at hq HR ht hc1 ⊢
      rw [hp2] at hcell ht hc2
      have hmin : min (p : Int) ((m : Int) - (q : Int)) = (t : Nat) := by omega
      have htp : t ≤ c2 := by omega
      have hk0 : (0 : Int) ≤ (k : Int) := by omega
      have hk1 : (k : Int) < (n : Int) := by omega
      clear hat hok hG hzk hfb hkz hlen1 hsrc hr hown hbel ht hv hcs hb2 HT hq2 hp2
      cases A2 with
      | none =>
        obtain rfl := hA2 rfl
        obtain rfl : t = 0 := by omega
        go_wp2_with (at_builtin; refine Lib.wpList_append_run _ rfl _ _ _ _ rfl _ _ rfl rfl _ _ HR.out ?_)
        go_roundw
        case rel => exact ⟨k + 1, by omega, by go_num, R.out⟩
        case measure => simp [intOf]; omega
      | some ad =>
        go_wp2_with (at_builtin; refine Lib.wpList_append_run _ rfl _ _ _ _ rfl _ _ rfl rfl _ _ HR.out ?_)
        go_roundw
        case rel => exact ⟨k + 1, by omega, by go_num, R.out⟩
        case measure => simp [intOf]; omega
    · obtain rfl : k = n := by omega
      have e : L.take k = L := by rw [← hLn, List.take_length]
      unfold GlueAt at hat
      rw [e] at hat hq hc1 ⊢
      have HAT := Lib.hid hat
      obtain ⟨q, hq2⟩ : ∃ q, (glued L m).length = q := ⟨_, rfl⟩
      rw [hq2] at hq hc1 HAT ⊢
      have HQ := Lib.hid hq2
      clear hat hok e hq2
      by_cases h : q < m
      · go_wp2_with fail
        go_returns
        exact ⟨HAT.out.2, .inl ⟨by rw [HQ.out]; exact h, rfl⟩⟩
      · go_wp2_with fail
        go_returns
        exact ⟨HAT.out.2, .inr ⟨by rw [HQ.out]; omega, _, rfl, HAT.out.1⟩⟩
end Go.Proofs.YthlemcnbebfliaaGreatDoor
