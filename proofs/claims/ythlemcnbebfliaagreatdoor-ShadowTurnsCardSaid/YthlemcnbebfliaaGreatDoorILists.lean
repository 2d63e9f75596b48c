/-
  WHAT IS CUT, AS LISTS.
-/
import Derived.Test.YthlemcnbebfliaaGreatDoorIGlue
import Derived.Test.YthlemcnbebfliaaGreatDoorICut
namespace Go.Proofs.YthlemcnbebfliaaGreatDoor
open Ks Go.RowKit
set_option maxRecDepth 20000

/-- the pieces of what is filled -/
def cutL (X : List Int) (size s : Nat) : List (List Int) := (List.range s).map fun i => (X.drop (i * size)).take size
theorem cutL_len (X : List Int) (size s : Nat) : (cutL X size s).length = s := by simp [cutL]
theorem cutL_get (X : List Int) (size s k : Nat) (h : k < s) : (cutL X size s).getD k [] = (X.drop (k * size)).take size := by simp [cutL, List.getD, h]
theorem cutL_succ (X : List Int) (size k : Nat) : cutL X size (k + 1) = cutL X size k ++ [(X.drop (k * size)).take size] := by
  unfold cutL
  rw [List.range_succ, List.map_append]
  rfl
theorem cutL_flat (X : List Int) (size s : Nat) : (cutL X size s).flatten = X.take (s * size) := by
  induction s with
  | zero => simp [cutL]
  | succ k ih =>
    rw [cutL_succ, List.flatten_append, ih, Nat.add_mul, Nat.one_mul, List.take_add]
    simp
theorem fill_len (l : List Int) (m : Nat) (h : l.length ≤ m) : (fill l m).length = m := by simp [fill]; omega
theorem fill_in (l : List Int) (m : Nat) (h : ∀ v ∈ l, 0 ≤ v ∧ v ≤ 255) : ∀ v ∈ fill l m, 0 ≤ v ∧ v ≤ 255 := by
  intro v hv
  rcases List.mem_append.1 hv with h' | h'
  · exact h v h'
  · rw [List.eq_of_mem_replicate h']; omega
theorem cutL_piece_len (X : List Int) (size s k : Nat) (h : k < s) (hX : X.length = s * size) : ((cutL X size s).getD k []).length = size := by
  rw [cutL_get X size s k h, List.length_take, List.length_drop, hX]
  have : (k + 1) * size ≤ s * size := Nat.mul_le_mul_right _ h
  rw [Nat.add_mul, Nat.one_mul] at this
  omega
theorem Cuts.lsts {w w' : World} {g h s size : Nat} {X : List Int} (H : Cuts w w' g h s size X) (hX : X.length = s * size) (hv : ∀ v ∈ X, 0 ≤ v ∧ v ≤ 255) : Lsts w' w'.heap.size (some ⟨g, 0, none⟩) s (cutL X size s) := by
  refine ⟨cutL_len _ _ _, fun hs => ⟨g, 0, rfl, H.val.lt, fun k hk => ⟨.slice (some ⟨h, k * size, none⟩) size size, ?_, ?_⟩⟩⟩
  · rw [Nat.zero_add, H.val.cell, pcs_get h size s s k hk]
  · have hl := cutL_piece_len X size s k hk hX
    refine ⟨_, _, by rw [hl], by rw [hl]; exact Nat.le_refl _, (fun h => by cases h), ?_⟩
    rw [hl, cutL_get X size s k hk]
    have : (k + 1) * size ≤ s * size := Nat.mul_le_mul_right _ hk
    rw [Nat.add_mul, Nat.one_mul] at this
    exact H.row.part hv (k * size) size (by omega)
/-- what is cut is glued -/
theorem glued_cut (l : List Int) (size s : Nat) (h : l.length ≤ s * size) : glued (cutL (fill l (s * size)) size s) l.length = l := by
  unfold glued
  rw [cutL_flat, List.take_take, Nat.min_eq_left h]
  unfold fill
  rw [List.take_left' rfl]
theorem glued_short (X : List Int) (size s m : Nat) (h : X.length = s * size) (hm : s * size ≤ m) : (glued (cutL X size s) m).length = s * size := by
  unfold glued
  rw [cutL_flat, List.take_of_length_le (by simp; omega), List.length_take]
  omega
theorem cut_at (A : Option Addr) (n c B size s : Nat) (l : List Int) (w : World) (hl : Bytes w B A n l) (hB : B ≤ w.heap.size) (h1 : 1 ≤ size) (h2 : size ≤ 4096) (hn : n ≤ 100000) (hs : many n size = s) :
    Calls Tryz.prog 117 #[.slice A n c, .int .i64 size] w fun e w' => ∃ g h, e = .returned (.tuple #[.slice (some ⟨g, 0, none⟩) s s, .int .i64 0]) ∧ Cuts w w' g h s size (fill l (s * size)) := hs ▸ cut_ok A n c B size l w hl hB h1 h2 hn
theorem glue_ok (A : Option Addr) (n c B m z : Nat) (L : List (List Int)) (b : List Int) (w : World) (hL : Lsts w B A n L) (hB : B ≤ w.heap.size) (hz : ∀ k, k < L.length → (L.getD k []).length ≤ z) (hnz : n * z ≤ 1000000) (hn : n ≤ 1000000) (hm : m < 9223372036854775808) (hb : glued L m = b) (hlen : b.length = m) :
    Calls Tryz.prog 156 #[.slice A n c, .int .i64 m] w fun e w' => Below w.heap.size w w' ∧ ∃ A' c', e = .returned (.tuple #[.slice A' m c', .int .i64 0]) ∧ Bytes w' w'.heap.size A' m b := by
  refine (glue_any A n c B m z L w hL hB hz hnz hn hm).mono ?_
  rintro e w' ⟨h1, ⟨h2, _⟩ | ⟨_, v, rfl, ho⟩⟩
  · rw [hb] at h2; omega
  · rw [hb] at ho
    obtain ⟨A', c', rfl, _, hy⟩ := ho.bytes (by rw [← hb]; exact glued_in L m hL.ok)
    rw [hlen] at hy ⊢
    exact ⟨h1, A', c', rfl, hy⟩
theorem glue_few (A : Option Addr) (n c B m z : Nat) (L : List (List Int)) (w : World) (hL : Lsts w B A n L) (hB : B ≤ w.heap.size) (hz : ∀ k, k < L.length → (L.getD k []).length ≤ z) (hnz : n * z ≤ 1000000) (hn : n ≤ 1000000) (hm : m < 9223372036854775808) (hlen : (glued L m).length < m) :
    Calls Tryz.prog 156 #[.slice A n c, .int .i64 m] w fun e w' => e = .returned (.tuple #[.slice none 0 0, .int .i64 1]) ∧ Below w.heap.size w w' := by
  refine (glue_any A n c B m z L w hL hB hz hnz hn hm).mono ?_
  rintro e w' ⟨h1, ⟨_, rfl⟩ | ⟨h2, _⟩⟩
  · exact ⟨rfl, h1⟩
  · omega
end Go.Proofs.YthlemcnbebfliaaGreatDoor
