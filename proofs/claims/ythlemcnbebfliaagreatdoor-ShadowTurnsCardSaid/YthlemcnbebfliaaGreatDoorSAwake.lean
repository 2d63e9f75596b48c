/-
  A DISK IN A LAW'S MEMORY; THE WALK OF keepsakelaw06.awake.
-/
import Derived.Test.YthlemcnbebfliaaGreatDoorSMath
import Derived.Test.YthlemcnbebfliaaGreatDoorDNew
namespace Go.Proofs.YthlemcnbebfliaaGreatDoor
open Ks Go.RowKit
set_option maxRecDepth 20000

/-- a disk in memory that a law made: its blocks are from N on, and nothing below N was changed since w -/
structure Dk (N : Nat) (w W : World) (p : Nat) (F : Nat → Prop) (s : St) : Prop where
  disk : DiskAt Tryz.prog W p F s
  ge : ∀ b, F b → N ≤ b
  bel : Below N w W
  tab : Tab W
  two : 2 ≤ N
  le : N ≤ W.heap.size
section
variable {N : Nat} {w W w' : World} {p : Nat} {F : Nat → Prop} {s s' : St}
theorem Dk.keeps (H : Dk N w W p F s) (hk : Keeps F W w') (hd : DiskAt Tryz.prog w' p F s') : Dk N w w' p F s' := by
  have hb : Below N W w' := hk.below H.ge H.le
  exact ⟨hd, H.ge, H.bel.trans hb, tab_below H.tab hb H.two, H.two, Nat.le_trans H.le hk.size⟩
theorem Dk.reads {x : Slt} {er : Int} {e : Ending} (H : Dk N w W p F s) (h : Reads W p F s' x er e w') : Dk N w w' p F s' := H.keeps h.1 h.2.1
theorem Dk.tells {er : Int} {e : Ending} (H : Dk N w W p F s) (h : Dsk.Tells p F s' W er e w') : Dk N w w' p (Dsk.Grow F W w') s' := by
  obtain ⟨_, hd, hk⟩ := h
  have hb : Below N W w' := hk.below H.ge H.le
  exact ⟨hd, fun b hg => by rcases hg with hg | hg; exact H.ge b hg; exact Nat.le_trans H.le hg.1, H.bel.trans hb, tab_below H.tab hb H.two, H.two, Nat.le_trans H.le hk.size⟩
theorem Dk.below (H : Dk N w W p F s) (hb : Below W.heap.size W w') : Dk N w w' p F s := H.keeps (Keeps.of_below hb).no (H.disk.below_ hb)
theorem Dk.start (hT : Tab w) (hk : Keeps No w W) (hd : DiskAt Tryz.prog W p (Dsk.Grow No w W) s) : Dk w.heap.size w W p (Dsk.Grow No w W) s := by
  have hb : Below w.heap.size w W := hk.below (fun b hb => hb.elim) (Nat.le_refl _)
  exact ⟨hd, fun b hg => by rcases hg with hg | hg; exact hg.elim; exact hg.1, hb, tab_below hT hb (tab_pos hT), tab_pos hT, hk.size⟩
end
theorem ok_fresh (n : Nat) (l : List (List Int)) (m : Nat) (h8 : ∀ x ∈ l, In8 x) (h1 : l.length ≤ 4096) (h2 : n ≤ 4096) : Ok m (Dsk.fresh n l) := ⟨h8, (fun _ _ h => by cases h), Nat.zero_le _, Nat.zero_le _, Nat.zero_le _, Nat.zero_le _, h1, h2⟩
theorem in8_zeros (n : Nat) : In8 (List.replicate n 0) := fun v hv => by rw [List.eq_of_mem_replicate hv]; omega
theorem new_in8 (m n : Nat) : ∀ x ∈ List.replicate m (List.replicate n (0 : Int)), In8 x := fun x hx => by rw [List.eq_of_mem_replicate hx]; exact in8_zeros n
theorem nofail_fresh (n : Nat) (l : List (List Int)) : NoFail (Dsk.fresh n l) := fun _ => rfl
theorem put_ok {m : Nat} {s s2 : St} {which a b c er : Int} {l : List Int} (h : Ok m s) (h8 : In8 l) (hp : put_ s which a b c l = (s2, er)) : Ok (m + many l.length s.size) s2 := by
  unfold put_ at hp
  split at hp
  · rw [show s2 = _ from (congrArg Prod.fst hp).symm]
    exact h.mono (by omega)
  · rw [show s2 = _ from (congrArg Prod.fst hp).symm]
    exact (stores_ok h _ _ (secs_in h8) _).1
theorem padded_in {l : List Int} (h : In8 l) (z : Nat) : In8 (padded l z) := by
  intro v hv
  unfold padded at hv
  rcases List.mem_append.1 hv with h1 | h1
  · exact h v h1
  · exact in8_zeros _ v h1
theorem laid_ok {m : Nat} {s s2 : St} {which a b c q er : Int} {l : List Int} (h : Ok m s) (hp : laid s which a b c q l = (s2, er)) : Ok (m + 1) s2 := by
  unfold laid at hp
  split at hp
  · rw [show s2 = _ from (congrArg Prod.fst hp).symm]
    exact h.mono (by omega)
  · rw [show s2 = _ from (congrArg Prod.fst hp).symm]
    exact h.write _ _ (padded_in (enc_in _ _ _ _ _ _) _)
theorem wiped_ok {m : Nat} {s s2 : St} {which a b c er : Int} (h : Ok m s) (hp : wiped s which a b c = (s2, er)) : Ok (m + 1) s2 := by
  unfold wiped at hp
  split at hp
  · rw [show s2 = _ from (congrArg Prod.fst hp).symm]
    exact h.mono (by omega)
  · rw [show s2 = _ from (congrArg Prod.fst hp).symm]
    exact h.write _ _ (padded_in (fun v hv => by cases hv) _)
abbrev Z64 : Array Value := madeCells #[Value.int .u8 0] 64
theorem make64 (w : World) : (Instr.makeSlice 33 (.int .i64 64) (.int .i64 64)).run Tryz.prog w = .ok (.slice (some ⟨w.heap.size, 0, none⟩) 64 64) (w.alloc (.cells Z64 5)) := make_bytes 64 (by omega) w
theorem bytes64 (w : World) : Bytes (w.alloc (.cells Z64 5)) (w.alloc (.cells Z64 5)).heap.size (some ⟨w.heap.size, 0, none⟩) 64 (List.replicate 64 0) := (row_made w 64).bytes (in8_zeros 64) (by simp)
end Go.Proofs.YthlemcnbebfliaaGreatDoor
