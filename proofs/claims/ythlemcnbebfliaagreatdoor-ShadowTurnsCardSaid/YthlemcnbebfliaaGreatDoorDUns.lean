/-
  THE WALK OF Unsynced.
-/
import Derived.Test.YthlemcnbebfliaaGreatDoorDFail
import Derived.Test.YthlemcnbebfliaaGreatDoorDPlain
import Derived.Shelf.AbstractIn
namespace Go.Proofs.YthlemcnbebfliaaGreatDoor.Dsk
open Ks Go.RowKit Go.Maps Go.Sort Go.Shelf
set_option maxRecDepth 20000

/-- the sectors that are cached, rising -/
def _root_.Ks.St.uns (s : St) : List Int := ((List.range s.last.length).filter fun i : Nat => (s.cach (i : Int)).isSome).map fun i : Nat => (i : Int)

/-- a slice of ints -/
def Ints (w : World) (F : Nat → Prop) (v : Value) (us : List Int) : Prop :=
  ∃ A c, v = .slice A us.length c ∧ us.length ≤ c ∧ (0 < us.length → ∃ b, A = some ⟨b, 0, none⟩ ∧ F b ∧ ∀ k, k < us.length → w.cell? ⟨b, k, none⟩ = some (.int .i64 (us.getD k 0)))
theorem Ints.keep {w w' : World} {F : Nat → Prop} {v : Value} {us : List Int} (h : Ints w F v us) (hk : ∀ b, F b → w'.heap[b]? = w.heap[b]?) : Ints w' F v us := by
  obtain ⟨A, c, rfl, hc, h⟩ := h
  refine ⟨A, c, rfl, hc, fun h0 => ?_⟩
  obtain ⟨b, rfl, hF, hcell⟩ := h h0
  exact ⟨b, rfl, hF, fun k hk' => (World.cell?_of_block (w := w) (hk b hF)).trans (hcell k hk')⟩
theorem Ints.there {w : World} {F : Nat → Prop} {v : Value} {us : List Int} (h : Ints w F v us) : Ints w (fun b => F b ∧ b < w.heap.size) v us := by
  obtain ⟨A, c, rfl, hc, h⟩ := h
  refine ⟨A, c, rfl, hc, fun h0 => ?_⟩
  obtain ⟨b, rfl, hF, hcell⟩ := h h0
  exact ⟨b, rfl, ⟨hF, block_lt_of_cell (hcell 0 h0)⟩, hcell⟩
theorem Ints.mono {w : World} {F G : Nat → Prop} {v : Value} {us : List Int} (h : Ints w F v us) (hG : ∀ b, F b → G b) : Ints w G v us := by
  obtain ⟨A, c, rfl, hc, h⟩ := h
  refine ⟨A, c, rfl, hc, fun h0 => ?_⟩
  obtain ⟨b, rfl, hF, hcell⟩ := h h0
  exact ⟨b, rfl, hG b hF, hcell⟩
theorem Ints.keeps {w w' : World} {F S : Nat → Prop} {v : Value} {us : List Int} (h : Ints w F v us) (hk : Keeps S w w') (hS : ∀ b, F b → b < w.heap.size → ¬ S b) : Ints w' F v us := by
  have := h.there.keep (w' := w') (fun b hb => hk.block b hb.2 (hS b hb.1 hb.2))
  exact this.mono fun b hb => hb.1
theorem Ints.of_own {w : World} {base n : Nat} {v : Value} {us : List Int} (h : w.ownsRow base 3 1 v n (us.map (Value.int .i64))) : Ints w (From base) v us := by
  have hl : us.length = n := by have := h.1; simpa using this
  subst hl
  rcases h.2 with ⟨rfl, h0⟩ | ⟨g, cap, cur, rfl, hg, hh, h1, h2, h3, h4⟩
  · have : us = [] := List.eq_nil_of_length_eq_zero h0
    subst this
    exact ⟨none, 0, rfl, Nat.le_refl _, fun h => absurd h (by simp)⟩
  · refine ⟨_, _, rfl, h1, fun h0 => ⟨g, rfl, hg, fun k hk => ?_⟩⟩
    have := h.cells (g := g) rfl k (.int .i64 (us.getD k 0)) (by simp [List.getD, hk])
    rw [Go.WideShapes.add_plain] at this
    simpa using this

def UnsPost (w : World) (us : List Int) (e : Ending) (w' : World) : Prop := ∃ v, e = .returned v ∧ Ints w' (From w.heap.size) v us ∧ Keeps No w w'

theorem sorted_uns (s : St) : s.uns.Pairwise (fun a b => a < b) := by
  unfold Ks.St.uns
  rw [List.pairwise_map]
  refine List.Pairwise.filter _ ?_
  exact List.pairwise_lt_range.imp fun h => by simpa using h
theorem mem_uns (s : St) (k : Int) : k ∈ s.uns ↔ 0 ≤ k ∧ k < s.last.length ∧ (s.cach k).isSome = true := by
  unfold Ks.St.uns
  simp only [List.mem_map, List.mem_filter, List.mem_range]
  constructor
  · rintro ⟨a, ⟨h1, h2⟩, rfl⟩
    exact ⟨Int.natCast_nonneg _, by simpa using h1, h2⟩
  · rintro ⟨h1, h2, h3⟩
    have e := Int.toNat_of_nonneg h1
    exact ⟨k.toNat, ⟨by omega, by rw [e]; exact h3⟩, e⟩

theorem keys_uns {w : World} {p : Nat} {F : Nat → Prop} {s : St} {lastV : Value} {lv : List Value} {cb : Nat} {pm : Option Nat} {D : DataW Value} (h : DiskIn Tryz.prog w p F s lastV lv cb pm D)
    {ss : List Int} (hp : ss.Perm (intKeys D)) : ss.mergeSort (fun x y => decide (x ≤ y)) = s.uns := by
  obtain ⟨es, hD, hpw, _⟩ := h.own.entries law3
  obtain ⟨es', hD', hko⟩ := h.own.keysOf
  obtain rfl : es = es' := by rw [hD] at hD'; simpa using hD'
  have hhas : ∀ k, Maps.has D (K k) = (s.cach k).isSome := fun k => by
    have := h.cache k
    cases hc : s.cach k with
    | none => rw [hc] at this; exact this
    | some bs =>
      rw [hc] at this
      obtain ⟨v, h1, _⟩ := this
      exact Maps.has_true_of_atKey h1
  have hperm : s.uns.Perm (intKeys D) := by
    rw [hD]
    refine perm_intKeys hpw (fun q hq => by obtain ⟨v, hv⟩ := hko q hq; obtain ⟨x, _, hx, _⟩ := Maps.keyOf_i64 Tryz.underlying3 hv; exact ⟨x, hx⟩) ((sorted_uns s).imp fun h => by omega) (fun x => ?_)
    rw [← hD, hhas x, mem_uns]
    constructor
    · exact fun h => h.2.2
    · intro hx
      obtain ⟨bs, hbs⟩ := Option.isSome_iff_exists.1 hx
      have := h.keys x bs hbs
      exact ⟨this.1, this.2.1, hx⟩
  have h1 := mergeSort_of_perm_i (hp.trans hperm.symm)
  have h2 : s.uns.mergeSort leI = s.uns := List.mergeSort_of_pairwise ((sorted_uns s).imp fun h => by simp [leI]; omega)
  exact h1.trans h2

theorem sortsA (m : Nat) : AnyZI.SortsIn Tryz.prog Tryz.sortedA_ren Fence.wide m :=
  ⟨fun blk off cap ss W hH hblk hsz => callsIn_wide.2 (AnyM.slices_Sort_int Tryz.sortA blk off cap ss W hH hblk hsz),
   fun p cap W => callsIn_wide.2 (AnyM.slices_Sort_int_none Tryz.sortA p cap W)⟩

set_option maxRecDepth 100000 in
set_option maxHeartbeats 2000000 in
theorem uns_any (w : World) (p : Nat) (F : Nat → Prop) (s : St) (h : DiskAt Tryz.prog w p F s) (hcn : s.cn < 1000000) : Calls Tryz.prog 39 #[.pointer (some ⟨p, 0, none⟩)] w (UnsPost w s.uns) := by
  obtain ⟨lastV, lv, b, pm, D0, hin⟩ := h
  have c2 := hin.c2
  have hown := hin.own
  have hsz := hown.size_le
  have H := Lib.hid hin
  refine (callsIn_wide (n := 6)).1 ?_
  have hbl := hown.lt
  have hseq : SeqGives Fence.wide 2 Tryz.prog 104 #[.pointer (some ⟨w.heap.size, 0, none⟩)] encZ (fun ss => ss.Perm (intKeys D0)) (Maps.size D0) (w.alloc (.cells #[.map (some b)] 98)) :=
    AnyZI.keys_gives (ρ := Tryz.keysA_ren) { Tryz.keysA with } Fence.wide _ trivial rfl (by omega) w.heap.size b s.cn D0 _ (by simp) (by simp) (by
      obtain ⟨es, clock, hb, Ft, hs, hD⟩ := hown
      exact ⟨es, clock, (Below.heap_alloc _ _ b hbl).trans hb, Ft, hs, hD⟩)
  have cK : ∀ mb W, CallsIn Fence.wide 5 Tryz.prog 75 #[.map mb] W fun e w' => e = .returned (.func (.func 104) #[] #[.pointer (some ⟨W.heap.size, 0, none⟩)]) ∧ w' = W.alloc (.cells #[.map mb] 98) := fun mb W => AnyZI.keys_in Tryz.keysA Fence.wide 5 trivial rfl mb W
  have cS := AnyZI.sorted_in Tryz.sortedA Fence.wide 5 trivial trivial trivial trivial rfl (by omega) (sortsA _) (enters_of Tryz.func103 (by kernel_rfl) rfl) 104 #[.pointer (some ⟨w.heap.size, 0, none⟩)] trivial (enters_of Tryz.func104 (by kernel_rfl) rfl) _ _ (by unfold maxLen; omega) (by omega) _ hseq
  change CallsIn _ _ Tryz.prog 74 _ _ _ at cS
  have hfK : Fence.wide.fn 75 := trivial
  have hfS : Fence.wide.fn 74 := trivial
  clear hin hown hsz hseq hcn
  refine callsIn_of_wp Tryz.func39 rfl trivial ?_ rfl
  simp only [Tryz.ntmps39, List.size_toArray, List.length_cons, List.length_nil, Nat.reduceAdd, Nat.reduceSub, Array.replicate_succ, Array.replicate_zero, List.push_toArray, List.append_toArray, List.nil_append, List.cons_append]
  gi_wp2_with (first
    | (gi_at_call 75; refine (cK _ _).mono ?_; rintro e w' ⟨rfl, rfl⟩)
    | (gi_at_call 74; refine cS.mono ?_; rintro e w' ⟨v, ss, rfl, hS, hrow, hnil, hb⟩))
  go_ret
  rw [keys_uns H.out hS] at hrow
  refine ⟨v, rfl, ?_, ?_⟩
  · exact (Ints.of_own hrow).mono fun b hb => by
      unfold From at hb ⊢
      simp at hb
      omega
  · exact ((Keeps.refl No w).alloc _).then (T := No) (Keeps.of_below hb) (fun b hb => hb.elim)
end Go.Proofs.YthlemcnbebfliaaGreatDoor.Dsk
