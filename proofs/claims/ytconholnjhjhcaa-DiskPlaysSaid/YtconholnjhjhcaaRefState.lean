/-
  THE REFERENCE's DISK AS A VALUE, AND IN MEMORY.
-/
import Derived.Test.YtconholnjhjhcaaMade
import Derived.Test.YtconholnjhjhcaaJoin
import Derived.Test.YtconholnjhjhcaaRefLeft
namespace Ks
open Go Go.RowKit

/-- the reference's disk: its size; what lasts, and is cached, sector by sector; which operations are planned to fail; the counts -/
structure RS where
  size : Nat
  last : List (List Int)
  cach : List (Option (List Int))
  plans : List Int
  ops : Nat
  wr : Nat

/-- a sector's cached bytes; nil: none -/
def Cac (w : World) (F : Nat → Prop) (v : Value) : Option (List Int) → Prop
  | none => v = .slice none 0 0
  | some bs => Byt w F v bs ∧ 0 < bs.length

structure RefIn (w : World) (q : Nat) (F : Nat → Prop) (s : RS) (lastV : Value) (lv : List Value) (cachV : Value) (cv : List Value) (planV : Value) : Prop where
  blk : Blk w q 43 #[.int .i64 s.size, lastV, cachV, planV, .int .i64 s.ops, .int .i64 s.wr]
  fq : F q
  row : w.ownsRow 0 31 1 lastV s.last.length lv
  frow : ∀ g, lastV.ownBlock = some g → F g
  crow : w.ownsRow 0 31 1 cachV s.last.length cv
  fcrow : ∀ g, cachV.ownBlock = some g → F g
  apart : ∀ g, lastV.ownBlock = some g → cachV.ownBlock ≠ some g
  sect : ∀ i, i < s.last.length → Byt w F (lv.getD i undef) (s.last.getD i [])
  lens : ∀ i, i < s.last.length → (s.last.getD i []).length = s.size
  clen : s.cach.length = s.last.length
  csect : ∀ i, i < s.last.length → Cac w F (cv.getD i undef) (s.cach.getD i none)
  clens : ∀ i bs, s.cach.getD i none = some bs → bs.length = s.size
  size1 : 1 ≤ s.size
  prow : w.ownsRow 0 3 1 planV s.plans.length (s.plans.map (Value.int .i64))
  fprow : ∀ g, planV.ownBlock = some g → F g
  there : ∀ b, F b → b < w.heap.size

def RefAt (w : World) (q : Nat) (F : Nat → Prop) (s : RS) : Prop := ∃ lastV lv cachV cv planV, RefIn w q F s lastV lv cachV cv planV

section
variable {w w' : World} {q : Nat} {F G : Nat → Prop} {s : RS} {lastV cachV planV : Value} {lv cv : List Value}

theorem Cac.keep {v : Value} {o : Option (List Int)} (h : Cac w F v o) (hk : ∀ b, Byb w F b → w'.heap[b]? = w.heap[b]?) : Cac w' F v o := by
  cases o with
  | none => exact h
  | some bs => exact ⟨h.1.keep hk, h.2⟩
theorem Cac.mono {v : Value} {o : Option (List Int)} (h : Cac w F v o) (hG : ∀ b, F b → G b) : Cac w G v o := by
  cases o with
  | none => exact h
  | some bs => exact ⟨h.1.mono hG, h.2⟩

theorem RefIn.keep (h : RefIn w q F s lastV lv cachV cv planV) (he : ∀ b, F b → w'.heap[b]? = w.heap[b]?) (hs : w.heap.size ≤ w'.heap.size) : RefIn w' q F s lastV lv cachV cv planV :=
  ⟨h.blk.of_eq (he _ h.fq), h.fq, ownsRow_of_eq h.row (fun g hg => he g (h.frow g hg)), h.frow, ownsRow_of_eq h.crow (fun g hg => he g (h.fcrow g hg)), h.fcrow, h.apart,
   fun i hi => (h.sect i hi).keep fun b hb => he b hb.1, h.lens, h.clen, fun i hi => (h.csect i hi).keep fun b hb => he b hb.1, h.clens, h.size1,
   ownsRow_of_eq h.prow (fun g hg => he g (h.fprow g hg)), h.fprow, fun b hb => Nat.lt_of_lt_of_le (h.there b hb) hs⟩
theorem RefIn.mono (h : RefIn w q F s lastV lv cachV cv planV) (he : ∀ b, F b → G b) (hG : ∀ b, G b → b < w.heap.size) : RefIn w q G s lastV lv cachV cv planV :=
  ⟨h.blk, he _ h.fq, h.row, fun g hg => he g (h.frow g hg), h.crow, fun g hg => he g (h.fcrow g hg), h.apart, fun i hi => (h.sect i hi).mono he, h.lens, h.clen, fun i hi => (h.csect i hi).mono he, h.clens, h.size1,
   h.prow, fun g hg => he g (h.fprow g hg), hG⟩
theorem RefAt.there (h : RefAt w q F s) : ∀ b, F b → b < w.heap.size := by
  obtain ⟨_, _, _, _, _, h⟩ := h
  exact h.there
theorem RefAt.keep (h : RefAt w q F s) (he : ∀ b, F b → w'.heap[b]? = w.heap[b]?) (hs : w.heap.size ≤ w'.heap.size) : RefAt w' q F s := by
  obtain ⟨_, _, _, _, _, h⟩ := h
  exact ⟨_, _, _, _, _, h.keep he hs⟩
theorem RefAt.keeps {S : Nat → Prop} (h : RefAt w q F s) (hk : Keeps S w w') (hS : ∀ b, F b → ¬ S b) : RefAt w' q F s :=
  h.keep (fun b hb => hk.block b (h.there b hb) (hS b hb)) hk.size
theorem RefAt.mono (h : RefAt w q F s) (he : ∀ b, F b → G b) (hG : ∀ b, G b → b < w.heap.size) : RefAt w q G s := by
  obtain ⟨_, _, _, _, _, h⟩ := h
  exact ⟨_, _, _, _, _, h.mono he hG⟩

theorem RefIn.c0 (h : RefIn w q F s lastV lv cachV cv planV) : w.cell? ⟨q, 0, none⟩ = some (.int .i64 s.size) := h.blk.cell 0
theorem RefIn.c1 (h : RefIn w q F s lastV lv cachV cv planV) : w.cell? ⟨q, 1, none⟩ = some lastV := h.blk.cell 1
theorem RefIn.c2 (h : RefIn w q F s lastV lv cachV cv planV) : w.cell? ⟨q, 2, none⟩ = some cachV := h.blk.cell 2
theorem RefIn.c3 (h : RefIn w q F s lastV lv cachV cv planV) : w.cell? ⟨q, 3, none⟩ = some planV := h.blk.cell 3
theorem RefIn.c4 (h : RefIn w q F s lastV lv cachV cv planV) : w.cell? ⟨q, 4, none⟩ = some (.int .i64 s.ops) := h.blk.cell 4
theorem RefIn.c5 (h : RefIn w q F s lastV lv cachV cv planV) : w.cell? ⟨q, 5, none⟩ = some (.int .i64 s.wr) := h.blk.cell 5

/-- a row's block is of its elements' type -/
theorem row_of {base e size n : Nat} {v : Value} {xs : List Value} (h : w.ownsRow base e size v n xs) {g : Nat} (hg : v.ownBlock = some g) : ∃ cur, Blk w g e cur := by
  rcases h.2 with ⟨rfl, _⟩ | ⟨g', cap, cur, rfl, _, hh, _⟩
  · cases hg
  · simp [Value.ownBlock] at hg
    subst hg
    exact ⟨cur, hh⟩
theorem byb_ne {b g : Nat} {t : TypeId} {cur : Array Value} (hb : Byb w G b) (hg : Blk w g t cur) (ht : t ≠ 5) : b ≠ g := by
  rintro rfl
  obtain ⟨_, cs, e⟩ := hb
  unfold Blk at hg
  rw [e] at hg
  injection hg with hg
  injection hg with _ h
  exact ht h.symm

/-- the reference's own blocks that are written -/
def RMuts (q : Nat) (lastV cachV planV : Value) : Nat → Prop := fun b => b = q ∨ lastV.ownBlock = some b ∨ cachV.ownBlock = some b ∨ planV.ownBlock = some b
theorem RefIn.muts (h : RefIn w q F s lastV lv cachV cv planV) {b : Nat} (hb : RMuts q lastV cachV planV b) : F b := by
  rcases hb with rfl | hb | hb | hb
  · exact h.fq
  · exact h.frow b hb
  · exact h.fcrow b hb
  · exact h.fprow b hb
theorem RefIn.apart_bytes (h : RefIn w q F s lastV lv cachV cv planV) {b : Nat} (hb : Byb w G b) : ¬ RMuts q lastV cachV planV b := by
  rintro (e | e | e | e)
  · exact byb_ne hb h.blk (by decide) e
  · obtain ⟨cur, hc⟩ := row_of h.row e
    exact byb_ne hb hc (by decide) rfl
  · obtain ⟨cur, hc⟩ := row_of h.crow e
    exact byb_ne hb hc (by decide) rfl
  · obtain ⟨cur, hc⟩ := row_of h.prow e
    exact byb_ne hb hc (by decide) rfl
theorem RefIn.bytes (h : RefIn w q F s lastV lv cachV cv planV) (hk : Keeps (RMuts q lastV cachV planV) w w') {v : Value} {bs : List Int} (hv : Byt w G v bs) : Byt w' G v bs :=
  hv.keeps hk fun _ hb => h.apart_bytes hb
theorem RefIn.cacs (h : RefIn w q F s lastV lv cachV cv planV) (hk : Keeps (RMuts q lastV cachV planV) w w') {v : Value} {o : Option (List Int)} (hv : Cac w G v o) : Cac w' G v o := by
  cases o with
  | none => exact hv
  | some bs => exact ⟨h.bytes hk hv.1, hv.2⟩
theorem RefIn.q_row (h : RefIn w q F s lastV lv cachV cv planV) : lastV.ownBlock ≠ some q ∧ cachV.ownBlock ≠ some q ∧ planV.ownBlock ≠ some q := by
  refine ⟨fun e => ?_, fun e => ?_, fun e => ?_⟩
  · obtain ⟨cur, hc⟩ := row_of h.row e
    exact h.blk.ne_ hc (by decide) rfl
  · obtain ⟨cur, hc⟩ := row_of h.crow e
    exact h.blk.ne_ hc (by decide) rfl
  · obtain ⟨cur, hc⟩ := row_of h.prow e
    exact h.blk.ne_ hc (by decide) rfl
theorem RefIn.plan_row (h : RefIn w q F s lastV lv cachV cv planV) {g : Nat} (e : planV.ownBlock = some g) : lastV.ownBlock ≠ some g ∧ cachV.ownBlock ≠ some g := by
  obtain ⟨cur, hc⟩ := row_of h.prow e
  refine ⟨fun e => ?_, fun e => ?_⟩
  · obtain ⟨cur', hc'⟩ := row_of h.row e
    exact hc.ne_ hc' (by decide) rfl
  · obtain ⟨cur', hc'⟩ := row_of h.crow e
    exact hc.ne_ hc' (by decide) rfl

/-- only the disk's own block has changed: its counts -/
theorem RefIn.counts (h : RefIn w q F s lastV lv cachV cv planV) (he : Keeps (fun b => b = q) w w') (o r : Nat) (hb : Blk w' q 43 #[.int .i64 s.size, lastV, cachV, planV, .int .i64 o, .int .i64 r]) :
    RefIn w' q F { s with ops := o, wr := r } lastV lv cachV cv planV := by
  have hm : Keeps (RMuts q lastV cachV planV) w w' := he.mono fun b hb => .inl hb
  have hr : ∀ {base e size n : Nat} {v : Value} {xs : List Value}, w.ownsRow base e size v n xs → v.ownBlock ≠ some q → w'.ownsRow base e size v n xs := fun hx hq =>
    ownsRow_of_eq hx fun g hg => by
      obtain ⟨cur, hc⟩ := row_of hx hg
      exact he.block g hc.lt (fun e => hq (e ▸ hg))
  exact ⟨hb, h.fq, hr h.row h.q_row.1, h.frow, hr h.crow h.q_row.2.1, h.fcrow, h.apart, fun i hi => h.bytes hm (h.sect i hi), h.lens, h.clen, fun i hi => h.cacs hm (h.csect i hi), h.clens, h.size1,
    hr h.prow h.q_row.2.2, h.fprow, fun b hb => Nat.lt_of_lt_of_le (h.there b hb) he.size⟩

/-- a row with another element in its block: other blocks are as they were -/
theorem set_keeps (g i : Nat) (v : Value) : Keeps (fun b => b = g) w (w.setCell ⟨g, i, none⟩ v) := (Keeps.refl (fun b => b = g) w).set_ (p := ⟨g, i, none⟩) (.inl rfl) v

/-- an element of a row -/
theorem row_cell_ {base e n i : Nat} {v : Value} {xs : List Value} (h : w.ownsRow base e 1 v n xs) (hi : i < n) :
    ∃ g c cur, v = .slice (some ⟨g, 0, none⟩) n c ∧ n ≤ c ∧ Blk w g e cur ∧ w.cell? ⟨g, i, none⟩ = some (xs.getD i undef) := by
  have hx := h
  have hl : xs.length = n := by have := h.1; simpa using this
  rcases h.2 with ⟨rfl, h0⟩ | ⟨g, cap, cur, rfl, _, hh, hn, _⟩
  · omega
  · refine ⟨g, cap, cur, rfl, hn, hh, ?_⟩
    have := hx.cells (g := g) rfl i (xs.getD i undef) (by simp [List.getD, show i < xs.length by omega])
    rw [Go.WideShapes.add_plain] at this
    simpa using this

theorem getD_set {α : Type} (l : List α) (i j : Nat) (x d : α) (hi : i < l.length) : (l.set i x).getD j d = if i = j then x else l.getD j d := by
  by_cases e : i = j
  · subst e
    rw [if_pos rfl]
    simp [List.getD, hi]
  · rw [if_neg e]
    simp only [List.getD, List.getElem?_set_ne e]
end
end Ks

namespace Go.Proofs.Ytconholnjhjhcaa
open Ks Go.RowKit
section
variable {w w' : World} {q : Nat} {F G : Nat → Prop} {s : RS} {lastV cachV planV : Value} {lv cv : List Value}

/-- another element in the row of what is cached -/
theorem ref_setC {g c : Nat} (h : RefIn w q F s lastV lv (.slice (some ⟨g, 0, none⟩) s.last.length c) cv planV) (i : Nat) (hi : i < s.last.length) (v : Value) (o : Option (List Int)) (hv : Cac w F v o) (ho : ∀ bs, o = some bs → bs.length = s.size) :
    RefIn (w.setCell ⟨g, i, none⟩ v) q F { s with cach := s.cach.set i o } lastV lv (.slice (some ⟨g, 0, none⟩) s.last.length c) (cv.set i v) planV := by
  have hk := set_keeps (w := w) g i v
  have hm : Keeps (RMuts q lastV (.slice (some ⟨g, 0, none⟩) s.last.length c) planV) w (w.setCell ⟨g, i, none⟩ v) := hk.mono fun b hb => .inr (.inr (.inl (by rw [hb]; rfl)))
  have hcl : cv.length = s.last.length := by have := h.crow.1; simpa using this
  refine ⟨h.blk.of_eq (hk.block q h.blk.lt (fun e => h.q_row.2.1 (by rw [e]; rfl))), h.fq, ownsRow_of_eq h.row (fun b hb => ?_), h.frow, row_set h.crow v, h.fcrow, h.apart, fun k hk' => h.bytes hm (h.sect k hk'), h.lens, ?_, fun k hk' => ?_, fun k bs hb => ?_, h.size1, ownsRow_of_eq h.prow (fun b hb => ?_), h.fprow, fun b hb => ?_⟩
  · obtain ⟨cur, hc⟩ := row_of h.row hb
    exact hk.block b hc.lt (fun e => h.apart b hb (by rw [e]; rfl))
  · simpa using h.clen
  · rw [getD_set _ _ _ _ _ (by omega), getD_set _ _ _ _ _ (by rw [h.clen]; exact hi)]
    split
    · exact h.cacs hm hv
    · exact h.cacs hm (h.csect k hk')
  · rw [getD_set _ _ _ _ _ (by rw [h.clen]; exact hi)] at hb
    split at hb
    · exact ho bs hb
    · exact h.clens k bs hb
  · obtain ⟨cur, hc⟩ := row_of h.prow hb
    exact hk.block b hc.lt (fun e => (h.plan_row hb).2 (by rw [e]; rfl))
  · have := h.there b hb
    simpa [World.setCell] using this

/-- another element in the row of what lasts -/
theorem ref_setL {g c : Nat} (h : RefIn w q F s (.slice (some ⟨g, 0, none⟩) s.last.length c) lv cachV cv planV) (i : Nat) (hi : i < s.last.length) (v : Value) (bs : List Int) (hv : Byt w F v bs) (hl : bs.length = s.size) :
    RefIn (w.setCell ⟨g, i, none⟩ v) q F { s with last := s.last.set i bs } (.slice (some ⟨g, 0, none⟩) s.last.length c) (lv.set i v) cachV cv planV := by
  have hk := set_keeps (w := w) g i v
  have hm : Keeps (RMuts q (.slice (some ⟨g, 0, none⟩) s.last.length c) cachV planV) w (w.setCell ⟨g, i, none⟩ v) := hk.mono fun b hb => .inr (.inl (by rw [hb]; rfl))
  have hcl : lv.length = s.last.length := by have := h.row.1; simpa using this
  refine ⟨h.blk.of_eq (hk.block q h.blk.lt (fun e => h.q_row.1 (by rw [e]; rfl))), h.fq, ?_, h.frow, ownsRow_of_eq (w := w) ?_ (fun b hb => ?_), h.fcrow, h.apart, fun k hk' => ?_, fun k hk' => ?_, ?_, fun k hk' => ?_, h.clens, h.size1, ownsRow_of_eq h.prow (fun b hb => ?_), h.fprow, fun b hb => ?_⟩
  · simp only [List.length_set]
    exact row_set h.row v
  · simp only [List.length_set]
    exact h.crow
  · obtain ⟨cur, hc⟩ := row_of h.crow hb
    exact hk.block b hc.lt (fun e => h.apart b (by rw [e]; rfl) hb)
  · simp only [List.length_set] at hk' ⊢
    rw [getD_set _ _ _ _ _ (by omega), getD_set _ _ _ _ _ hi]
    split
    · exact h.bytes hm hv
    · exact h.bytes hm (h.sect k hk')
  · simp only [List.length_set] at hk' ⊢
    rw [getD_set _ _ _ _ _ hi]
    split
    · exact hl
    · exact h.lens k hk'
  · simpa using h.clen
  · simp only [List.length_set] at hk'
    exact h.cacs hm (h.csect k hk')
  · obtain ⟨cur, hc⟩ := row_of h.prow hb
    exact hk.block b hc.lt (fun e => (h.plan_row hb).1 (by rw [e]; rfl))
  · have := h.there b hb
    simpa [World.setCell] using this
end
end Go.Proofs.Ytconholnjhjhcaa
