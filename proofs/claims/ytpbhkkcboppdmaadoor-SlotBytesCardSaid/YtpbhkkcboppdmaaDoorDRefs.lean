/-
  A ROW's BLOCK; append AS ONE STEP OF A REGION THAT DRAWS.
  THE REFERENCE's DISK AS A VALUE, AND IN MEMORY.
  WHERE THE REFERENCE OPENS NO DISK.
  THE WALKS OF THE REFERENCE's Open, New.
  THE WALKS OF THE REFERENCE's fails, Read.
  THE DISK AND THE REFERENCE's GO ALIKE.
-/
import Derived.Test.YtpbhkkcboppdmaaDoorDNew
import Derived.Deep.RegionLaw
import Derived.Deep.DeepCutAuto
import Derived.WalkSpells
namespace Go.Proofs.YtpbhkkcboppdmaaDoor.Dsk
open Ks Go.RowKit
set_option maxRecDepth 20000

theorem own_base {w : World} {base e size n : Nat} {v : Value} {xs : List Value} (h : w.ownsRow base e size v n xs) {g : Nat} (hg : v.ownBlock = some g) : base ≤ g := by
  rcases h.2 with ⟨rfl, _⟩ | ⟨g', cap, cur, rfl, hb, _⟩
  · simp [Value.ownBlock] at hg
  · simp [Value.ownBlock] at hg
    omega
/-- append as one step of a region that draws -/
theorem step_append {P : Program} {ops : Array Oper} {o : Oper} {a : Act} {w : World} {K : Act → World → Prop} {Q : Exit → Act → World → Prop} {E : Prop}
    (hg : o.guard = none) (s x : Operand) (t : TypeId) (hop : o.op = Op.call { callee := Callee.builtin Builtin.append, args := #[s, x], argTypes := #[t, t] })
    (v u : Value) (hs : a.eval s = v) (hx : a.eval x = u) (R : Value → World → Prop) (hrun : ∃ v' w', (Builtin.append_ #[t, t] o.type #[v, u]).run P w = .ok v' w' ∧ R v' w')
    (hK : ∀ v' w', R v' w' → K (a.put o.dst v') w') :
    if Region.wanted o (yielded ops a.tmps) = true then Oper.wp P o a w K Q else E := by
  have hw : Region.wanted o (yielded ops a.tmps) = true := by simp [Region.wanted, hg]
  rw [if_pos hw]
  obtain ⟨v', w', hr, hR⟩ := hrun
  have := hK v' w' hR
  unfold Oper.wp
  simp [execOp, hop, resolve, invoke, builtin, hs, hx, hr, Result.andThen]
  exact this
end Go.Proofs.YtpbhkkcboppdmaaDoor.Dsk
namespace Ks
open Go Go.RowKit

/-- the reference's disk: its size; what lasts, and is cached, sector by sector; which operations are planned to fail; the counts -/
structure RS where
  size : Nat
  last : List (List Int)
  cach : List (Option (List Int))
  plans : List Int
  ops : Nat
  wr : Nat

/-- a sector's cached bytes; nil: none -/
def Cac (w : World) (F : Nat → Prop) (v : Value) : Option (List Int) → Prop
  | none => v = .slice none 0 0
  | some bs => Byt w F v bs ∧ 0 < bs.length

structure RefIn (w : World) (q : Nat) (F : Nat → Prop) (s : RS) (lastV : Value) (lv : List Value) (cachV : Value) (cv : List Value) (planV : Value) : Prop where
  blk : Blk w q 73 #[.int .i64 s.size, lastV, cachV, planV, .int .i64 s.ops, .int .i64 s.wr]
  fq : F q
  row : w.ownsRow 0 27 1 lastV s.last.length lv
  frow : ∀ g, lastV.ownBlock = some g → F g
  crow : w.ownsRow 0 27 1 cachV s.last.length cv
  fcrow : ∀ g, cachV.ownBlock = some g → F g
  apart : ∀ g, lastV.ownBlock = some g → cachV.ownBlock ≠ some g
  sect : ∀ i, i < s.last.length → Byt w F (lv.getD i undef) (s.last.getD i [])
  lens : ∀ i, i < s.last.length → (s.last.getD i []).length = s.size
  clen : s.cach.length = s.last.length
  csect : ∀ i, i < s.last.length → Cac w F (cv.getD i undef) (s.cach.getD i none)
  clens : ∀ i bs, s.cach.getD i none = some bs → bs.length = s.size
  size1 : 1 ≤ s.size
  prow : w.ownsRow 0 3 1 planV s.plans.length (s.plans.map (Value.int .i64))
  fprow : ∀ g, planV.ownBlock = some g → F g
  there : ∀ b, F b → b < w.heap.size

def RefAt (w : World) (q : Nat) (F : Nat → Prop) (s : RS) : Prop := ∃ lastV lv cachV cv planV, RefIn w q F s lastV lv cachV cv planV

section
variable {w w' : World} {q : Nat} {F G : Nat → Prop} {s : RS} {lastV cachV planV : Value} {lv cv : List Value}

theorem Cac.keep {v : Value} {o : Option (List Int)} (h : Cac w F v o) (hk : ∀ b, Byb w F b → w'.heap[b]? = w.heap[b]?) : Cac w' F v o := by
  cases o with
  | none => exact h
  | some bs => exact ⟨h.1.keep hk, h.2⟩
theorem Cac.mono {v : Value} {o : Option (List Int)} (h : Cac w F v o) (hG : ∀ b, F b → G b) : Cac w G v o := by
  cases o with
  | none => exact h
  | some bs => exact ⟨h.1.mono hG, h.2⟩

theorem RefIn.keep (h : RefIn w q F s lastV lv cachV cv planV) (he : ∀ b, F b → w'.heap[b]? = w.heap[b]?) (hs : w.heap.size ≤ w'.heap.size) : RefIn w' q F s lastV lv cachV cv planV :=
  ⟨h.blk.of_eq (he _ h.fq), h.fq, ownsRow_of_eq h.row (fun g hg => he g (h.frow g hg)), h.frow, ownsRow_of_eq h.crow (fun g hg => he g (h.fcrow g hg)), h.fcrow, h.apart,
   fun i hi => (h.sect i hi).keep fun b hb => he b hb.1, h.lens, h.clen, fun i hi => (h.csect i hi).keep fun b hb => he b hb.1, h.clens, h.size1,
   ownsRow_of_eq h.prow (fun g hg => he g (h.fprow g hg)), h.fprow, fun b hb => Nat.lt_of_lt_of_le (h.there b hb) hs⟩
theorem RefIn.mono (h : RefIn w q F s lastV lv cachV cv planV) (he : ∀ b, F b → G b) (hG : ∀ b, G b → b < w.heap.size) : RefIn w q G s lastV lv cachV cv planV :=
  ⟨h.blk, he _ h.fq, h.row, fun g hg => he g (h.frow g hg), h.crow, fun g hg => he g (h.fcrow g hg), h.apart, fun i hi => (h.sect i hi).mono he, h.lens, h.clen, fun i hi => (h.csect i hi).mono he, h.clens, h.size1,
   h.prow, fun g hg => he g (h.fprow g hg), hG⟩
theorem RefAt.there (h : RefAt w q F s) : ∀ b, F b → b < w.heap.size := by
  obtain ⟨_, _, _, _, _, h⟩ := h
  exact h.there
theorem RefAt.keep (h : RefAt w q F s) (he : ∀ b, F b → w'.heap[b]? = w.heap[b]?) (hs : w.heap.size ≤ w'.heap.size) : RefAt w' q F s := by
  obtain ⟨_, _, _, _, _, h⟩ := h
  exact ⟨_, _, _, _, _, h.keep he hs⟩
theorem RefAt.keeps {S : Nat → Prop} (h : RefAt w q F s) (hk : Keeps S w w') (hS : ∀ b, F b → ¬ S b) : RefAt w' q F s :=
  h.keep (fun b hb => hk.block b (h.there b hb) (hS b hb)) hk.size
theorem RefAt.mono (h : RefAt w q F s) (he : ∀ b, F b → G b) (hG : ∀ b, G b → b < w.heap.size) : RefAt w q G s := by
  obtain ⟨_, _, _, _, _, h⟩ := h
  exact ⟨_, _, _, _, _, h.mono he hG⟩

theorem RefIn.c0 (h : RefIn w q F s lastV lv cachV cv planV) : w.cell? ⟨q, 0, none⟩ = some (.int .i64 s.size) := h.blk.cell 0
theorem RefIn.c1 (h : RefIn w q F s lastV lv cachV cv planV) : w.cell? ⟨q, 1, none⟩ = some lastV := h.blk.cell 1
theorem RefIn.c2 (h : RefIn w q F s lastV lv cachV cv planV) : w.cell? ⟨q, 2, none⟩ = some cachV := h.blk.cell 2
theorem RefIn.c3 (h : RefIn w q F s lastV lv cachV cv planV) : w.cell? ⟨q, 3, none⟩ = some planV := h.blk.cell 3
theorem RefIn.c4 (h : RefIn w q F s lastV lv cachV cv planV) : w.cell? ⟨q, 4, none⟩ = some (.int .i64 s.ops) := h.blk.cell 4
theorem RefIn.c5 (h : RefIn w q F s lastV lv cachV cv planV) : w.cell? ⟨q, 5, none⟩ = some (.int .i64 s.wr) := h.blk.cell 5

/-- a row's block is of its elements' type -/
theorem row_of {base e size n : Nat} {v : Value} {xs : List Value} (h : w.ownsRow base e size v n xs) {g : Nat} (hg : v.ownBlock = some g) : ∃ cur, Blk w g e cur := by
  rcases h.2 with ⟨rfl, _⟩ | ⟨g', cap, cur, rfl, _, hh, _⟩
  · cases hg
  · simp [Value.ownBlock] at hg
    subst hg
    exact ⟨cur, hh⟩
theorem byb_ne {b g : Nat} {t : TypeId} {cur : Array Value} (hb : Byb w G b) (hg : Blk w g t cur) (ht : t ≠ 5) : b ≠ g := by
  rintro rfl
  obtain ⟨_, cs, e⟩ := hb
  unfold Blk at hg
  rw [e] at hg
  injection hg with hg
  injection hg with _ h
  exact ht h.symm

/-- the reference's own blocks that are written -/
def RMuts (q : Nat) (lastV cachV planV : Value) : Nat → Prop := fun b => b = q ∨ lastV.ownBlock = some b ∨ cachV.ownBlock = some b ∨ planV.ownBlock = some b
theorem RefIn.muts (h : RefIn w q F s lastV lv cachV cv planV) {b : Nat} (hb : RMuts q lastV cachV planV b) : F b := by
  rcases hb with rfl | hb | hb | hb
  · exact h.fq
  · exact h.frow b hb
  · exact h.fcrow b hb
  · exact h.fprow b hb
theorem RefIn.apart_bytes (h : RefIn w q F s lastV lv cachV cv planV) {b : Nat} (hb : Byb w G b) : ¬ RMuts q lastV cachV planV b := by
  rintro (e | e | e | e)
  · exact byb_ne hb h.blk (by decide) e
  · obtain ⟨cur, hc⟩ := row_of h.row e
    exact byb_ne hb hc (by decide) rfl
  · obtain ⟨cur, hc⟩ := row_of h.crow e
    exact byb_ne hb hc (by decide) rfl
  · obtain ⟨cur, hc⟩ := row_of h.prow e
    exact byb_ne hb hc (by decide) rfl
theorem RefIn.bytes (h : RefIn w q F s lastV lv cachV cv planV) (hk : Keeps (RMuts q lastV cachV planV) w w') {v : Value} {bs : List Int} (hv : Byt w G v bs) : Byt w' G v bs :=
  hv.keeps hk fun _ hb => h.apart_bytes hb
theorem RefIn.cacs (h : RefIn w q F s lastV lv cachV cv planV) (hk : Keeps (RMuts q lastV cachV planV) w w') {v : Value} {o : Option (List Int)} (hv : Cac w G v o) : Cac w' G v o := by
  cases o with
  | none => exact hv
  | some bs => exact ⟨h.bytes hk hv.1, hv.2⟩
theorem RefIn.q_row (h : RefIn w q F s lastV lv cachV cv planV) : lastV.ownBlock ≠ some q ∧ cachV.ownBlock ≠ some q ∧ planV.ownBlock ≠ some q := by
  refine ⟨fun e => ?_, fun e => ?_, fun e => ?_⟩
  · obtain ⟨cur, hc⟩ := row_of h.row e
    exact h.blk.ne_ hc (by decide) rfl
  · obtain ⟨cur, hc⟩ := row_of h.crow e
    exact h.blk.ne_ hc (by decide) rfl
  · obtain ⟨cur, hc⟩ := row_of h.prow e
    exact h.blk.ne_ hc (by decide) rfl
theorem RefIn.plan_row (h : RefIn w q F s lastV lv cachV cv planV) {g : Nat} (e : planV.ownBlock = some g) : lastV.ownBlock ≠ some g ∧ cachV.ownBlock ≠ some g := by
  obtain ⟨cur, hc⟩ := row_of h.prow e
  refine ⟨fun e => ?_, fun e => ?_⟩
  · obtain ⟨cur', hc'⟩ := row_of h.row e
    exact hc.ne_ hc' (by decide) rfl
  · obtain ⟨cur', hc'⟩ := row_of h.crow e
    exact hc.ne_ hc' (by decide) rfl

/-- only the disk's own block has changed: its counts -/
theorem RefIn.counts (h : RefIn w q F s lastV lv cachV cv planV) (he : Keeps (fun b => b = q) w w') (o r : Nat) (hb : Blk w' q 73 #[.int .i64 s.size, lastV, cachV, planV, .int .i64 o, .int .i64 r]) :
    RefIn w' q F { s with ops := o, wr := r } lastV lv cachV cv planV := by
  have hm : Keeps (RMuts q lastV cachV planV) w w' := he.mono fun b hb => .inl hb
  have hr : ∀ {base e size n : Nat} {v : Value} {xs : List Value}, w.ownsRow base e size v n xs → v.ownBlock ≠ some q → w'.ownsRow base e size v n xs := fun hx hq =>
    ownsRow_of_eq hx fun g hg => by
      obtain ⟨cur, hc⟩ := row_of hx hg
      exact he.block g hc.lt (fun e => hq (e ▸ hg))
  exact ⟨hb, h.fq, hr h.row h.q_row.1, h.frow, hr h.crow h.q_row.2.1, h.fcrow, h.apart, fun i hi => h.bytes hm (h.sect i hi), h.lens, h.clen, fun i hi => h.cacs hm (h.csect i hi), h.clens, h.size1,
    hr h.prow h.q_row.2.2, h.fprow, fun b hb => Nat.lt_of_lt_of_le (h.there b hb) he.size⟩

/-- a row with another element in its block: other blocks are as they were -/
theorem set_keeps (g i : Nat) (v : Value) : Keeps (fun b => b = g) w (w.setCell ⟨g, i, none⟩ v) := (Keeps.refl (fun b => b = g) w).set_ (p := ⟨g, i, none⟩) (.inl rfl) v

/-- an element of a row -/
theorem row_cell_ {base e n i : Nat} {v : Value} {xs : List Value} (h : w.ownsRow base e 1 v n xs) (hi : i < n) :
    ∃ g c cur, v = .slice (some ⟨g, 0, none⟩) n c ∧ n ≤ c ∧ Blk w g e cur ∧ w.cell? ⟨g, i, none⟩ = some (xs.getD i undef) := by
  have hx := h
  have hl : xs.length = n := by have := h.1; simpa using this
  rcases h.2 with ⟨rfl, h0⟩ | ⟨g, cap, cur, rfl, _, hh, hn, _⟩
  · omega
  · refine ⟨g, cap, cur, rfl, hn, hh, ?_⟩
    have := hx.cells (g := g) rfl i (xs.getD i undef) (by simp [List.getD, show i < xs.length by omega])
    rw [Go.WideShapes.add_plain] at this
    simpa using this

theorem getD_set {α : Type} (l : List α) (i j : Nat) (x d : α) (hi : i < l.length) : (l.set i x).getD j d = if i = j then x else l.getD j d := by
  by_cases e : i = j
  · subst e
    rw [if_pos rfl]
    simp [List.getD, hi]
  · rw [if_neg e]
    simp only [List.getD, List.getElem?_set_ne e]
end
end Ks

namespace Go.Proofs.YtpbhkkcboppdmaaDoor.Dsk
open Ks Go.RowKit
section
variable {w w' : World} {q : Nat} {F G : Nat → Prop} {s : RS} {lastV cachV planV : Value} {lv cv : List Value}

/-- another element in the row of what is cached -/
theorem ref_setC {g c : Nat} (h : RefIn w q F s lastV lv (.slice (some ⟨g, 0, none⟩) s.last.length c) cv planV) (i : Nat) (hi : i < s.last.length) (v : Value) (o : Option (List Int)) (hv : Cac w F v o) (ho : ∀ bs, o = some bs → bs.length = s.size) :
    RefIn (w.setCell ⟨g, i, none⟩ v) q F { s with cach := s.cach.set i o } lastV lv (.slice (some ⟨g, 0, none⟩) s.last.length c) (cv.set i v) planV := by
  have hk := set_keeps (w := w) g i v
  have hm : Keeps (RMuts q lastV (.slice (some ⟨g, 0, none⟩) s.last.length c) planV) w (w.setCell ⟨g, i, none⟩ v) := hk.mono fun b hb => .inr (.inr (.inl (by rw [hb]; rfl)))
  have hcl : cv.length = s.last.length := by have := h.crow.1; simpa using this
  refine ⟨h.blk.of_eq (hk.block q h.blk.lt (fun e => h.q_row.2.1 (by rw [e]; rfl))), h.fq, ownsRow_of_eq h.row (fun b hb => ?_), h.frow, row_set h.crow v, h.fcrow, h.apart, fun k hk' => h.bytes hm (h.sect k hk'), h.lens, ?_, fun k hk' => ?_, fun k bs hb => ?_, h.size1, ownsRow_of_eq h.prow (fun b hb => ?_), h.fprow, fun b hb => ?_⟩
  · obtain ⟨cur, hc⟩ := row_of h.row hb
    exact hk.block b hc.lt (fun e => h.apart b hb (by rw [e]; rfl))
  · simpa using h.clen
  · rw [getD_set _ _ _ _ _ (by omega), getD_set _ _ _ _ _ (by rw [h.clen]; exact hi)]
    split
    · exact h.cacs hm hv
    · exact h.cacs hm (h.csect k hk')
  · rw [getD_set _ _ _ _ _ (by rw [h.clen]; exact hi)] at hb
    split at hb
    · exact ho bs hb
    · exact h.clens k bs hb
  · obtain ⟨cur, hc⟩ := row_of h.prow hb
    exact hk.block b hc.lt (fun e => (h.plan_row hb).2 (by rw [e]; rfl))
  · have := h.there b hb
    simpa [World.setCell] using this

/-- another element in the row of what lasts -/
theorem ref_setL {g c : Nat} (h : RefIn w q F s (.slice (some ⟨g, 0, none⟩) s.last.length c) lv cachV cv planV) (i : Nat) (hi : i < s.last.length) (v : Value) (bs : List Int) (hv : Byt w F v bs) (hl : bs.length = s.size) :
    RefIn (w.setCell ⟨g, i, none⟩ v) q F { s with last := s.last.set i bs } (.slice (some ⟨g, 0, none⟩) s.last.length c) (lv.set i v) cachV cv planV := by
  have hk := set_keeps (w := w) g i v
  have hm : Keeps (RMuts q (.slice (some ⟨g, 0, none⟩) s.last.length c) cachV planV) w (w.setCell ⟨g, i, none⟩ v) := hk.mono fun b hb => .inr (.inl (by rw [hb]; rfl))
  have hcl : lv.length = s.last.length := by have := h.row.1; simpa using this
  refine ⟨h.blk.of_eq (hk.block q h.blk.lt (fun e => h.q_row.1 (by rw [e]; rfl))), h.fq, ?_, h.frow, ownsRow_of_eq (w := w) ?_ (fun b hb => ?_), h.fcrow, h.apart, fun k hk' => ?_, fun k hk' => ?_, ?_, fun k hk' => ?_, h.clens, h.size1, ownsRow_of_eq h.prow (fun b hb => ?_), h.fprow, fun b hb => ?_⟩
  · simp only [List.length_set]
    exact row_set h.row v
  · simp only [List.length_set]
    exact h.crow
  · obtain ⟨cur, hc⟩ := row_of h.crow hb
    exact hk.block b hc.lt (fun e => h.apart b (by rw [e]; rfl) hb)
  · simp only [List.length_set] at hk' ⊢
    rw [getD_set _ _ _ _ _ (by omega), getD_set _ _ _ _ _ hi]
    split
    · exact h.bytes hm hv
    · exact h.bytes hm (h.sect k hk')
  · simp only [List.length_set] at hk' ⊢
    rw [getD_set _ _ _ _ _ hi]
    split
    · exact hl
    · exact h.lens k hk'
  · simpa using h.clen
  · simp only [List.length_set] at hk'
    exact h.cacs hm (h.csect k hk')
  · obtain ⟨cur, hc⟩ := row_of h.prow hb
    exact hk.block b hc.lt (fun e => (h.plan_row hb).1 (by rw [e]; rfl))
  · have := h.there b hb
    simpa [World.setCell] using this
end
end Go.Proofs.YtpbhkkcboppdmaaDoor.Dsk
namespace Go.Proofs.YtpbhkkcboppdmaaDoor.Dsk
open Ks Go.RowKit
set_option maxRecDepth 20000

def RefNot (w : World) (e : Ending) (w' : World) : Prop := e = .returned (.pointer none) ∧ w' = w

set_option maxRecDepth 100000 in
set_option maxHeartbeats 1000000 in
theorem refOpen_no (w : World) (n : Int) (A : Option Addr) (k c : Nat) (hk : k ≤ 1000000) (h : n < 1 ∨ 4096 < n ∨ (k : Int) % n ≠ 0) : Calls Tryd.prog 14 #[.int .i64 n, .slice A k c] w (RefNot w) := by
  have H := Lib.hid h
  clear h
  by_cases h1 : n < 1
  · go_enter Tryd.func14, Tryd.ntmps14
    go_wp2_with fail
    go_ret
    exact ⟨rfl, rfl⟩
  by_cases h2 : 4096 < n
  · have g1 : decide (n < 1) = false := by simp; omega
    clear h1
    go_enter Tryd.func14, Tryd.ntmps14
    go_wp2_with fail
    go_ret
    exact ⟨rfl, rfl⟩
  have hne : ((k : Int) % n != 0) = true := by
    rcases H.out with h | h | h
    · omega
    · omega
    · simpa using h
  have g1 : decide (n < 1) = false := by simp; omega
  have g2 : decide (4096 < n) = false := by simp; omega
  have hm1 : 1 ≤ n := by omega
  have hm2 : n ≤ 4096 := by omega
  clear h1 h2
  go_enter Tryd.func14, Tryd.ntmps14
  go_wp2_with fail
  go_ret
  exact ⟨rfl, rfl⟩
end Go.Proofs.YtpbhkkcboppdmaaDoor.Dsk
namespace Go.Proofs.YtpbhkkcboppdmaaDoor.Dsk
open Ks Go.RowKit
set_option maxRecDepth 20000

/-- bytes onto nothing: new memory that holds them -/
def Cloned (w : World) (bs : List Int) (v : Value) (w' : World) : Prop := Byt w' (From w.heap.size) v bs ∧ Keeps No w w'
theorem clone1 {w W : World} {ty g : Nat} {F : Nat → Prop} {u : Value} {bs : List Int} (hu : Bys w F u bs) (hlen : bs.length ≤ 1000000) (hg : w.heap.size ≤ g) (hb : W.heap[g]? = some (.cells #[] 5 (0, 0))) (hk : Keeps No w W) :
    ∃ v' w', (Builtin.append_ #[27, 27] ty #[.slice (some ⟨g, 0, none⟩) 0 0, u]).run Tryd.prog W = .ok v' w' ∧ Cloned w bs v' w' := by
  have hown : W.ownsRow w.heap.size 5 1 (.slice (some ⟨g, 0, none⟩) 0 0) 0 (([] : List Int).map (Value.int .u8)) :=
    ⟨by simp, .inr ⟨g, 0, #[], rfl, hg, hb, Nat.le_refl _, Nat.zero_le _, rfl, rfl⟩⟩
  obtain ⟨v', w', hr, h1, h2, h3⟩ := append_bys W w.heap.size ty _ 0 [] hown F u bs (hu.keeps hk (fun _ _ _ h => h)) (by omega) hk.size
  refine ⟨v', w', hr, ?_, hk.grown h2 (fun b hb => .inr (own_base hown hb))⟩
  exact (Byt.of_own (bs := bs) (by simpa using h1)).mono fun b hb => hb.1

/-- one more element of a row -/
def Longer (w : World) (base : Nat) (v : Value) (k : Nat) (xs : List Value) (u : Value) (v' : Value) (w' : World) : Prop :=
  (∃ g c, v' = .slice (some ⟨g, 0, none⟩) (k + 1) c) ∧ w'.ownsRow base 27 1 v' (k + 1) (xs ++ [u]) ∧ w.grownBy w' v.ownBlock ∧ (v'.ownBlock = v.ownBlock ∨ v'.ownBlock = some w.heap.size)
theorem append_row {w : World} {base ty g : Nat} {v u : Value} {k : Nat} {xs : List Value} (hown : w.ownsRow base 27 1 v k xs) (hb : w.heap[g]? = some (.cells #[u] 27 (0, 0))) (hu : u.oneCell' = true) (hk : k ≤ 1000000) (hbase : base ≤ w.heap.size) :
    ∃ v' w', (Builtin.append_ #[66, 66] ty #[v, .slice (some ⟨g, 0, none⟩) 1 1]).run Tryd.prog w = .ok v' w' ∧ Longer w base v k xs u v' w' := by
  obtain ⟨i0, hi, hz0, hz1, hz2⟩ := info_parts info31
  obtain ⟨v', w', hr, h2, h3, _, h5⟩ := run_append_own_at (P := Tryd.prog) w base 66 ty 27 i0 _ 1 24 Tryd.underlying66 hi hz0 hz1 hz2 rfl (by omega) v k xs hown ⟨g, 0, none⟩ 1 1 [u] rfl (World.news_of_block (cs := #[u]) (t := 27) (fr := (0, 0)) hb) (by simpa using hu) (by unfold maxLen; omega) (by omega) hbase
  refine ⟨v', w', hr, ?_, h2, h3, h5⟩
  rcases h2.2 with ⟨_, h0⟩ | ⟨g', cap, cur, rfl, _⟩
  · omega
  · exact ⟨g', cap, rfl⟩

/-- where the loop of Open stands -/
structure RefOpenAt (w : World) (n : Nat) (bs : List Int) (k : Nat) (wr : World) (lastV : Value) (lv : List Value) (cachV : Value) (m : Nat) (cv : List Value) : Prop where
  blk : Blk wr w.heap.size 73 #[.int .i64 n, lastV, cachV, .slice none 0 0, .int .i64 0, .int .i64 0]
  row : wr.ownsRow (w.heap.size + 1) 27 1 lastV k lv
  crow : wr.ownsRow (w.heap.size + 1) 27 1 cachV m cv
  apart : ∀ g, lastV.ownBlock = some g → cachV.ownBlock ≠ some g
  sect : ∀ i, i < k → Byt wr (From w.heap.size) (lv.getD i undef) (chunk n bs i)
  csect : ∀ i, i < m → cv.getD i undef = .slice none 0 0
  keep : Keeps No w wr

section
variable {w wr w2 w4 : World} {n k m : Nat} {bs : List Int} {lastV cachV : Value} {lv cv : List Value}
theorem RefOpenAt.keeps (h : RefOpenAt w n bs k wr lastV lv cachV m cv) (hk : Keeps No wr w2) : RefOpenAt w n bs k w2 lastV lv cachV m cv :=
  ⟨h.blk.of_eq (hk.block _ h.blk.lt (fun h => h)), ownsRow_of_eq h.row (fun g hg => hk.block g (own_lt h.row hg) (fun h => h)), ownsRow_of_eq h.crow (fun g hg => hk.block g (own_lt h.crow hg) (fun h => h)), h.apart,
    fun i hi => (h.sect i hi).keeps hk (fun _ _ h => h), h.csect, h.keep.trans hk⟩

theorem own_blk {base e size n : Nat} {v : Value} {xs : List Value} (h : w.ownsRow base e size v n xs) {g : Nat} (hg : v.ownBlock = some g) : ∃ cur, Blk w g e cur := row_of h hg
theorem snoc_getD {xs : List Value} {u d : Value} {i k : Nat} (hl : xs.length = k) (hi : i < k + 1) : (xs ++ [u]).getD i d = if i = k then u else xs.getD i d := by
  by_cases e : i = k
  · subst e
    rw [if_pos rfl]
    simp [List.getD, ← hl]
  · rw [if_neg e]
    simp [List.getD, List.getElem?_append_left (show i < xs.length by omega)]

/-- the disk's own block behind an append -/
theorem longer_blk {base t e cells : Nat} {u v v' : Value} {xs : List Value} {cs : Array Value} {q : Nat} (hb : Blk wr q t cs) (hr : wr.ownsRow base 27 1 v k xs) (ht : t ≠ 27) (hl : Longer (wr.alloc (.cells #[u] 27)) e v cells xs u v' w4) : Blk w4 q t cs := by
  obtain ⟨_, _, hgrow, _⟩ := hl
  exact (hb.of_eq (Below.heap_alloc wr (.cells #[u] 27) _ hb.lt)).of_eq (hgrow.block _ (by have := hb.lt; simp; omega) (fun e => by
    obtain ⟨cur, hc⟩ := own_blk hr e.symm
    exact hb.ne_ hc ht rfl))

/-- one more sector -/
theorem refOpen_last (h : RefOpenAt w n bs k wr lastV lv cachV m cv) {v2 v4 : Value} (hc : Cloned wr (chunk n bs k) v2 w2) (hl : Longer (w2.alloc (.cells #[v2] 27)) (w.heap.size + 1) lastV k lv v2 v4 w4) :
    RefOpenAt w n bs (k + 1) (w4.setCell ⟨w.heap.size, 1, none⟩ v4) v4 (lv ++ [v2]) cachV m cv := by
  obtain ⟨hb2, hk2⟩ := hc
  obtain ⟨⟨g, c, rfl⟩, hown, hgrow, hat⟩ := hl
  have h2 := h.keeps hk2
  have hlv : lv.length = k := by have := h.row.1; simpa using this
  have hsz := h2.keep.size
  have hq := h2.blk.lt
  -- blocks that are neither the disk's nor the row's
  have keep : ∀ x, x < w2.heap.size → x ≠ w.heap.size → lastV.ownBlock ≠ some x → (w4.setCell ⟨w.heap.size, 1, none⟩ (.slice (some ⟨g, 0, none⟩) (k + 1) c)).heap[x]? = w2.heap[x]? := fun x h1 h3 h4 => by
    rw [Below.heap_setCell _ _ _ _ h3, hgrow.block x (by simp; omega) (fun e => h4 e.symm), Below.heap_alloc _ _ _ h1]
  have hb4 : Blk w4 w.heap.size 73 #[.int .i64 n, lastV, cachV, .slice none 0 0, .int .i64 0, .int .i64 0] :=
    (h2.blk.of_eq (Below.heap_alloc w2 (.cells #[v2] 27) _ hq)).of_eq (hgrow.block _ (by simp; omega) (fun e => by
      obtain ⟨cur, hc⟩ := own_blk h2.row e.symm
      exact h2.blk.ne_ hc (by decide) rfl))
  have hgb : w.heap.size + 1 ≤ g := own_base hown (g := g) rfl
  refine ⟨hb4.set_ 1 _, ownsRow_of_eq hown (fun x hx => Below.heap_setCell _ _ _ _ ?_), ownsRow_of_eq h2.crow (fun x hx => ?_), fun x hx hcx => ?_, fun i hi => ?_, h.csect, ?_⟩
  · simp only [Value.ownBlock, Option.some.injEq] at hx
    show x ≠ w.heap.size
    omega
  · have hxb := own_base h2.crow hx
    exact keep x (own_lt h2.crow hx) (by omega) (fun e => h.apart x e hx)
  · have hxl := own_lt h2.crow hcx
    rcases hat with e | e
    · rw [hx] at e
      exact h.apart x e.symm hcx
    · rw [hx] at e
      simp at e
      omega
  · rw [snoc_getD hlv hi]
    split
    · rename_i e
      subst e
      refine (hb2.mono (G := From w.heap.size) fun b hb => Nat.le_trans h.keep.size hb).keep fun b hb => keep b hb.lt ?_ ?_
      · exact byb_ne hb h2.blk (by decide)
      · intro e
        obtain ⟨cur, hc⟩ := own_blk h2.row e
        exact byb_ne hb hc (by decide) rfl
    · refine (h2.sect i (by omega)).keep fun b hb => keep b hb.lt ?_ ?_
      · exact byb_ne hb h2.blk (by decide)
      · intro e
        obtain ⟨cur, hc⟩ := own_blk h2.row e
        exact byb_ne hb hc (by decide) rfl
  · refine ⟨?_, ?_, ?_, ?_, fun b hb' _ => ?_⟩
    · exact hgrow.os.trans h2.keep.os
    · exact hgrow.tape.trans h2.keep.tape
    · exact hgrow.output.trans h2.keep.output
    · have h1 := hgrow.size
      simp [World.setCell] at h1 ⊢
      omega
    · rw [keep b (by omega) (by omega) (fun e => by have := own_base h2.row e; omega)]
      exact h2.keep.block b hb' (fun h => h)

/-- ..not cached -/
theorem refOpen_cach (h : RefOpenAt w n bs k wr lastV lv cachV m cv) {v4 : Value} (hl : Longer (wr.alloc (.cells #[.slice none 0 0] 27)) (w.heap.size + 1) cachV m cv (.slice none 0 0) v4 w4) :
    RefOpenAt w n bs k (w4.setCell ⟨w.heap.size, 2, none⟩ v4) lastV lv v4 (m + 1) (cv ++ [.slice none 0 0]) := by
  obtain ⟨⟨g, c, rfl⟩, hown, hgrow, hat⟩ := hl
  have hlv : cv.length = m := by have := h.crow.1; simpa using this
  have hsz := h.keep.size
  have hq := h.blk.lt
  have keep : ∀ x, x < wr.heap.size → x ≠ w.heap.size → cachV.ownBlock ≠ some x → (w4.setCell ⟨w.heap.size, 2, none⟩ (.slice (some ⟨g, 0, none⟩) (m + 1) c)).heap[x]? = wr.heap[x]? := fun x h1 h3 h4 => by
    rw [Below.heap_setCell _ _ _ _ h3, hgrow.block x (by simp; omega) (fun e => h4 e.symm), Below.heap_alloc _ _ _ h1]
  have hb4 : Blk w4 w.heap.size 73 #[.int .i64 n, lastV, cachV, .slice none 0 0, .int .i64 0, .int .i64 0] :=
    (h.blk.of_eq (Below.heap_alloc wr (.cells #[.slice none 0 0] 27) _ hq)).of_eq (hgrow.block _ (by simp; omega) (fun e => by
      obtain ⟨cur, hc⟩ := own_blk h.crow e.symm
      exact h.blk.ne_ hc (by decide) rfl))
  have hgb : w.heap.size + 1 ≤ g := own_base hown (g := g) rfl
  refine ⟨hb4.set_ 2 _, ownsRow_of_eq h.row (fun x hx => ?_), ownsRow_of_eq hown (fun x hx => Below.heap_setCell _ _ _ _ ?_), fun x hx hcx => ?_, fun i hi => ?_, fun i hi => ?_, ?_⟩
  · have hxb := own_base h.row hx
    exact keep x (own_lt h.row hx) (by omega) (fun e => h.apart x hx e)
  · simp only [Value.ownBlock, Option.some.injEq] at hx
    show x ≠ w.heap.size
    omega
  · have hxl := own_lt h.row hx
    rcases hat with e | e
    · rw [hcx] at e
      exact h.apart x hx e.symm
    · rw [hcx] at e
      simp at e
      omega
  · refine (h.sect i hi).keep fun b hb => keep b hb.lt ?_ ?_
    · exact byb_ne hb h.blk (by decide)
    · intro e
      obtain ⟨cur, hc⟩ := own_blk h.crow e
      exact byb_ne hb hc (by decide) rfl
  · rw [snoc_getD hlv hi]
    split
    · rfl
    · exact h.csect i (by omega)
  · refine ⟨?_, ?_, ?_, ?_, fun b hb' _ => ?_⟩
    · exact hgrow.os.trans h.keep.os
    · exact hgrow.tape.trans h.keep.tape
    · exact hgrow.output.trans h.keep.output
    · have h1 := hgrow.size
      simp [World.setCell] at h1 ⊢
      omega
    · rw [keep b (by omega) (by omega) (fun e => by have := own_base h.crow e; omega)]
      exact h.keep.block b hb' (fun h => h)

/-- a new reference disk -/
def rfresh (n : Nat) (l : List (List Int)) : RS := ⟨n, l, l.map fun _ => none, [], 0, 0⟩
theorem refOpen_done (h : RefOpenAt w n bs m wr lastV lv cachV m cv) (hb : bs.length = m * n) (hn : 1 ≤ n) : RefAt wr w.heap.size (Grow No w wr) (rfresh n (chunks n m bs)) := by
  have hl : (chunks n m bs).length = m := by simp [chunks]
  have hg : ∀ i, i < m → (chunks n m bs).getD i [] = chunk n bs i := fun i hi => by simp [chunks, List.getD, hi]
  have hlt : ∀ b, Grow No w wr b → b < wr.heap.size := fun b hb => by
    rcases hb with hb | hb
    · exact hb.elim
    · exact hb.2
  have hrow : ∀ {v : Value} {xs : List Value}, wr.ownsRow (w.heap.size + 1) 27 1 v m xs → wr.ownsRow 0 27 1 v (chunks n m bs).length xs := fun {v xs} hx => by
    rw [hl]
    refine ⟨hx.1, ?_⟩
    rcases hx.2 with h | ⟨g, cap, cur, e, _, r⟩
    · exact .inl h
    · exact .inr ⟨g, cap, cur, e, Nat.zero_le _, r⟩
  have hfr : ∀ {v : Value} {xs : List Value}, wr.ownsRow (w.heap.size + 1) 27 1 v m xs → ∀ g, v.ownBlock = some g → Grow No w wr g := fun {v xs} hx g hg => .inr ⟨by have := own_base hx hg; omega, own_lt hx hg⟩
  refine ⟨lastV, lv, cachV, cv, .slice none 0 0, ⟨h.blk, .inr ⟨Nat.le_refl _, h.blk.lt⟩, hrow h.row, hfr h.row, hrow h.crow, hfr h.crow, h.apart, fun i hi => ?_, fun i hi => ?_, by simp [rfresh], fun i hi => ?_, fun i b hb => ?_, hn, ⟨by simp [rfresh], .inl ⟨rfl, by simp [rfresh]⟩⟩, (fun g hg => by simp [Value.ownBlock] at hg), hlt⟩⟩
  · have hi : i < m := by rw [← hl]; exact hi
    show Byt wr _ _ ((chunks n m bs).getD i [])
    rw [hg i hi]
    obtain ⟨A, c, e, hc, hx⟩ := h.sect i hi
    refine ⟨A, c, e, hc, fun h0 => ?_⟩
    obtain ⟨b, o, rfl, hb, hcs⟩ := hx h0
    exact ⟨b, o, rfl, ⟨.inr ⟨hb.1, hb.lt⟩, hb.2⟩, hcs⟩
  · have hi : i < m := by rw [← hl]; exact hi
    show ((chunks n m bs).getD i []).length = n
    rw [hg i hi]
    exact chunk_length hb hi
  · have hi : i < m := by rw [← hl]; exact hi
    have e : (rfresh n (chunks n m bs)).cach.getD i none = none := by simp [rfresh, List.getD, hl, hi]
    rw [e]
    exact h.csect i hi
  · have e : (rfresh n (chunks n m bs)).cach.getD i none = none := by
      simp only [rfresh, List.getD, List.getElem?_map]
      cases (chunks n m bs)[i]? <;> rfl
    rw [e] at hb
    cases hb
end

/-- a reference disk in new memory -/
def RefOpens (w : World) (s : RS) (e : Ending) (w' : World) : Prop :=
  ∃ q, e = .returned (.pointer (some ⟨q, 0, none⟩)) ∧ RefAt w' q (Grow No w w') s ∧ Keeps No w w'

set_option maxRecDepth 100000 in
set_option maxHeartbeats 4000000 in
theorem refOpen_ok (w : World) (F : Nat → Prop) (n m : Nat) (v : Value) (bs : List Int) (hv : Bys w F v bs) (hn0 : 1 ≤ n) (hn : n ≤ 4096) (hb : bs.length = m * n) (hm : m ≤ 4096) :
    Calls Tryd.prog 14 #[.int .i64 n, v] w (RefOpens w (rfresh n (chunks n m bs))) := by
  have hle : m * n ≤ 16777216 := Nat.mul_le_mul hm hn
  have hmod : ((bs.length : Int) % (n : Int) != 0) = false := by
    rw [hb]; simp
  have hdiv : (bs.length : Int) / (n : Int) = (m : Int) := by
    rw [hb, Int.natCast_mul, Int.mul_ediv_cancel _ (by omega)]
  have HV := Lib.hid hv
  obtain ⟨A, c, rfl, hc, _⟩ := hv
  have HB := Lib.hid hb
  have hbl : bs.length ≤ 16777216 := by omega
  have hn1 : (1 : Int) ≤ (n : Int) := by omega
  have hn2 : (n : Int) ≤ 4096 := by omega
  have HN0 := Lib.hid hn0
  clear hb
  go_enter Tryd.func14, Tryd.ntmps14
  go_wp2_with fail
  go_loopw [6] (fun i wr => ∃ k : Nat, k ≤ m ∧ i = .int .i64 (k * n : Nat) ∧ ∃ lastV lv cachV cv, RefOpenAt w n bs k wr lastV lv cachV k cv) (fun i _ => bs.length - (intOf i).toNat)
  case atStart =>
    refine ⟨0, Nat.zero_le _, by simp, .slice none 0 0, [], .slice none 0 0, [], ⟨?_, World.ownsRow_nil _ _ _ _, World.ownsRow_nil _ _ _ _, fun g hg => by simp [Value.ownBlock] at hg, fun i hi => absurd hi (by omega), fun i hi => absurd hi (by omega), (Keeps.refl No w).alloc _⟩⟩
    exact Blk.new w 73 #[.int .i64 n, .slice none 0 0, .slice none 0 0, .slice none 0 0, .int .i64 0, .int .i64 0]
  case round =>
    obtain ⟨k, hk, rfl, lastV, lv, cachV, cv, h⟩ := hrel
    have hkn : k * n ≤ m * n := Nat.mul_le_mul_right _ hk
    by_cases hlt : k < m
    · have hkn1 : (k + 1) * n ≤ m * n := Nat.mul_le_mul_right _ hlt
      have hsum : (k + 1) * n = k * n + n := by rw [Nat.add_mul, Nat.one_mul]
      obtain ⟨j, hj⟩ : ∃ j, k * n = j := ⟨_, rfl⟩
      have hbs := HB.out
      have HJ := Lib.hid hj
      rw [hj] at hkn hsum ⊢
      have hjb : j + n ≤ bs.length := by omega
      have hj0 : (0 : Int) ≤ (j : Int) := by omega
      have hj1 : (j : Int) < (bs.length : Int) := by omega
      have hj2 : (j : Int) + (n : Int) ≤ (bs.length : Int) := by omega
      have hj3 : (j : Int) + (n : Int) ≤ (c : Int) := by omega
      have hw1 : IntKind.i64.wrap ((j : Int) + (n : Int)) = (j : Int) + (n : Int) := IntWalk.i64_in _ (by omega)
      have hj4 : (0 : Int) ≤ (j : Int) + (n : Int) := by omega
      have hj5 : ((j : Int) + (n : Int)).toNat = j + n := by omega
      have hj6 : c ≠ j := by omega
      have HS := Lib.hid hsum
      have hbw := HV.out.keeps h.keep (fun _ _ _ h => h)
      obtain ⟨A', c', e, _, hx⟩ := hbw
      obtain ⟨b, o, rfl, hF, hcs⟩ := hx (by omega)
      simp only [Value.slice.injEq, true_and] at e
      obtain ⟨rfl, rfl⟩ := e
      have HCH := Lib.hid (show Bys wr F (.slice (some ⟨b, o + j, none⟩) n (c - j)) (chunk n bs k) by
        unfold chunk
        rw [hj]
        exact bys_cut (i := j) (n := n) (c := c) ⟨_, _, rfl, hc, fun _ => ⟨b, o, rfl, hF, hcs⟩⟩ hjb (by omega))
      have HCL := Lib.hid (chunk_length (k := k) hbs hlt)
      have c1 := h.blk.cell 1
      have f1 := h.blk.frozen 1
      have hpl := h.blk.lt
      have H := Lib.hid h
      simp only [List.getElem?_toArray, List.getElem?_cons_succ, List.getElem?_cons_zero] at c1
      clear h hx hcs hj hsum hbs hkn1 hle hmod hdiv
      go_wp2_with fail
      go_region_law (first
        | (refine step_append (by rfl) _ _ _ (by rfl) (.slice (some ⟨wr.heap.size, 0, none⟩) 0 0) (.slice (some ⟨b, o + j, none⟩) n (c - j)) (by rfl) (by rfl) (Cloned wr (chunk n bs k)) (clone1 HCH.out (by have := HCL.out; omega) (Nat.le_refl _) (heap_alloc_new wr.drew _) ((Keeps.refl No wr).drew.alloc _)) ?_
           rintro v2 w2 hc2
           obtain ⟨A2, c2, rfl⟩ : ∃ A2 c2, v2 = .slice A2 n c2 := (by obtain ⟨A, c, e, _⟩ := hc2.1; exact ⟨A, c, by rw [e, HCL.out]⟩)
           have HC2 := Lib.hid hc2
           have H2 := Lib.hid (H.out.keeps hc2.2)
           have Z2 := H2.out.blk.cell 1
           have ZL := H2.out.blk.lt
           simp only [List.getElem?_toArray, List.getElem?_cons_succ, List.getElem?_cons_zero] at Z2
           clear hc2)
        | (refine step_append (by rfl) _ _ _ (by rfl) lastV (.slice (some ⟨w2.heap.size, 0, none⟩) 1 1) (by rfl) (by rfl) (Longer (w2.alloc (.cells #[.slice A2 n c2] 27)) (w.heap.size + 1) lastV k lv (.slice A2 n c2))
             (append_row (ty := 66) (H2.out.row.alloc _) (heap_alloc_new w2 _) rfl (by omega) (by have := H2.out.keep.size; simp; omega)) ?_
           rintro v4 w4 hl4
           obtain ⟨g4, c4, rfl⟩ := hl4.1
           have HL4 := Lib.hid hl4
           have H4 := Lib.hid (refOpen_last H.out HC2.out hl4)
           have hb4 := longer_blk H2.out.blk H2.out.row (by decide) hl4
           have Z4 := hb4.cell 1
           have F4 := hb4.frozen 1
           simp only [List.getElem?_toArray, List.getElem?_cons_succ, List.getElem?_cons_zero] at Z4
           clear hl4 hb4))
      all_goals
        clear c1 f1 hpl Z2 ZL Z4 F4
        obtain ⟨w5, hw5⟩ : ∃ x, w4.setCell ⟨w.heap.size, 1, none⟩ (.slice (some ⟨g4, 0, none⟩) (k + 1) c4) = x := ⟨_, rfl⟩
        rw [hw5] at H4 ⊢
        have y2 := H4.out.blk.cell 2
        have yl := H4.out.blk.lt
        simp only [List.getElem?_toArray, List.getElem?_cons_succ, List.getElem?_cons_zero] at y2
        obtain ⟨v6, w6, hr6, hl6⟩ := append_row (ty := 66) (w := w5.alloc (.cells #[.slice none 0 0] 27)) (H4.out.crow.alloc _) (heap_alloc_new w5 _) rfl (by omega) (by have := H4.out.keep.size; simp; omega)
        obtain ⟨g6, c6, rfl⟩ := hl6.1
        have hb6 := longer_blk H4.out.blk H4.out.crow (by decide) hl6
        have Z6 := hb6.cell 2
        have F6 := hb6.frozen 2
        simp only [List.getElem?_toArray, List.getElem?_cons_succ, List.getElem?_cons_zero] at Z6
        have R := Lib.hid (refOpen_cach H4.out hl6)
        have HR := Lib.hid hr6
        clear hw5 hr6 hl6 hb6 HL4 HC2 H2 H
        go_wp2_with (at_builtin; refine Lib.wpList_append_run _ rfl _ _ _ _ rfl _ _ rfl rfl _ _ HR.out ?_)
        go_roundw
        case rel => exact ⟨k + 1, by omega, by rw [HS.out]; go_num, _, _, _, _, R.out⟩
        case measure => simp [intOf]; omega
    · obtain rfl : k = m := by omega
      have HR := Lib.hid (refOpen_done h HB.out HN0.out)
      have HK := Lib.hid h.keep
      have hge : decide (k * n < bs.length) = false := by simp [HB.out]
      have hge2 : bs.length ≤ k * n := by rw [HB.out]; exact Nat.le_refl _
      obtain ⟨j, hj⟩ : ∃ j, k * n = j := ⟨_, rfl⟩
      rw [hj] at hge hge2 ⊢
      clear hj h hle hmod hdiv hkn
      go_wp2_with fail
      go_ret
      exact ⟨_, rfl, HR.out, HK.out⟩
end Go.Proofs.YtpbhkkcboppdmaaDoor.Dsk
namespace Go.Proofs.YtpbhkkcboppdmaaDoor.Dsk
open Ks Go.RowKit
set_option maxRecDepth 20000

def _root_.Ks.RS.tick (s : RS) : RS := { s with ops := s.ops + 1 }
def _root_.Ks.RS.fails (s : RS) : Bool := decide (((s.ops : Int) + 1) ∈ s.plans)

def RTicked (q : Nat) (F : Nat → Prop) (s : RS) (w : World) (b : Bool) (e : Ending) (w' : World) : Prop :=
  e = .returned (.bool b) ∧ RefAt w' q F s ∧ Keeps F w w'

set_option maxRecDepth 100000 in
set_option maxHeartbeats 2000000 in
theorem refFails_any (w : World) (q : Nat) (F : Nat → Prop) (s : RS) (h : RefAt w q F s) (hops : s.ops < 1000000) (hpl : s.plans.length ≤ 1000000) :
    Calls Tryd.prog 75 #[.pointer (some ⟨q, 0, none⟩)] w (RTicked q F s.tick w s.fails) := by
  obtain ⟨lastV, lv, cachV, cv, planV, hin⟩ := h
  obtain ⟨AP, cP, rfl⟩ := row_slice hin.prow
  have c4 := hin.c4
  have f4 := hin.blk.frozen 4
  have hb1 : Blk (w.setCell ⟨q, 4, none⟩ (.int .i64 ((s.ops : Int) + 1))) q 73 #[.int .i64 s.size, lastV, cachV, .slice AP s.plans.length cP, .int .i64 ((s.ops : Int) + 1), .int .i64 s.wr] := hin.blk.set_ 4 _
  obtain ⟨w1, hw1⟩ : ∃ x, w.setCell ⟨q, 4, none⟩ (.int .i64 ((s.ops : Int) + 1)) = x := ⟨_, rfl⟩
  rw [hw1] at hb1
  have hk1 : Keeps (fun b => b = q) w w1 := by rw [← hw1]; exact set_keeps q 4 _
  have hin1 : RefIn w1 q F s.tick lastV lv cachV cv (.slice AP s.plans.length cP) := hin.counts hk1 (s.ops + 1) s.wr (by rw [show ((s.ops + 1 : Nat) : Int) = (s.ops : Int) + 1 by omega]; exact hb1)
  have z3 := hin1.c3
  have z4 : w1.cell? ⟨q, 4, none⟩ = some (.int .i64 ((s.ops : Int) + 1)) := hb1.cell 4
  have HIN := Lib.hid hin1
  have HK1 := Lib.hid (hk1.mono (T := F) fun b hb => hb ▸ hin.fq)
  have hwr : IntKind.i64.wrap ((s.ops : Int) + 1) = (s.ops : Int) + 1 := IntWalk.i64_in _ (by omega)
  clear hin hb1 hk1 hin1
  go_enter Tryd.func75, Tryd.ntmps75
  go_wp2_with fail
  try rw [hw1]
  clear hw1 c4 f4
  go_loopw [3] (fun i wr => ∃ k : Nat, k ≤ s.plans.length ∧ i = .int .i64 k ∧ (∀ j, j < k → s.plans.getD j 0 ≠ (s.ops : Int) + 1) ∧ ∃ n, wr = w1.drewN n) (fun i _ => s.plans.length - (intOf i).toNat)
  case atStart => exact ⟨0, Nat.zero_le _, rfl, fun j hj => absurd hj (by omega), 0, rfl⟩
  case round =>
    obtain ⟨k, hk, rfl, hno, n, rfl⟩ := hrel
    have HNO := Lib.hid hno
    have hkn : Keeps No w1 (w1.drewN n) := (Keeps.refl No w1).drewN n
    have y3 : (w1.drewN n).cell? ⟨q, 3, none⟩ = some (.slice AP s.plans.length cP) := z3
    have y4 : (w1.drewN n).cell? ⟨q, 4, none⟩ = some (.int .i64 ((s.ops : Int) + 1)) := z4
    have HKN := Lib.hid (HK1.out.trans hkn.no)
    have HRN := Lib.hid (show RefAt (w1.drewN n) q F s.tick from ⟨_, _, _, _, _, HIN.out.keep (fun b hb => hkn.block b (HIN.out.there b hb) (fun h => h)) hkn.size⟩)
    clear hno
    by_cases hlt : k < s.plans.length
    · have hk0 : (0 : Int) ≤ (k : Int) := by omega
      have hk1 : (k : Int) < (s.plans.length : Int) := by omega
      obtain ⟨g, c, cur, e, hc, hblk, hcell⟩ := row_cell_ (show w1.ownsRow 0 3 1 (.slice AP s.plans.length cP) s.plans.length (s.plans.map (Value.int .i64)) from HIN.out.prow) hlt
      simp only [Value.slice.injEq, true_and] at e
      obtain ⟨rfl, rfl⟩ := e
      obtain ⟨x, hx⟩ : ∃ x, s.plans.getD k 0 = x := ⟨_, rfl⟩
      have hcx : (w1.drewN n).cell? ⟨g, k, none⟩ = some (.int .i64 x) := by
        have : (s.plans.map (Value.int .i64)).getD k undef = .int .i64 x := by
          rw [← hx]
          simp [List.getD, hlt]
        rw [← this]
        exact hcell
      have HX := Lib.hid hx
      clear hcell hblk hx
      by_cases hxe : x = (s.ops : Int) + 1
      · have HR := Lib.hid (show s.fails = true by
          unfold RS.fails
          rw [decide_eq_true_eq, ← hxe, ← HX.out]
          simp [List.getD, hlt])
        have hbe : (x == (s.ops : Int) + 1) = true := by simpa using hxe
        clear hxe
        generalize w1.drewN n = w2 at *
        go_wp2_with fail
        go_quiet (fail)
        go_wp2_with fail
        go_ret
        rw [HR.out]
        have hkq : Keeps No w2 (w2.drewN nq) := (Keeps.refl No w2).drewN nq
        exact ⟨rfl, HRN.out.keeps hkq (fun _ _ h => h), HKN.out.trans hkq.no⟩
      · have hbe : (x == (s.ops : Int) + 1) = false := by simpa using hxe
        have R := Lib.hid (show ∀ j, j < k + 1 → s.plans.getD j 0 ≠ (s.ops : Int) + 1 from fun j hj => by
          by_cases e : j = k
          · subst e; rw [HX.out]; exact hxe
          · exact HNO.out j (by omega))
        clear hxe
        obtain ⟨w2, hw2⟩ : ∃ x, w1.drewN n = x := ⟨_, rfl⟩
        have HW2 := Lib.hid hw2
        rw [hw2] at y3 y4 hcx ⊢
        clear hw2 hkn
        go_wp2_with fail
        go_quiet (fail)
        go_wp2_with fail
        go_roundw
        case rel => exact ⟨k + 1, by omega, by go_num, R.out, n + nq, by rw [← HW2.out]; simp [World.drewN_drewN]⟩
        case measure => simp [intOf]; omega
    · obtain rfl : k = s.plans.length := by omega
      have HR := Lib.hid (show s.fails = false by
        unfold RS.fails
        rw [decide_eq_false_iff_not]
        intro hm
        obtain ⟨j, hj, he⟩ := List.getElem_of_mem hm
        exact HNO.out j hj (by simp [List.getD, hj, he]))
      generalize w1.drewN n = w2 at *
      go_wp2_with fail
      go_ret
      rw [HR.out]
      exact ⟨rfl, HRN.out, HKN.out⟩

def _root_.Ks.RS.read (s : RS) (i : Int) : List Int × Int :=
  if s.fails then ([], 3) else if i < 0 ∨ (s.last.length : Int) ≤ i then ([], 2) else ((s.cach.getD i.toNat none).getD (s.last.getD i.toNat []), 0)

/-- bytes in new memory, and an error's number; the reference's disk is as told -/
def RAnswers (q : Nat) (F : Nat → Prop) (s : RS) (w : World) (bs : List Int) (err : Int) (e : Ending) (w' : World) : Prop :=
  ∃ v, e = .returned (.tuple #[v, .int .i64 err]) ∧ Byt w' (From w.heap.size) v bs ∧ RefAt w' q F s ∧ Keeps F w w'

/-- a copy, its value written out -/
theorem clone_slice {w : World} {ty : Nat} {F : Nat → Prop} {u : Value} {bs : List Int} (hu : Bys w F u bs) (hlen : bs.length ≤ 1000000) :
    ∃ A c w', (Builtin.append_ #[27, 27] ty #[.slice (some ⟨w.heap.size, 0, none⟩) 0 0, u]).run Tryd.prog (w.alloc (.cells #[] 5)) = .ok (.slice A bs.length c) w' ∧ Cloned w bs (.slice A bs.length c) w' := by
  obtain ⟨v, w', hr, hc⟩ := clone1 (ty := ty) hu hlen (Nat.le_refl _) (heap_alloc_new w _) ((Keeps.refl No w).alloc _)
  obtain ⟨A, c, rfl⟩ := Bys.form hc.1
  exact ⟨A, c, w', hr, hc⟩

set_option maxRecDepth 100000 in
set_option maxHeartbeats 2000000 in
theorem refRead_any (w : World) (q : Nat) (F : Nat → Prop) (s : RS) (i : Int) (h : RefAt w q F s) (hops : s.ops < 1000000) (hpl : s.plans.length ≤ 1000000) (_hn : s.last.length ≤ 4096) (hs : s.size ≤ 4096) :
    Calls Tryd.prog 44 #[.pointer (some ⟨q, 0, none⟩), .int .i64 i] w (RAnswers q F s.tick w (s.read i).1 (s.read i).2) := by
  have q31 : ∀ (w : World) (a : Option Addr) (n c : Nat), (binOp .neq 27 (.slice a n c) (.slice none 0 0)).run Tryd.prog w = .ok (.bool (!a.isNone)) w := fun w a n c => run_neq_slice_nil_any w _ _ a n c 0 0 Tryd.underlying27
  have H := Lib.hid h
  clear h
  cases hf : s.fails
  · by_cases h0 : i < 0
    · have HR := Lib.hid (show s.read i = ([], 2) by simp [RS.read, hf, h0])
      have HF := Lib.hid hf
      clear hf
      go_enter Tryd.func44, Tryd.ntmps44
      go_wp2_with fail
      refine (refFails_any w q F s H.out hops hpl).mono ?_
      rintro e w1 ⟨rfl, hd, hk⟩
      rw [HF.out]
      have HD := Lib.hid hd
      have HK := Lib.hid hk
      clear hd hk
      go_wp2_with fail
      go_ret2
      rw [HR.out]
      exact ⟨_, rfl, Byt.nil _ _, HD.out, HK.out⟩
    by_cases h1 : (s.last.length : Int) ≤ i
    · have HR := Lib.hid (show s.read i = ([], 2) by simp [RS.read, hf, h1])
      have HF := Lib.hid hf
      have g0 : decide (i < 0) = false := by simp; omega
      clear hf h0
      go_enter Tryd.func44, Tryd.ntmps44
      go_wp2_with fail
      refine (refFails_any w q F s H.out hops hpl).mono ?_
      rintro e w1 ⟨rfl, hd, hk⟩
      rw [HF.out]
      obtain ⟨lastV, lv, cachV, cv, planV, hin⟩ := hd
      obtain ⟨AL, cL, rfl⟩ := row_slice hin.row
      have hll : s.tick.last.length = s.last.length := rfl
      have c1 := hin.c1
      rw [hll] at c1
      have HD := Lib.hid (show RefAt w1 q F s.tick from ⟨_, _, _, _, _, hin⟩)
      have HK := Lib.hid hk
      clear hk hin hll
      go_wp2_with fail
      go_ret2
      rw [HR.out]
      exact ⟨_, rfl, Byt.nil _ _, HD.out, HK.out⟩
    obtain ⟨k, rfl⟩ := Int.eq_ofNat_of_zero_le (show 0 ≤ i by omega)
    have hkn : k < s.last.length := by omega
    have HRD := Lib.hid (show s.read (k : Int) = ((s.cach.getD k none).getD (s.last.getD k []), 0) by
      unfold RS.read
      rw [hf, if_neg (by simp), if_neg (by omega)]
      rfl)
    have HF := Lib.hid hf
    have hk0 : (0 : Int) ≤ (k : Int) := by omega
    have hk1 : (k : Int) < (s.last.length : Int) := by omega
    have g0 : decide ((k : Int) < 0) = false := by simp
    clear hf h0 h1
    go_enter Tryd.func44, Tryd.ntmps44
    go_wp2_with fail
    refine (refFails_any w q F s H.out hops hpl).mono ?_
    rintro e w1 ⟨rfl, hd, hk⟩
    rw [HF.out]
    obtain ⟨lastV, lv, cachV, cv, planV, hin⟩ := hd
    have hrow : w1.ownsRow 0 27 1 lastV s.last.length lv := hin.row
    have hcrow : w1.ownsRow 0 27 1 cachV s.last.length cv := hin.crow
    obtain ⟨g1, d1, cur1, rfl, hl1, hb1, hc1⟩ := row_cell_ hrow hkn
    obtain ⟨g2, d2, cur2, rfl, hl2, hb2, hc2⟩ := row_cell_ hcrow hkn
    have c1 := hin.c1
    have c2 := hin.c2
    have b1 := hb1.lt
    have b2 := hb2.lt
    have bq := hin.blk.lt
    have hsect := hin.sect k hkn
    have hcac := hin.csect k hkn
    have hlen : (s.last.getD k []).length = s.size := hin.lens k hkn
    have hclen : ∀ bs, s.cach.getD k none = some bs → bs.length = s.size := fun bs h => hin.clens k bs h
    have HD := Lib.hid (show RefAt w1 q F s.tick from ⟨_, _, _, _, _, hin⟩)
    have HK := Lib.hid hk
    clear hk hin hrow hcrow hb1 hb2
    have hcac : Cac w1 F (cv.getD k undef) (s.cach.getD k none) := hcac
    have hsect : Byt w1 F (lv.getD k undef) (s.last.getD k []) := hsect
    cases ho : s.cach.getD k none with
    | none =>
      rw [ho] at hcac HRD
      rw [show cv.getD k undef = .slice none 0 0 from hcac] at hc2
      obtain ⟨x, hx⟩ : ∃ x, s.last.getD k [] = x := ⟨_, rfl⟩
      rw [hx] at hsect hlen HRD
      obtain ⟨Ax, cx, hvx⟩ := Bys.form hsect
      rw [hvx] at hc1 hsect
      obtain ⟨A3, c3, w3, hr3, hcl3⟩ := clone_slice (ty := 27) hsect.bys (by omega)
      have HR3 := Lib.hid hr3
      have R := Lib.hid (show RAnswers q F s.tick w x 0 (.returned (.tuple #[.slice A3 x.length c3, .int .i64 0])) w3 from
        ⟨_, rfl, hcl3.1.mono fun b hb => Nat.le_trans HK.out.size hb, HD.out.keeps hcl3.2 (fun _ _ h => h), HK.out.trans hcl3.2.no⟩)
      clear hcac hsect hvx hr3 hcl3 hx ho hclen hlen
      go_wp2_with (at_builtin; refine Lib.wpList_append_run _ rfl _ _ _ _ rfl _ _ rfl rfl _ _ HR3.out ?_)
      go_ret2
      rw [HRD.out]
      exact R.out
    | some x =>
      rw [ho] at hcac HRD
      have hlx := hclen x ho
      obtain ⟨hbx, hx0⟩ := hcac
      obtain ⟨Ax, cx, hvx, hcx, hax⟩ := hbx
      obtain ⟨b, o, rfl, hB, hcs⟩ := hax hx0
      rw [hvx] at hc2
      have hbx : Byt w1 F (.slice (some ⟨b, o, none⟩) x.length cx) x := ⟨_, _, rfl, hcx, fun _ => ⟨b, o, rfl, hB, hcs⟩⟩
      obtain ⟨A3, c3, w3, hr3, hcl3⟩ := clone_slice (ty := 27) hbx.bys (by omega)
      have HR3 := Lib.hid hr3
      have R := Lib.hid (show RAnswers q F s.tick w x 0 (.returned (.tuple #[.slice A3 x.length c3, .int .i64 0])) w3 from
        ⟨_, rfl, hcl3.1.mono fun b hb => Nat.le_trans HK.out.size hb, HD.out.keeps hcl3.2 (fun _ _ h => h), HK.out.trans hcl3.2.no⟩)
      clear hsect hvx hr3 hcl3 ho hclen hax hcs hB hbx hlen hlx
      go_wp2_with (at_builtin; refine Lib.wpList_append_run _ rfl _ _ _ _ rfl _ _ rfl rfl _ _ HR3.out ?_)
      go_ret2
      rw [HRD.out]
      exact R.out
  · have HR := Lib.hid (show s.read i = ([], 3) by simp [RS.read, hf])
    have HF := Lib.hid hf
    clear hf
    go_enter Tryd.func44, Tryd.ntmps44
    go_wp2_with fail
    refine (refFails_any w q F s H.out hops hpl).mono ?_
    rintro e w1 ⟨rfl, hd, hk⟩
    rw [HF.out]
    have HD := Lib.hid hd
    have HK := Lib.hid hk
    clear hd hk
    go_wp2_with fail
    go_ret2
    rw [HR.out]
    exact ⟨_, rfl, Byt.nil _ _, HD.out, HK.out⟩
end Go.Proofs.YtpbhkkcboppdmaaDoor.Dsk
namespace Go.Proofs.YtpbhkkcboppdmaaDoor.Dsk
open Ks
set_option maxRecDepth 20000

structure Sim (s : St) (r : RS) : Prop where
  size : s.size = r.size
  last : s.last = r.last
  clen : r.cach.length = r.last.length
  cach : ∀ k : Nat, s.cach (k : Int) = r.cach.getD k none
  neg : ∀ k : Int, k < 0 → s.cach k = none
  ops : s.ops = r.ops
  wr : s.wr = r.wr
  plan : ∀ k : Int, (r.ops : Int) < k → s.plan k = decide (k ∈ r.plans)
  lens : ∀ i, i < r.last.length → (r.last.getD i []).length = r.size
  clens : ∀ i bs, r.cach.getD i none = some bs → bs.length = r.size

section
variable {s : St} {r : RS}
theorem getD_beyond {α : Type} (l : List (Option α)) (k : Nat) (h : l.length ≤ k) : l.getD k none = none := by simp [List.getD, h]
theorem Sim.fails (h : Sim s r) : s.fails = r.fails := by
  unfold St.fails RS.fails
  rw [h.ops]
  exact h.plan _ (by omega)
theorem Sim.tick (h : Sim s r) : Sim s.tick r.tick :=
  ⟨h.size, h.last, h.clen, h.cach, h.neg, by show s.ops + 1 = r.ops + 1; rw [h.ops], h.wr, fun k hk => by
    have hk' : (r.ops : Int) + 1 < k := by have : ((r.ops + 1 : Nat) : Int) < k := hk; omega
    show (if k = (s.ops : Int) + 1 then false else s.plan k) = decide (k ∈ r.plans)
    rw [h.ops, if_neg (by omega)]
    exact h.plan k (by omega), h.lens, h.clens⟩
theorem Sim.read (h : Sim s r) (i : Int) : St.read s i = r.read i := by
  unfold St.read RS.read
  rw [h.fails, h.last]
  by_cases hf : r.fails = true
  · rw [if_pos hf, if_pos hf]
  · rw [if_neg hf, if_neg hf]
    by_cases hi : i < 0 ∨ (r.last.length : Int) ≤ i
    · rw [if_pos hi, if_pos hi]
    · rw [if_neg hi, if_neg hi]
      obtain ⟨n, rfl⟩ := Int.eq_ofNat_of_zero_le (show 0 ≤ i by omega)
      rw [show s.cach (n : Int) = r.cach.getD n none from h.cach n]
      rfl
end
end Go.Proofs.YtpbhkkcboppdmaaDoor.Dsk
