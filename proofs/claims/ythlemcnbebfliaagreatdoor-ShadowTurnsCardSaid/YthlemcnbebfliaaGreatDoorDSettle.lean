/-
  THE WALKS OF settle, left.
-/
import Derived.Test.YthlemcnbebfliaaGreatDoorDRead
import Derived.Laws.CopyRow
import Derived.Laws.IdiomCopy
import Derived.Deep.OwnRows
namespace Go.Proofs.YthlemcnbebfliaaGreatDoor.Dsk
open Ks Go.RowKit
set_option maxRecDepth 20000

/-- the row with another element -/
theorem row_set {w : World} {base g n c i : Nat} {lv : List Value} (h : w.ownsRow base 33 1 (.slice (some ⟨g, 0, none⟩) n c) n lv) (v : Value) :
    (w.setCell ⟨g, i, none⟩ v).ownsRow base 33 1 (.slice (some ⟨g, 0, none⟩) n c) n (lv.set i v) := by
  rcases h.2 with ⟨h1, _⟩ | ⟨g', cap, cur, h1, hb, hg, h2, h3, h4, h5⟩
  · cases h1
  · simp only [Value.slice.injEq, Option.some.injEq, Addr.mk.injEq, and_true, true_and] at h1
    obtain ⟨rfl, rfl⟩ := h1
    have hg' : Blk w g 33 cur := hg
    refine ⟨by simpa using h.1, .inr ⟨g, c, cur.setIfInBounds i v, rfl, hb, hg'.set_ i v, h2, h3, by simpa using h4, ?_⟩⟩
    rw [Nat.mul_one] at h5 ⊢
    rw [← h5, Array.toList_setIfInBounds, List.take_set]

theorem settle_in {w w3 : World} {p : Nat} {F : Nat → Prop} {s : St} {lv : List Value} {cb : Nat} {pm : Option Nat} {D : DataW Value} {g c : Nat} {i : Int} {v : Value} {bs : List Int}
    (h : DiskIn Tryz.prog w p F s (.slice (some ⟨g, 0, none⟩) s.last.length c) lv cb pm D) (hv : Byt w F v bs) (hlen : bs.length = s.size) (hi0 : 0 ≤ i) (hi1 : i < s.last.length)
    (hrow : (w.setCell ⟨g, i.toNat, none⟩ v).ownsRow 0 33 1 (.slice (some ⟨g, 0, none⟩) s.last.length c) s.last.length (lv.set i.toNat v))
    (hown : w3.ownsMap Tryz.prog 3 heldR cb s.cn (D.del (K i))) (hturn : (w.setCell ⟨g, i.toNat, none⟩ v).mapTurned w3 cb) :
    DiskIn Tryz.prog w3 p F (s.settled i bs) (.slice (some ⟨g, 0, none⟩) s.last.length c) (lv.set i.toNat v) cb pm (D.del (K i)) ∧ Keeps F w w3 := by
  have hk : Keeps (Muts p (.slice (some ⟨g, 0, none⟩) s.last.length c) cb pm) w w3 :=
    ((Keeps.refl _ w).set_ (p := ⟨g, i.toNat, none⟩) (.inl (.inr (.inl rfl))) v).grown hturn.grown (fun b hb => by simp at hb; exact .inl (.inr (.inr (.inl hb.symm))))
  have hg : ∀ b, b < w.heap.size → b ≠ g → b ≠ cb → w3.heap[b]? = w.heap[b]? := fun b hb h1 h2 =>
    (hturn.grown.block b (by simpa [World.setCell] using hb) (fun e => h2 (by simpa using e))).trans (Below.heap_setCell _ _ _ _ h1)
  have hgp : p ≠ g := fun e => h.p_ne_row (by rw [e]; rfl)
  refine ⟨⟨h.blk.of_eq (hg p h.blk.lt hgp (Ne.symm h.p_ne_cb)), h.fp, ?_, h.frow, fun k hk' => ?_, fun k hk' => ?_, h.fcb, hown, fun k => ?_, fun k b hb => ?_, h.plan.of_eq fun b hb => ?_, fun b hb => Nat.lt_of_lt_of_le (h.there b hb) hk.size⟩, hk.mono fun b hb => h.muts hb⟩
  · simp only [St.settled, List.length_set]
    exact ownsRow_of_eq hrow fun b hb => hturn.grown.block b (by
      simp only [Value.ownBlock, Option.some.injEq] at hb
      subst hb
      obtain ⟨cur, hc⟩ := h.row_blk (g := g) rfl
      simpa [World.setCell] using hc.lt) (fun e => by
      simp only [Value.ownBlock, Option.some.injEq] at hb e
      exact h.row_ne_cb (by simp only [Value.ownBlock]; rw [hb, e]))
  · simp only [St.settled, List.length_set] at hk' ⊢
    have hl : lv.length = s.last.length := by have := h.row.1; simpa using this
    by_cases e : i.toNat = k
    · subst e
      simp only [List.getD, List.getElem?_set_self (show i.toNat < lv.length by omega), List.getElem?_set_self (show i.toNat < s.last.length by omega), Option.getD_some]
      exact h.bytes hk hv
    · simp only [List.getD, List.getElem?_set_ne e]
      exact h.bytes hk (h.sect k hk')
  · simp only [St.settled, List.length_set] at hk' ⊢
    by_cases e : i.toNat = k
    · subst e
      simp only [List.getD, List.getElem?_set_self (show i.toNat < s.last.length by omega), Option.getD_some]
      exact hlen
    · simp only [List.getD, List.getElem?_set_ne e]
      exact h.lens k hk'
  · simp only [St.settled]
    by_cases e : k = i
    · subst e
      rw [if_pos rfl]
      exact Maps.has_del_same
    · rw [if_neg e]
      have := h.cache' hk (h.cache k)
      cases hc : s.cach k with
      | none =>
        rw [hc] at this
        exact (Maps.has_del_other (K_ne e)).trans this
      | some bs =>
        rw [hc] at this
        obtain ⟨v, h1, h2⟩ := this
        exact ⟨v, fun z => (Maps.atKey_del_other (K_ne e) z).trans (h1 z), h2⟩
  · simp only [St.settled, List.length_set] at hb ⊢
    split at hb
    · cases hb
    · exact h.keys k b hb
  · have hne := h.plan_ne hb
    exact hg b (lt_of_heap (h.plan_map hb).2.2.choose_spec.choose_spec) (fun e => hne.2.1 (by rw [e]; rfl)) hne.2.2

/-- the disk is as told; what it may have changed is its own -/
def Leaves (p : Nat) (F : Nat → Prop) (s : St) (w : World) (e : Ending) (w' : World) : Prop :=
  e = .returned (.tuple #[]) ∧ DiskAt Tryz.prog w' p F s ∧ Keeps F w w'

set_option maxRecDepth 100000 in
set_option maxHeartbeats 1000000 in
theorem settle_any (w : World) (p : Nat) (F : Nat → Prop) (s : St) (i : Int) (v : Value) (bs : List Int) (h : DiskAt Tryz.prog w p F s) (hv : Byt w F v bs) (hlen : bs.length = s.size)
    (hi0 : 0 ≤ i) (hi1 : i < s.last.length) (hn : s.last.length ≤ 4096) :
    Calls Tryz.prog 62 #[.pointer (some ⟨p, 0, none⟩), .int .i64 i, v] w (Leaves p F (s.settled i bs) w) := by
  obtain ⟨lastV, lv, cb, pm, D, hin⟩ := h
  have c1 := hin.c1
  have c2 := hin.c2
  obtain ⟨g, c, cur, rfl, hlc, hblk, hcs, hcell, hFg⟩ := row_cell hin (i := i.toNat) (by omega)
  have hrow := row_set hin.row (i := i.toNat) v
  have hgp : g ≠ p := fun e => hin.p_ne_row (by rw [e]; rfl)
  have hgc : cb ≠ g := fun e => hin.row_ne_cb (by rw [e]; rfl)
  have hfz := hblk.frozen i.toNat
  have hgl := hblk.lt
  obtain ⟨w3, hdrop, hown3, hturn⟩ := (hin.own.setCell (a := ⟨g, i.toNat, none⟩) hgc v).drop law3 Tryz.underlying98 (key3 i (by omega) (by omega)) 0
  have c2' : (w.setCell ⟨g, i.toNat, none⟩ v).cell? ⟨p, 2, none⟩ = some (.map (some cb)) := by
    rw [World.cell?_setCell_other]
    · exact c2
    · intro e
      injection e with e
      exact hgp e
  obtain ⟨old, hold⟩ : ∃ o, lv.getD i.toNat undef = o := ⟨_, rfl⟩
  rw [hold] at hcell
  obtain ⟨A0, c0, rfl, hv1, hv2⟩ := hv
  have HV := Lib.hid (show Byt w F (.slice A0 bs.length c0) bs from ⟨A0, c0, rfl, hv1, hv2⟩)
  have H := Lib.hid hin
  have HR := Lib.hid hrow
  have HO := Lib.hid hown3
  have HT := Lib.hid hturn
  have HLn := Lib.hid hlen
  have HB := Lib.hid hblk
  clear hv1 hv2 hin hrow hown3 hturn hlen hblk hcs hold
  go_enter Tryz.func62, Tryz.ntmps62
  go_wp2_with fail
  go_end0
  obtain ⟨h1, h2⟩ := settle_in H.out HV.out HLn.out hi0 hi1 HR.out HO.out HT.out
  exact ⟨rfl, ⟨_, _, _, _, _, h1⟩, h2⟩
end Go.Proofs.YthlemcnbebfliaaGreatDoor.Dsk
