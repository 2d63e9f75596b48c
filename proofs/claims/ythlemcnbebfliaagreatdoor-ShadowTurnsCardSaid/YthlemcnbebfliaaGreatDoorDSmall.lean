/-
  THE WALKS OF Ops, Writes, Sectors, Size, nextFails.
-/
import Derived.Test.YthlemcnbebfliaaGreatDoorDState
import Derived.Deep.QuietTactic
import Derived.BigQuiet
import Derived.Deep.RegionHeld3
import Derived.BigRegion
namespace Go.Proofs.YthlemcnbebfliaaGreatDoor.Dsk
open Ks Go.RowKit
set_option maxRecDepth 20000

theorem law3 : Maps.Keyed Tryz.prog 3 := Maps.int_keyed Tryz.underlying3
theorem key3 (k : Int) (h0 : -9223372036854775808 ≤ k) (h1 : k ≤ 9223372036854775807) : keyOf Tryz.prog 3 (.int .i64 k) = some (K k) :=
  Maps.keyOf_int_mk Tryz.underlying3 (by simp [Lit.wf, IntKind.min, IntKind.max, IntKind.signed, IntKind.bits]; omega)

theorem ops_any (w : World) (p : Nat) (F : Nat → Prop) (s : St) (h : DiskAt Tryz.prog w p F s) : Calls Tryz.prog 22 #[.pointer (some ⟨p, 0, none⟩)] w fun e w' => e = .returned (.int .i64 s.ops) ∧ w = w' := by
  obtain ⟨_, _, _, _, _, h⟩ := h
  have c4 := h.c4
  clear h
  go_enter Tryz.func22, Tryz.ntmps22
  go_wp2_with fail
  go_ret
  exact ⟨rfl, rfl⟩
theorem writes_any (w : World) (p : Nat) (F : Nat → Prop) (s : St) (h : DiskAt Tryz.prog w p F s) : Calls Tryz.prog 42 #[.pointer (some ⟨p, 0, none⟩)] w fun e w' => e = .returned (.int .i64 s.wr) ∧ w = w' := by
  obtain ⟨_, _, _, _, _, h⟩ := h
  have c4 := h.c5
  clear h
  go_enter Tryz.func42, Tryz.ntmps42
  go_wp2_with fail
  go_ret
  exact ⟨rfl, rfl⟩
theorem size_any (w : World) (p : Nat) (F : Nat → Prop) (s : St) (h : DiskAt Tryz.prog w p F s) : Calls Tryz.prog 82 #[.pointer (some ⟨p, 0, none⟩)] w fun e w' => e = .returned (.int .i64 s.size) ∧ w = w' := by
  obtain ⟨_, _, _, _, _, h⟩ := h
  have c4 := h.c0
  clear h
  go_enter Tryz.func82, Tryz.ntmps82
  go_wp2_with fail
  go_ret
  exact ⟨rfl, rfl⟩
theorem row_slice {w : World} {base e size n : Nat} {v : Value} {xs : List Value} (h : w.ownsRow base e size v n xs) : ∃ A c, v = .slice A n c := by
  rcases h.2 with ⟨rfl, rfl⟩ | ⟨g, cap, cur, rfl, _⟩
  · exact ⟨_, _, rfl⟩
  · exact ⟨_, _, rfl⟩
theorem sectors_any (w : World) (p : Nat) (F : Nat → Prop) (s : St) (h : DiskAt Tryz.prog w p F s) : Calls Tryz.prog 83 #[.pointer (some ⟨p, 0, none⟩)] w fun e w' => e = .returned (.int .i64 s.last.length) ∧ w = w' := by
  obtain ⟨_, _, _, _, _, h⟩ := h
  obtain ⟨A, c, rfl⟩ := row_slice h.row
  have c4 := h.c1
  clear h
  go_enter Tryz.func83, Tryz.ntmps83
  go_wp2_with fail
  go_ret
  exact ⟨rfl, rfl⟩

/-- what nextFails leaves -/
def Ticked (p : Nat) (F : Nat → Prop) (s : St) (w : World) (b : Bool) (e : Ending) (w' : World) : Prop :=
  e = .returned (.bool b) ∧ DiskAt Tryz.prog w' p F s.tick ∧ Keeps F w w'

/-- the disk's own block is the next count's; of the others only the plans' may have changed -/
theorem tick_in {w w' : World} {p : Nat} {F : Nat → Prop} {s : St} {lastV : Value} {lv : List Value} {cb : Nat} {pm : Option Nat} {D : DataW Value} (h : DiskIn Tryz.prog w p F s lastV lv cb pm D)
    (hk : Keeps (fun b => b = p ∨ pm = some b) w w') (hb : Blk w' p 101 #[.int .i64 s.size, lastV, .map (some cb), .map pm, .int .i64 ((s.ops : Int) + 1), .int .i64 s.wr]) (hp : PlanIs Tryz.prog w' F cb s.tick.plan s.pn pm) :
    DiskIn Tryz.prog w' p F s.tick lastV lv cb pm D := by
  have hm : Keeps (Muts p lastV cb pm) w w' := hk.mono fun b hb => hb.imp id fun h => .inr (.inr h)
  have hne : ∀ b, b < w.heap.size → b ≠ p → pm ≠ some b → w'.heap[b]? = w.heap[b]? := fun b hb h1 h2 => hk.block b hb (fun h => h.elim h1 h2)
  have hcb := heap_of_own h.own
  refine ⟨hb, h.fp, ownsRow_of_eq h.row fun g hg => ?_, h.frow, fun i hi => h.bytes hm (h.sect i hi), h.lens, h.fcb, ownsMap_of_eq h.own ?_, fun k => h.cache' hm (h.cache k), h.keys, hp, fun b hb => Nat.lt_of_lt_of_le (h.there b hb) hk.size⟩
  · obtain ⟨cur, hr⟩ := h.row_blk hg
    exact hne g hr.lt (fun e => h.p_ne_row (e ▸ hg)) (fun e => (h.plan_ne e).2.1 hg)
  · exact hne cb h.own.lt h.p_ne_cb (fun e => (h.plan_ne e).2.2 rfl)

set_option maxRecDepth 100000 in
set_option maxHeartbeats 1000000 in
theorem nextFails_none (w : World) (p : Nat) (F : Nat → Prop) (s : St) {lastV : Value} {lv : List Value} {cb : Nat} {D : DataW Value} (h : DiskIn Tryz.prog w p F s lastV lv cb none D) (hops : s.ops < 1000000) :
    Calls Tryz.prog 87 #[.pointer (some ⟨p, 0, none⟩)] w (Ticked p F s w false) := by
  have c3 := h.c3
  have c4 := h.c4
  have f4 := h.blk.frozen 4
  have hlt := h.blk.lt
  have H := Lib.hid h
  clear h
  have hz : ∀ w, (zeroValue 102).run Tryz.prog w = .ok (.agg #[]) w := fun w => by kernel_rfl
  have hlook : ∀ w, (Instr.lookup 99 (.map none) (.int .i64 ((s.ops : Int) + 1)) true).run Tryz.prog w = .ok (.tuple #[.agg #[], .bool false]) w := fun w => by
    have := Maps.look_nil (w := w) true law3 Tryz.underlying99 (hz w) (key3 ((s.ops : Int) + 1) (by omega) (by omega))
    simpa using this
  have hdrop : ∀ w ty, (Builtin.delete_ #[99, 3] ty #[.map none, .int .i64 ((s.ops : Int) + 1)]).run Tryz.prog w = .ok (.tuple #[]) w := fun w ty => Maps.drop_nil law3 Tryz.underlying99 (key3 ((s.ops : Int) + 1) (by omega) (by omega)) ty
  go_enter Tryz.func87, Tryz.ntmps87
  go_wp2_with fail
  go_region
  all_goals (go_wp2_with fail; go_region)
  all_goals (go_wp2_with fail; go_ret)
  have hk : Keeps (fun b => b = p ∨ (none : Option Nat) = some b) w (((w.setCell ⟨p, 4, none⟩ (.int .i64 ((s.ops : Int) + 1))).alloc (.cells #[] 102)).drew.drew) :=
    ((((Keeps.refl (fun b => b = p ∨ (none : Option Nat) = some b) w).set_ (p := ⟨p, 4, none⟩) (.inl (.inl rfl)) _).alloc _).drew).drew
  refine ⟨rfl, ⟨lastV, lv, cb, none, D, tick_in H.out hk ?_ ?_⟩, hk.mono fun b hb => by rcases hb with rfl | hb; exact H.out.fp; cases hb⟩
  · exact ((H.out.blk.set_ 4 _).of_eq (Below.heap_alloc _ _ _ (by simpa [World.setCell] using hlt)) : Blk _ p 101 _)
  · have := H.out.plan
    intro k
    simp only [St.tick]
    split
    · rfl
    · exact this k

set_option maxRecDepth 100000 in
set_option maxHeartbeats 1000000 in
theorem nextFails_some (w : World) (p : Nat) (F : Nat → Prop) (s : St) {lastV : Value} {lv : List Value} {cb pb : Nat} {D : DataW Value} (h : DiskIn Tryz.prog w p F s lastV lv cb (some pb) D) (hops : s.ops < 1000000) :
    Calls Tryz.prog 87 #[.pointer (some ⟨p, 0, none⟩)] w (Ticked p F s w s.fails) := by
  have c3 := h.c3
  have c4 := h.c4
  have f4 := h.blk.frozen 4
  have hlt := h.blk.lt
  obtain ⟨hFpb, hne, Dp, hown, hhas⟩ := h.plan
  have hnp : pb ≠ p := by
    obtain ⟨es, clock, hb, _⟩ := hown
    rintro rfl
    have := h.blk
    unfold Blk at this
    rw [hb] at this
    cases this
  have hz : ∀ w, (zeroValue 102).run Tryz.prog w = .ok (.agg #[]) w := fun w => by kernel_rfl
  have hown1 : (w.setCell ⟨p, 4, none⟩ (.int .i64 ((s.ops : Int) + 1))).ownsMap Tryz.prog 3 unitElem pb s.pn Dp := hown.setCell hnp _
  have hown2 := hown1.alloc (.cells #[] 102)
  have hkey := key3 ((s.ops : Int) + 1) (by omega) (by omega)
  have hlook : ∀ W : World, W.ownsMap Tryz.prog 3 unitElem pb s.pn Dp → (Instr.lookup 99 (.map (some pb)) (.int .i64 ((s.ops : Int) + 1)) true).run Tryz.prog W = .ok (.tuple #[.agg #[], .bool s.fails]) W := fun W hW => by
    obtain ⟨v, ps, hr, hv⟩ := hW.look_ok law3 Tryz.underlying99 (hz W) unitElem_mk hkey
    obtain ⟨rfl, _⟩ := unitElem_inv hv
    rw [hr, hhas]
    rfl
  have l1 := hlook _ hown1.drew
  have l2 := hlook _ hown2.drew
  obtain ⟨w3, hdrop, hown3, hturn⟩ := hown2.drew.drew.drop law3 Tryz.underlying99 hkey 0
  have H := Lib.hid h
  have H3 := Lib.hid hown3
  have HT := Lib.hid hturn
  have HH := Lib.hid hhas
  have HF := Lib.hid hFpb
  have HN := Lib.hid hne
  clear h hlook hown hown1 hown2 hown3 hturn hhas hkey hFpb hne
  go_enter Tryz.func87, Tryz.ntmps87
  go_wp2_with fail
  go_region
  all_goals (go_wp2_with fail; go_region)
  all_goals
    go_wp2_with fail
    go_ret
    have hk : Keeps (fun b => b = p ∨ some pb = some b) w w3 :=
      ((((Keeps.refl (fun b => b = p ∨ some pb = some b) w).set_ (p := ⟨p, 4, none⟩) (.inl (.inl rfl)) (.int .i64 ((s.ops : Int) + 1))).alloc (.cells #[] 102)).drew.drew).grown HT.out.grown (fun b hb => .inl (.inr hb))
    have hB : Blk w3 p 101 #[.int .i64 s.size, lastV, .map (some cb), .map (some pb), .int .i64 ((s.ops : Int) + 1), .int .i64 s.wr] := by
      refine Blk.of_eq (w := w.setCell ⟨p, 4, none⟩ (.int .i64 ((s.ops : Int) + 1))) (H.out.blk.set_ 4 _) ?_
      rw [HT.out.grown.block p (by simpa using Nat.lt_succ_of_lt hlt) (fun e => hnp (by simpa using e.symm))]
      exact Below.heap_alloc _ _ _ (by simpa [World.setCell] using hlt)
    refine ⟨rfl, ⟨lastV, lv, cb, some pb, D, tick_in H.out hk hB ⟨HF.out, HN.out, _, H3.out, fun k => ?_⟩⟩, hk.mono fun b hb => ?_⟩
    · simp only [St.tick]
      by_cases hkk : k = (s.ops : Int) + 1
      · subst hkk; rw [if_pos rfl]; exact Maps.has_del_same
      · rw [if_neg hkk, Maps.has_del_other (K_ne hkk)]; exact HH.out k
    · rcases hb with rfl | hb
      · exact H.out.fp
      · simp at hb; subst hb; exact HF.out

theorem nextFails_any (w : World) (p : Nat) (F : Nat → Prop) (s : St) (h : DiskAt Tryz.prog w p F s) (hops : s.ops < 1000000) :
    Calls Tryz.prog 87 #[.pointer (some ⟨p, 0, none⟩)] w (Ticked p F s w s.fails) := by
  obtain ⟨_, _, _, pm, _, h⟩ := h
  cases pm with
  | none =>
    have : s.fails = false := h.plan _
    rw [this]
    exact nextFails_none w p F s h hops
  | some pb => exact nextFails_some w p F s h hops
end Go.Proofs.YthlemcnbebfliaaGreatDoor.Dsk
