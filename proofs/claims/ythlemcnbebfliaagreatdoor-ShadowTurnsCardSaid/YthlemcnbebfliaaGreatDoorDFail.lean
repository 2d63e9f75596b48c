/-
  THE WALK OF Fail.
-/
import Derived.Test.YthlemcnbebfliaaGreatDoorDWrite
import Derived.Shelf.SlMaps.Clone
namespace Go.Proofs.YthlemcnbebfliaaGreatDoor.Dsk
open Ks Go.RowKit
set_option maxRecDepth 20000

def _root_.Ks.St.fail (s : St) (n : Int) : St := if n ≤ s.ops then s else { s with plan := fun k => if k = n then true else s.plan k, pn := s.pn + 1 }

/-- the disk is as told; it may have taken new memory -/
def Does (p : Nat) (F : Nat → Prop) (s : St) (w : World) (e : Ending) (w' : World) : Prop :=
  e = .returned (.tuple #[]) ∧ DiskAt Tryz.prog w' p (Grow F w w') s ∧ Keeps F w w'

theorem fail_in {w w1 w3 : World} {p : Nat} {F : Nat → Prop} {s : St} {lastV : Value} {lv : List Value} {cb pb : Nat} {pm : Option Nat} {D : DataW Value} {D1 : DataW Unit} {n : Int}
    (h : DiskIn Tryz.prog w p F s lastV lv cb pm D) (hn : (s.ops : Int) < n) (hk1 : Keeps (fun b => b = p) w w1) (hb1 : Blk w1 p 101 #[.int .i64 s.size, lastV, .map (some cb), .map (some pb), .int .i64 s.ops, .int .i64 s.wr])
    (hpb : pm = some pb ∨ w.heap.size ≤ pb) (hD1 : ∀ k, Maps.has D1 (K k) = s.plan k) (hm : Maps.IsMap D1) (hpl : pb < w1.heap.size)
    (hown : w3.ownsMap Tryz.prog 3 unitElem pb (s.pn + 1) (D1.put (K n) (.agg []))) (hturn : w1.mapTurned w3 pb) :
    DiskAt Tryz.prog w3 p (Grow F w w3) (s.fail n) ∧ Keeps F w w3 := by
  have e : s.fail n = { s with plan := fun k => if k = n then true else s.plan k, pn := s.pn + 1 } := by
    unfold Ks.St.fail
    rw [if_neg (by omega)]
  rw [e]
  have hF : ∀ b, F b → Grow F w w3 b := fun b hb => .inl hb
  have hold : ∀ b, pm = some b → b ≠ p ∧ lastV.ownBlock ≠ some b ∧ b ≠ cb := fun b hb => h.plan_ne hb
  have hpbp : pb ≠ p := by
    rcases hpb with hpb | hpb
    · exact (hold pb hpb).1
    · have := h.blk.lt
      omega
  have hpbc : pb ≠ cb := by
    rcases hpb with hpb | hpb
    · exact (hold pb hpb).2.2
    · have := h.own.lt
      omega
  have hpbr : lastV.ownBlock ≠ some pb := by
    rcases hpb with hpb | hpb
    · exact (hold pb hpb).2.1
    · intro e
      have := h.there _ (h.frow pb e)
      omega
  have hk3 : Keeps (fun b => b = p ∨ pm = some b) w w3 := (hk1.mono (T := fun b => b = p ∨ pm = some b) fun b hb => .inl hb).grown hturn.grown (fun b hb => by
    simp at hb
    subst hb
    rcases hpb with hpb | hpb
    · exact .inl (.inr hpb)
    · exact .inr hpb)
  have hk : Keeps (Muts p lastV cb pm) w w3 := hk3.mono fun b hb => hb.imp id fun h => .inr (.inr h)
  have hg : ∀ b, b < w.heap.size → b ≠ p → b ≠ pb → w3.heap[b]? = w.heap[b]? := fun b hb h1 h2 =>
    (hturn.grown.block b (Nat.lt_of_lt_of_le hb hk1.size) (fun e => h2 (by simpa using e))).trans (hk1.block b hb h1)
  refine ⟨⟨lastV, lv, cb, some pb, D, ⟨?_, hF _ h.fp, ownsRow_of_eq h.row fun g hg' => ?_, fun g hg' => hF _ (h.frow g hg'), fun k hk' => (h.bytes hk (h.sect k hk')).mono hF, h.lens, hF _ h.fcb, ?_, fun k => (h.cache' hk (h.cache k)).mono hF, h.keys, ⟨?_, hpbc, _, hown, fun k => ?_⟩, fun b hb => ?_⟩⟩, hk3.mono fun b hb => ?_⟩
  · exact hb1.of_eq (hturn.grown.block p hb1.lt (fun e => hpbp (by simpa using e.symm)))
  · obtain ⟨cur, hc⟩ := h.row_blk hg'
    exact hg g hc.lt (fun e => h.p_ne_row (e ▸ hg')) (fun e => hpbr (e ▸ hg'))
  · exact ownsMap_of_eq h.own (hg cb h.own.lt h.p_ne_cb (Ne.symm hpbc))
  · rcases hpb with hpb | hpb
    · exact .inl (h.plan_map hpb).1
    · exact .inr ⟨hpb, Nat.lt_of_lt_of_le hpl hturn.grown.size⟩
  · show _ = if k = n then true else s.plan k
    by_cases e : k = n
    · subst e
      rw [if_pos rfl, Maps.has_put_same hm (K_key k)]
    · rw [if_neg e, Maps.has_put_other (K_ne e)]
      exact hD1 k
  · rcases hb with hb | hb
    · exact Nat.lt_of_lt_of_le (h.there b hb) hk3.size
    · exact hb.2
  · rcases hb with rfl | hb
    · exact h.fp
    · exact (h.plan_map hb).1

set_option maxRecDepth 100000 in
set_option maxHeartbeats 2000000 in
theorem fail_any (w : World) (p : Nat) (F : Nat → Prop) (s : St) (n : Int) (h : DiskAt Tryz.prog w p F s) (_hops : s.ops < 1000000) (hpn : s.pn < 1000000) (hn0 : -2000000 ≤ n) (hn1 : n ≤ 2000000) :
    Calls Tryz.prog 21 #[.pointer (some ⟨p, 0, none⟩), .int .i64 n] w (Does p F (s.fail n) w) := by
  obtain ⟨lastV, lv, cb, pm, D, hin⟩ := h
  have c4 := hin.c4
  have c3 := hin.c3
  have f3 := hin.blk.frozen 3
  have hlt := hin.blk.lt
  have H := Lib.hid hin
  have hq := fun w => run_eql_map_nil_sl (P := Tryz.prog) w 99 _ _ pm Tryz.underlying99
  by_cases hle : n ≤ s.ops
  · have HR := Lib.hid (show s.fail n = s by unfold Ks.St.fail; rw [if_pos hle])
    clear hin
    go_enter Tryz.func21, Tryz.ntmps21
    go_wp2_with fail
    go_end0
    rw [HR.out]
    exact ⟨rfl, DiskAt.grow ⟨_, _, _, _, _, H.out⟩, Keeps.refl _ _⟩
  · have hlt2 : (s.ops : Int) < n := by omega
    have hkey := key3 n (by omega) (by omega)
    cases pm with
    | none =>
      have hss : (w.setCell ⟨p, 3, none⟩ (.map (some w.heap.size))).heap.size = w.heap.size := by simp [World.setCell]
      have hown1 : ((w.setCell ⟨p, 3, none⟩ (.map (some w.heap.size))).alloc (.map #[] 0)).ownsMap Tryz.prog 3 (unitElem (H := Unit)) w.heap.size 0 (.map []) := by
        have := World.ownsMap_made (w.setCell ⟨p, 3, none⟩ (.map (some w.heap.size))) Tryz.prog 3 (unitElem (H := Unit))
        rw [hss] at this
        exact this
      obtain ⟨w3, hupd, hown3, hturn⟩ := (hown1.mono (Nat.zero_le s.pn)).store law3 Tryz.underlying99 (by unfold maxLen; omega) hkey (unitElem_mk (H := Unit))
      have hmm := @run_makeMap Tryz.prog
      have HO := Lib.hid hown3
      have HT := Lib.hid hturn
      clear hin hown1 hown3 hturn hkey hle hss
      go_enter Tryz.func21, Tryz.ntmps21
      go_wp2_with fail
      go_end0
      have hk1 : Keeps (fun b => b = p) w ((w.setCell ⟨p, 3, none⟩ (.map (some w.heap.size))).alloc (.map #[] 0)) := ((Keeps.refl (fun b => b = p) w).set_ (p := ⟨p, 3, none⟩) (.inl rfl) _).alloc _
      have hb1 : Blk ((w.setCell ⟨p, 3, none⟩ (.map (some w.heap.size))).alloc (.map #[] 0)) p 101 _ := (H.out.blk.set_ 3 (.map (some w.heap.size))).of_eq (Below.heap_alloc _ _ _ (by simpa [World.setCell] using hlt))
      have r := fail_in H.out hlt2 hk1 hb1 (.inr (Nat.le_refl _)) (D1 := .map []) (fun k => (H.out.plan k).symm) ⟨[], rfl⟩ (by simp [World.setCell]) HO.out HT.out
      exact ⟨rfl, r.1, r.2⟩
    | some pb =>
      obtain ⟨hFpb, hne, Dp, hown, hhas⟩ := hin.plan
      obtain ⟨w3, hupd, hown3, hturn⟩ := hown.store law3 Tryz.underlying99 (by unfold maxLen; omega) hkey (unitElem_mk (H := Unit))
      have HO := Lib.hid hown3
      have HT := Lib.hid hturn
      have HH := Lib.hid hhas
      have HM := Lib.hid hown.isMap
      have HL := Lib.hid hown.lt
      clear hin hown3 hturn hkey hle hhas hown hFpb hne
      go_enter Tryz.func21, Tryz.ntmps21
      go_wp2_with fail
      go_end0
      have r := fail_in H.out hlt2 (Keeps.refl _ w) H.out.blk (.inl rfl) HH.out HM.out HL.out HO.out HT.out
      exact ⟨rfl, r.1, r.2⟩
end Go.Proofs.YthlemcnbebfliaaGreatDoor.Dsk
