/-
  THE WALKS OF (*Chip).turn, rest, acknowledge, AND block.
-/
import Derived.Test.YtfcdlnpfneinlaaDoorEAt
namespace Go.Proofs.YtfcdlnpfneinlaaDoor
open Go.RowKit
set_option maxRecDepth 20000

/-- a call without a result -/
def Did (p : Nat) (F : Nat → Prop) (s : Chip) (w : World) (e : Ending) (w' : World) : Prop := e = .returned (.tuple #[]) ∧ Went p F s w w'
theorem Went.own {p : Nat} {F : Nat → Prop} {s : Chip} {w w' : World} (hT : Tab w) (hp : F p) (h : ChipAt w' p F s) (hk : Keeps (fun b => b = p) w w') : Went p F s w w' :=
  Went.of hT h (hk.mono fun b e => by rw [e]; exact hp)

/-- cells of the chip's own block are written, one behind the other -/
theorem ChipIn.sets_in {w : World} {p d cap l : Nat} {cm wm cm' : Option Nat} {F : Nat → Prop} {s : Chip} (h : ChipIn w p d cap l cm wm F s) (xs : List (Nat × Value)) (s' : Chip)
    (hcs : xs.foldl (fun cs x => cs.setIfInBounds x.1 x.2) (cellsOf p (.slice (some ⟨d, 0, none⟩) s.data.length cap) l cm wm s) = cellsOf p (.slice (some ⟨d, 0, none⟩) s.data.length cap) l cm' wm s')
    (hd : s'.data = s.data) (hl : s'.lev = s.lev) (hw : s'.wait = s.wait) (hc : (cm' = cm ∧ s'.coll = s.coll ∧ s'.join = s.join) ∨ (cm' = none ∧ s'.coll = [])) :
    ChipIn (xs.foldl (fun w x => w.setCell ⟨p, x.1, none⟩ x.2) w) p d cap l cm' wm F s' ∧ Keeps (fun b => b = p) w (xs.foldl (fun w x => w.setCell ⟨p, x.1, none⟩ x.2) w) := by
  have hx : ∀ (xs : List (Nat × Value)) (w1 : World) (cs : Array Value), Blk w1 p 70 cs → Keeps (fun b => b = p) w w1 →
      Blk (xs.foldl (fun w x => w.setCell ⟨p, x.1, none⟩ x.2) w1) p 70 (xs.foldl (fun cs x => cs.setIfInBounds x.1 x.2) cs) ∧ Keeps (fun b => b = p) w (xs.foldl (fun w x => w.setCell ⟨p, x.1, none⟩ x.2) w1) := by
    intro xs
    induction xs with
    | nil => exact fun w1 cs h1 h2 => ⟨h1, h2⟩
    | cons x xs ih => exact fun w1 cs h1 h2 => ih _ _ (h1.set_ x.1 x.2) (h2.set_ (p := ⟨p, x.1, none⟩) (.inl rfl) x.2)
  obtain ⟨hb, hk⟩ := hx xs w _ h.blk (Keeps.refl _ w)
  rw [hcs] at hb
  exact ⟨h.redo hk hb hd hl hw hc, hk⟩
theorem ChipIn.sets {w : World} {p d cap l : Nat} {cm wm cm' : Option Nat} {F : Nat → Prop} {s : Chip} (h : ChipIn w p d cap l cm wm F s) (xs : List (Nat × Value)) (s' : Chip)
    (hcs : xs.foldl (fun cs x => cs.setIfInBounds x.1 x.2) (cellsOf p (.slice (some ⟨d, 0, none⟩) s.data.length cap) l cm wm s) = cellsOf p (.slice (some ⟨d, 0, none⟩) s.data.length cap) l cm' wm s')
    (hd : s'.data = s.data) (hl : s'.lev = s.lev) (hw : s'.wait = s.wait) (hc : (cm' = cm ∧ s'.coll = s.coll ∧ s'.join = s.join) ∨ (cm' = none ∧ s'.coll = [])) :
    Went p F s' w (xs.foldl (fun w x => w.setCell ⟨p, x.1, none⟩ x.2) w) := by
  obtain ⟨h1, hk⟩ := h.sets_in xs s' hcs hd hl hw hc
  exact Went.own h.tab h.fp ⟨d, cap, l, cm', wm, h1⟩ hk
theorem Went.box {p : Nat} {F : Nat → Prop} {s : Chip} {w w' : World} (hT : Tab w) (h : Went p F s w w') (o : Obj) : Went p F s w (w'.alloc o) := by
  obtain ⟨h1, h2⟩ := h
  refine ⟨(h1.below (below_box w' o)).mono (fun b hb => ?_) (fun b hb => ?_) (grow_tab hT fun hF => h1.ft (.inl hF)), h2.alloc o⟩
  · rcases hb with hb | hb
    · exact .inl hb
    · exact .inr ⟨hb.1, by simp; omega⟩
  · rcases hb with hb | hb
    · have := h1.there b (.inl hb)
      simp
      omega
    · exact hb.2

section
variable {p : Nat} {F : Nat → Prop} {s s' : Chip} {w w1 w2 : World}
theorem ChipAt.went (h : ChipAt w p F s) : Went p F s w w := Went.of h.tab h (Keeps.refl F w)
theorem Went.then_ (Z : Went p F s w w1) (h : Went p (Grow F w w1) s' w1 w2) (hT : Tab w) : Went p F s' w w2 := Went.next Z.2 h hT (fun hF => Z.1.ft (.inl hF))
theorem below_drew (w : World) : Below w.heap.size w w.drew := ⟨rfl, rfl, rfl, Nat.le_refl _, fun _ _ => rfl⟩
theorem Went.calm (Z : Went p F s w w1) (hb : Below w1.heap.size w1 w2) (hT : Tab w) : Went p F s w w2 := Z.then_ (((Z.1.below hb).went).after hb Z.1.tab) hT
end

set_option maxHeartbeats 2000000 in
theorem turn_any (w : World) (p : Nat) (F : Nat → Prop) (s : Chip) (k : Nat) (h : ChipAt w p F s) : Calls Tryd.prog 42 #[.pointer (some ⟨p, 0, none⟩), fnV p k] w (Did p F (s.turn k) w) := by
  obtain ⟨d, cap, l, cm, wm, hin⟩ := h
  have H := Lib.hid hin
  have f3 := hin.blk.frozen 3
  have f4 := hin.blk.frozen 4
  have f7 := hin.blk.frozen 7
  have f12 := hin.blk.frozen 12
  have hst : ∀ (fn : Fn) (first cap : Array Value) (a : Addr) (w : World), (store a (.func fn first cap)).run Tryd.prog w = stored Tryd.prog w a (.func fn first cap) .plain := fun _ _ _ _ _ => run_store _ _ _ _ _ rfl
  have c3 := (hin.blk.cell 3)
  have c4 := (hin.blk.cell 4)
  have c7 := (hin.blk.cell 7)
  have c12 := (hin.blk.cell 12)
  simp only [cellsOf, List.getElem?_toArray, List.getElem?_cons_zero, List.getElem?_cons_succ] at c3 c4 c7 c12
  clear hin
  unfold fnV
  go_enter Tryd.func42, Tryd.ntmps42
  go_wp2_with fail
  go_end0
  refine ⟨rfl, ?_⟩
  exact H.out.sets (cm' := none) [(4, fnV p k), (3, .bool false), (7, .int .i64 0), (12, .map none)] (s.turn k) rfl rfl rfl rfl (.inr ⟨rfl, rfl⟩)
set_option maxHeartbeats 2000000 in
theorem rest_any (w : World) (p : Nat) (F : Nat → Prop) (s : Chip) (h : ChipAt w p F s) : Calls Tryd.prog 40 #[.pointer (some ⟨p, 0, none⟩)] w (Did p F s.rest w) := by
  have hmf : ∀ (fn : Fn) (first cap : Array Value) (w : World), (Instr.makeFunc fn first cap).run Tryd.prog w = .ok (.func fn first cap) w := fun _ _ _ _ => rfl
  have H := Lib.hid h
  clear h
  go_enter Tryd.func40, Tryd.ntmps40
  go_wp2_with fail
  refine (turn_any w p F s 0 H.out).mono ?_
  rintro e w' ⟨rfl, hw⟩
  have HW := Lib.hid hw
  clear hw
  go_wp2_with fail
  go_end0
  exact ⟨rfl, HW.out⟩
set_option maxHeartbeats 2000000 in
theorem ack_any (w : World) (p : Nat) (F : Nat → Prop) (s : Chip) (k : Nat) (hk0 : k ≠ 0) (h : ChipAt w p F s) : Calls Tryd.prog 62 #[.pointer (some ⟨p, 0, none⟩), fnV p k] w (Did p F (s.ack k) w) := by
  obtain ⟨d, cap, l, cm, wm, hin⟩ := h
  have H := Lib.hid hin
  have HK := Lib.hid hk0
  have f3 := hin.blk.frozen 3
  have f4 := hin.blk.frozen 4
  have f5 := hin.blk.frozen 5
  have hst : ∀ (fn : Fn) (first cap : Array Value) (a : Addr) (w : World), (store a (.func fn first cap)).run Tryd.prog w = stored Tryd.prog w a (.func fn first cap) .plain := fun _ _ _ _ _ => run_store _ _ _ _ _ rfl
  have hmf : ∀ (fn : Fn) (first cap : Array Value) (w : World), (Instr.makeFunc fn first cap).run Tryd.prog w = .ok (.func fn first cap) w := fun _ _ _ _ => rfl
  have c3 := (hin.blk.cell 3)
  have c4 := (hin.blk.cell 4)
  have c5 := (hin.blk.cell 5)
  simp only [cellsOf, List.getElem?_toArray, List.getElem?_cons_zero, List.getElem?_cons_succ] at c3 c4 c5
  clear hin hk0
  unfold fnV
  go_enter Tryd.func62, Tryd.ntmps62
  go_wp2_with fail
  go_end0
  refine ⟨rfl, ?_⟩
  have hb : bhV p k = fnV p k := if_neg HK.out
  exact H.out.sets (cm' := cm) [(3, .bool true), (4, fnV p 4), (5, fnV p k)] (s.ack k) (by rw [← hb]; rfl) rfl rfl rfl (.inl ⟨rfl, rfl, rfl⟩)
theorem block_any (b : Int) (w : World) (h0 : 0 ≤ b) (h1 : b ≤ 255) : Calls Tryd.prog 60 #[.int .u8 b] w fun e w' => e = .returned (.int .i64 (b / 2 % 8)) ∧ w = w' := by
  go_enter Tryd.func60, Tryd.ntmps60
  go_wp2_with fail
  go_ret
  exact ⟨rfl, rfl⟩
end Go.Proofs.YtfcdlnpfneinlaaDoor
