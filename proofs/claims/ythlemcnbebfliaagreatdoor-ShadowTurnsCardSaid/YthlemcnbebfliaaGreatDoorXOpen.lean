/-
  WHAT Open DOES, OF DISKS AS VALUES; A SHADOW IN MEMORY; the walk of shadow.Open.
-/
import Derived.Test.YthlemcnbebfliaaGreatDoorXOne
namespace Go
/-- a post of one's own where nothing ends the call -/
def Mid (P : Act → World → Prop) (Q : Exit → Act → World → Prop) : Exit → Act → World → Prop
  | .normal, a, w => P a w
  | e, a, w => Q e a w
theorem Mid.imp {P : Act → World → Prop} {Q : Exit → Act → World → Prop} (h : ∀ a w, P a w → Q .normal a w) : ∀ e a w, Mid P Q e a w → Q e a w := fun e a w hm => by
  cases e with
  | normal => exact h a w hm
  | _ => exact hm
/-- a slot that is no result's plays no part at the door -/
theorem leaves_put {P : Program} {fn : Func} {R : Ending → World → Prop} {d : Tmp} {v : Value} (hres : ∀ tmps : Array Value, results fn (tmps.setIfInBounds d v) = results fn tmps) (tmps : Array Value) :
    ∀ (ds : List Deferred) (u : FrameMode) (w : World), Leaves P fn (tmps.setIfInBounds d v) R ds u w → Leaves P fn tmps R ds u w := by
  intro ds
  induction ds with
  | nil =>
    intro u w h
    cases u with
    | run => exact h.elim
    | returning =>
      obtain ⟨x, hx, hR⟩ := h
      exact ⟨x, by rw [← hres]; exact hx, hR⟩
    | panicking chain => exact h
  | cons y ds ih =>
    intro u w h
    obtain ⟨h1, fv, cap, f, args, h2, h3, h4⟩ := h
    refine ⟨h1, fv, cap, f, args, h2, h3, h4.mono fun e u' w' he => ?_⟩
    cases e with
    | returned x => exact ih _ _ he
    | panicked c => exact ih _ _ he
    | outgrown => exact he
end Go
namespace Go.Proofs.YthlemcnbebfliaaGreatDoor
open Ks Go.RowKit
set_option maxRecDepth 20000

theorem doorO_panic {tmps : Array Value} {R : Ending → World → Prop} {N : Nat} {x er : Int} {w : World} (ht : tmps[5]? = some (.pointer (some ⟨N, 0, none⟩))) (hc : w.cell? ⟨N, 0, none⟩ = some (.int .i64 x)) (hz : w.frozen? ⟨N, 0, none⟩ = false)
    {pv : Value} (h4 : tmps[4]? = some pv) (hR : R (.returned (.tuple #[pv, .int .i64 er])) (w.setCell ⟨N, 0, none⟩ (.int .i64 er)).drew) : Leaves Tryz.prog Tryz.f29 tmps R [{ target := Target.fn (Fn.func 69) #[.pointer (some ⟨N, 0, none⟩)], args := #[] }] (.panicking (wrongV er)) w := by
  refine leaves_cons (f := 69) (args := #[.pointer (some ⟨N, 0, none⟩)]) (by simp) (by simp [go_sem]) ?_
  refine (catchO_panicking ⟨N, 0, none⟩ x er w hc hz).mono ?_
  rintro e u' w'' ⟨rfl, rfl, rfl⟩
  have hs : (w.setCell ⟨N, 0, none⟩ (.int .i64 er)).cell? ⟨N, 0, none⟩ = some (.int .i64 er) := by simp [go_sem, hc]
  simp [Leaves, settle, results, Tryz.results29, go_sem, ht, h4, hs]
  exact hR
theorem doorO_ret {tmps : Array Value} {R : Ending → World → Prop} {N : Nat} {x : Int} {w : World} (ht : tmps[5]? = some (.pointer (some ⟨N, 0, none⟩))) (hc : w.cell? ⟨N, 0, none⟩ = some (.int .i64 x)) (hz : w.frozen? ⟨N, 0, none⟩ = false)
    {pv : Value} (h4 : tmps[4]? = some pv) (hR : R (.returned (.tuple #[pv, .int .i64 x])) (w.setCell ⟨N, 0, none⟩ (.int .i64 x)).drew) : Leaves Tryz.prog Tryz.f29 tmps R [{ target := Target.fn (Fn.func 69) #[.pointer (some ⟨N, 0, none⟩)], args := #[] }] .returning w := by
  refine leaves_cons (f := 69) (args := #[.pointer (some ⟨N, 0, none⟩)]) (by simp) (by simp [go_sem]) ?_
  refine (catchO_idle ⟨N, 0, none⟩ x w hc hz).mono ?_
  rintro e u' w'' ⟨rfl, rfl, rfl⟩
  have hs : (w.setCell ⟨N, 0, none⟩ (.int .i64 x)).cell? ⟨N, 0, none⟩ = some (.int .i64 x) := by simp [go_sem, hc]
  simp [Leaves, settle, results, Tryz.results29, go_sem, ht, h4, hs]
  exact hR
/-- a shadow as a value -/
structure Sh where
  img : List Int
  seq : Int
  which : Int
  stale : Bool
/-- a shadow in memory, in block q, of the disk in block p, beside it -/
def ShAt (w : World) (q p : Nat) (F : Nat → Prop) (a b c : Int) (x : Sh) : Prop :=
  (∃ iv, Blk w q 97 #[.pointer (some ⟨p, 0, none⟩), .int .i64 a, .int .i64 b, .int .i64 c, iv, .int .u64 x.seq, .int .i64 x.which, .bool x.stale] ∧ Bys w (fun k => ¬ F k ∧ k ≠ q) iv x.img) ∧ ¬ F q ∧ In8 x.img
/-- what Open makes -/
def openOf (s : St) (a b c : Int) : St × Sh × Int :=
  if findErr s 0 a b c ≠ 0 then (s, ⟨[], 0, 0, false⟩, findErr s 0 a b c)
  else if s.sync.2 ≠ 0 then (s.sync.1, ⟨[], 0, 0, false⟩, s.sync.2)
  else if (readOf s.sync.1 0 a b c).2.2 ≠ 0 then ((readOf s.sync.1 0 a b c).1, ⟨[], 0, 0, false⟩, (readOf s.sync.1 0 a b c).2.2)
  else if (readOf (readOf s.sync.1 0 a b c).1 1 a b c).2.2 ≠ 0 then ((readOf (readOf s.sync.1 0 a b c).1 1 a b c).1, ⟨[], 0, 0, false⟩, (readOf (readOf s.sync.1 0 a b c).1 1 a b c).2.2)
  else if (pick (readOf s.sync.1 0 a b c).2.1 (readOf (readOf s.sync.1 0 a b c).1 1 a b c).2.1).2 ≠ 0 then
    ((readOf (readOf s.sync.1 0 a b c).1 1 a b c).1, ⟨[], 0, 0, false⟩, (pick (readOf s.sync.1 0 a b c).2.1 (readOf (readOf s.sync.1 0 a b c).1 1 a b c).2.1).2)
  else if (pick (readOf s.sync.1 0 a b c).2.1 (readOf (readOf s.sync.1 0 a b c).1 1 a b c).2.1).1 = 1 then
    ((readOf (readOf s.sync.1 0 a b c).1 1 a b c).1, ⟨(readOf (readOf s.sync.1 0 a b c).1 1 a b c).2.1.img, (readOf (readOf s.sync.1 0 a b c).1 1 a b c).2.1.seq, 1, false⟩, 0)
  else ((readOf (readOf s.sync.1 0 a b c).1 1 a b c).1, ⟨(readOf s.sync.1 0 a b c).2.1.img, (readOf s.sync.1 0 a b c).2.1.seq, 0, false⟩, 0)
/-- what Open says -/
def OpenSays (w : World) (p : Nat) (F : Nat → Prop) (s : St) (a b c : Int) (x : Sh) (er : Int) (e : Ending) (w' : World) : Prop :=
  Keeps F w w' ∧ ∃ F', DiskAt Tryz.prog w' p F' s ∧ (∀ k, F' k → Dsk.Grow F w w' k) ∧
    ((er ≠ 0 ∧ e = .returned (.tuple #[.pointer none, .int .i64 er])) ∨ (er = 0 ∧ ∃ q, w.heap.size ≤ q ∧ e = .returned (.tuple #[.pointer (some ⟨q, 0, none⟩), .int .i64 0]) ∧ ShAt w' q p F' a b c x))
theorem outO {p : Nat} {F : Nat → Prop} {s s2 : St} {x : Sh} {w W w1 : World} {a b c er er' : Int} {tmps : Array Value} (S : Since p F s W w1) (hR : Blk W (w.heap.size + 1) 31 #[.int .i64 0]) (hG : ¬ F (w.heap.size + 1)) (hB : Below w.heap.size w W)
    (ht : tmps[5]? = some (.pointer (some ⟨w.heap.size + 1, 0, none⟩))) (h4 : tmps[4]? = some (.pointer none)) (hE : s2 = s ∧ er' = er) (h0 : er ≠ 0) :
    Leaves Tryz.prog Tryz.f29 tmps (OpenSays w p F s2 a b c x er') [{ target := Target.fn (Fn.func 69) #[.pointer (some ⟨w.heap.size + 1, 0, none⟩)], args := #[] }] (.panicking (wrongV er)) w1 := by
  obtain ⟨rfl, rfl⟩ := hE
  have hc := S.close hB (Nat.le_succ _) hR.lt hG (.int .i64 er')
  exact doorO_panic ht (S.cell (hR.cell 0) hG) (S.frozen hR.lt hG (hR.frozen 0)) h4 ⟨hc.keeps, _, hc.disk, fun _ h => h, .inl ⟨h0, rfl⟩⟩
/-- the disk, since w, G its blocks all along -/
structure Held (p : Nat) (G : Nat → Prop) (s : St) (w V : World) : Prop where
  keeps : Keeps G w V
  disk : DiskAt Tryz.prog V p G s
theorem Held.alloc {p : Nat} {G : Nat → Prop} {s : St} {w V : World} (h : Held p G s w V) (o : Obj) : Held p G s w (V.alloc o) := ⟨h.keeps.alloc o, h.disk.below_ (below_box V o)⟩
theorem Held.cell {p : Nat} {G : Nat → Prop} {s : St} {w V : World} (h : Held p G s w V) {b o : Nat} {v : Value} (hc : w.cell? ⟨b, o, none⟩ = some v) (hG : ¬ G b) : V.cell? ⟨b, o, none⟩ = some v := (h.keeps.cell (block_lt_of_cell hc) hG).trans hc
theorem Held.then {p : Nat} {G : Nat → Prop} {s s' : St} {w V V' : World} (h : Held p G s w V) (k : Held p G s' V V') : Held p G s' w V' := ⟨h.keeps.trans k.keeps, k.disk⟩
theorem Held.since {p : Nat} {F : Nat → Prop} {s s' : St} {w w1 V : World} (h : Since p F s w w1) (k : Held p (Dsk.Grow F w w1) s' w1 V) : Since p F s' w V := h.next (k.disk.mono (fun _ h => .inl h) (fun b hb => by rcases hb with hb | hb; exact k.disk.there b hb; exact hb.2)) (k.keeps)
theorem Held.tab {p : Nat} {G : Nat → Prop} {s : St} {w V : World} (h : Held p G s w V) (hT : Tab w) (hG : ∀ k, G k → 2 ≤ k) : Tab V := tab_keeps hT h.keeps hG
theorem glued_in8 {L : List (List Int)} (h : ∀ l ∈ L, In8 l) (t : Nat) : In8 (glued L t) := fun v hv => by
  have hv := List.mem_of_mem_take hv
  obtain ⟨l, hl, hx⟩ := List.mem_flatten.1 hv
  exact h l hl v hx
theorem read_img8 {m : Nat} {s : St} (h : Ok m s) (which a b c : Int) : In8 (readOf s which a b c).2.1.img := by
  unfold readOf
  split
  · intro v hv; cases hv
  split
  · intro v hv; cases hv
  unfold headOf
  split
  · intro v hv; cases hv
  split
  · intro v hv; cases hv
  unfold sealedOf
  split
  · intro v hv; cases hv
  split
  · intro v hv; cases hv
  · exact glued_in8 (loads_in8 h.tick _ _) _
theorem slt_bys {N : Nat} {V : World} {v : Value} {x : Slt} (h : SltAt V N v x) : ∃ A n c, v = slotV x.st x.why x.seq (.slice A n c) ∧ n = x.img.length ∧ Bys V (From N) (.slice A n c) x.img := by
  obtain ⟨iv, rfl, ho⟩ := h
  obtain ⟨A, c, rfl⟩ := Dsk.row_slice ho
  exact ⟨A, _, c, rfl, rfl, (Bys.of_own ho).mono fun _ h => h.1⟩
theorem _root_.Ks.Bys.from_ {G : Nat → Prop} {V V' : World} {N : Nat} {v : Value} {l : List Int} (h : Bys V (From N) v l) (hk : Keeps G V V') (hG : ∀ k, G k → k < N) : Bys V' (From N) v l := h.keeps hk fun b hb _ hg => by have := hG b hg; unfold From at hb; omega
abbrev sets8 (w : World) (g : Nat) (v0 v1 v2 v3 v4 v5 v6 v7 : Value) : World := (((((((w.setCell ⟨g, 0, none⟩ v0).setCell ⟨g, 1, none⟩ v1).setCell ⟨g, 2, none⟩ v2).setCell ⟨g, 3, none⟩ v3).setCell ⟨g, 4, none⟩ v4).setCell ⟨g, 5, none⟩ v5).setCell ⟨g, 6, none⟩ v6).setCell ⟨g, 7, none⟩ v7
theorem sets8_one (w : World) (g : Nat) (v0 v1 v2 v3 v4 v5 v6 v7 : Value) : Keeps (fun b => b = g) w (sets8 w g v0 v1 v2 v3 v4 v5 v6 v7) :=
  ((((((((Keeps.refl (fun b => b = g) w).set_ (p := ⟨g, 0, none⟩) (.inl rfl) v0).set_ (p := ⟨g, 1, none⟩) (.inl rfl) v1).set_ (p := ⟨g, 2, none⟩) (.inl rfl) v2).set_ (p := ⟨g, 3, none⟩) (.inl rfl) v3).set_ (p := ⟨g, 4, none⟩) (.inl rfl) v4).set_ (p := ⟨g, 5, none⟩) (.inl rfl) v5).set_ (p := ⟨g, 6, none⟩) (.inl rfl) v6).set_ (p := ⟨g, 7, none⟩) (.inl rfl) v7
theorem sets8_blk {w : World} {g : Nat} {t : TypeId} {x0 x1 x2 x3 x4 x5 x6 x7 : Value} (h : Blk w g t #[x0, x1, x2, x3, x4, x5, x6, x7]) (v0 v1 v2 v3 v4 v5 v6 v7 : Value) : Blk (sets8 w g v0 v1 v2 v3 v4 v5 v6 v7) g t #[v0, v1, v2, v3, v4, v5, v6, v7] := by
  have h0 : Blk (w.setCell ⟨g, 0, none⟩ v0) g t #[v0, x1, x2, x3, x4, x5, x6, x7] := h.set_ 0 v0
  have h1 : Blk ((w.setCell ⟨g, 0, none⟩ v0).setCell ⟨g, 1, none⟩ v1) g t #[v0, v1, x2, x3, x4, x5, x6, x7] := h0.set_ 1 v1
  have h2 : Blk (((w.setCell ⟨g, 0, none⟩ v0).setCell ⟨g, 1, none⟩ v1).setCell ⟨g, 2, none⟩ v2) g t #[v0, v1, v2, x3, x4, x5, x6, x7] := h1.set_ 2 v2
  have h3 : Blk ((((w.setCell ⟨g, 0, none⟩ v0).setCell ⟨g, 1, none⟩ v1).setCell ⟨g, 2, none⟩ v2).setCell ⟨g, 3, none⟩ v3) g t #[v0, v1, v2, v3, x4, x5, x6, x7] := h2.set_ 3 v3
  have h4 : Blk (((((w.setCell ⟨g, 0, none⟩ v0).setCell ⟨g, 1, none⟩ v1).setCell ⟨g, 2, none⟩ v2).setCell ⟨g, 3, none⟩ v3).setCell ⟨g, 4, none⟩ v4) g t #[v0, v1, v2, v3, v4, x5, x6, x7] := h3.set_ 4 v4
  have h5 : Blk ((((((w.setCell ⟨g, 0, none⟩ v0).setCell ⟨g, 1, none⟩ v1).setCell ⟨g, 2, none⟩ v2).setCell ⟨g, 3, none⟩ v3).setCell ⟨g, 4, none⟩ v4).setCell ⟨g, 5, none⟩ v5) g t #[v0, v1, v2, v3, v4, v5, x6, x7] := h4.set_ 5 v5
  have h6 : Blk (((((((w.setCell ⟨g, 0, none⟩ v0).setCell ⟨g, 1, none⟩ v1).setCell ⟨g, 2, none⟩ v2).setCell ⟨g, 3, none⟩ v3).setCell ⟨g, 4, none⟩ v4).setCell ⟨g, 5, none⟩ v5).setCell ⟨g, 6, none⟩ v6) g t #[v0, v1, v2, v3, v4, v5, v6, x7] := h5.set_ 6 v6
  have h7 : Blk ((((((((w.setCell ⟨g, 0, none⟩ v0).setCell ⟨g, 1, none⟩ v1).setCell ⟨g, 2, none⟩ v2).setCell ⟨g, 3, none⟩ v3).setCell ⟨g, 4, none⟩ v4).setCell ⟨g, 5, none⟩ v5).setCell ⟨g, 6, none⟩ v6).setCell ⟨g, 7, none⟩ v7) g t #[v0, v1, v2, v3, v4, v5, v6, v7] := h6.set_ 7 v7
  exact h7
theorem Held.sets8 {p : Nat} {G : Nat → Prop} {s : St} {w V : World} {g : Nat} (h : Held p G s w V) (hg : ¬ G g) (hw : w.heap.size ≤ g) (v0 v1 v2 v3 v4 v5 v6 v7 : Value) : Held p G s w (sets8 V g v0 v1 v2 v3 v4 v5 v6 v7) :=
  ⟨h.keeps.then (sets8_one V g v0 v1 v2 v3 v4 v5 v6 v7) (fun b hb => .inr (by have hb : b = g := hb; omega)), h.disk.keeps (sets8_one V g v0 v1 v2 v3 v4 v5 v6 v7) (fun b hb e => hg (by have e : b = g := e; exact e ▸ hb))⟩
/-- both slots that were found -/
structure Found (p : Nat) (G : Nat → Prop) (s : St) (w V : World) (g : Nat) (x y : Slt) (iv jv : Value) : Prop where
  held : Held p G s w V
  blk : Blk V g 112 #[.int .i64 x.st, .int .i64 x.why, .int .u64 x.seq, iv, .int .i64 y.st, .int .i64 y.why, .int .u64 y.seq, jv]
  ge : w.heap.size ≤ g
  ix : Bys V (From w.heap.size) iv x.img
  iy : Bys V (From w.heap.size) jv y.img
set_option maxHeartbeats 1000000 in
theorem open_any (w : World) (p m : Nat) (F : Nat → Prop) (s s2 : St) (x : Sh) (a b c er : Int) (hT : Tab w) (hF2 : ∀ k, F k → 2 ≤ k) (h : DiskAt Tryz.prog w p F s) (hO : Ok m s) (hm : m + 2 * many (total a b c).toNat s.size + 20 < 1000000) (hw : openOf s a b c = (s2, x, er)) :
    Calls Tryz.prog 29 #[.pointer (some ⟨p, 0, none⟩), geoV a b c] w (OpenSays w p F s2 a b c x er) := by
  have hmf : ∀ (fn : Fn) (first cap : Array Value) (w : World), (Instr.makeFunc fn first cap).run Tryz.prog w = .ok (.func fn first cap) w := fun _ _ _ _ => rfl
  obtain ⟨W, hW⟩ : ∃ W, (w.alloc (.cells #[.int .i64 a, .int .i64 b, .int .i64 c] 23)).alloc (.cells #[.int .i64 0] 31) = W := ⟨_, rfl⟩
  have b1 := below_box w (.cells #[.int .i64 a, .int .i64 b, .int .i64 c] 23)
  have b2 := below_box (w.alloc (.cells #[.int .i64 a, .int .i64 b, .int .i64 c] 23)) (.cells #[.int .i64 0] 31)
  have hbb : Below w.heap.size w W := by rw [← hW]; exact b1.trans (b2.mono b1.size)
  have hWs : W.heap.size = w.heap.size + 2 := by rw [← hW]; simp
  have hge := geo_below (boxed w (.int .i64 a) (.int .i64 b) (.int .i64 c) 23) b2
  rw [hW] at hge
  have hr := Blk.new (w.alloc (.cells #[.int .i64 a, .int .i64 b, .int .i64 c] 23)) 31 #[.int .i64 0]
  rw [hW, size_alloc] at hr
  have HGE := Lib.hid hge
  have HR := Lib.hid hr
  have HB := Lib.hid hbb
  have HWS := Lib.hid hWs
  have HG := Lib.hid (show ¬ F w.heap.size ∧ ¬ F (w.heap.size + 1) from ⟨fun hf => by have := h.there _ hf; omega, fun hf => by have := h.there _ hf; omega⟩)
  have S0 := Lib.hid (Since.start (h.below_ hbb))
  have HT := Lib.hid (tab_below hT hbb (tab_pos hT))
  have HF2 := Lib.hid hF2
  have HO := Lib.hid hO
  have HM := Lib.hid hm
  have HW := Lib.hid hw
  obtain ⟨e0, h0⟩ : ∃ e0, findErr s 0 a b c = e0 := ⟨_, rfl⟩
  have H0 := Lib.hid h0
  clear hT hF2 h hO hm hw b1 b2 hbb hWs hge hr h0
  obtain ⟨g0, g1, g2⟩ := HGE.out
  go_enter_defers Tryz.func29, Tryz.ntmps29
  go_wp2_with fail
  clear hW
  refine (canBeMade_any W p m _ s a b c e0 HT.out S0.out.disk HO.out H0.out).mono ?_
  rintro e w1 ⟨rfl, hb1⟩
  have S1 := Lib.hid (S0.out.below hb1)
  clear hb1
  by_cases h0 : e0 ≠ 0
  · have HE := Lib.hid (show s2 = s ∧ er = e0 by
      have := HW.out; unfold openOf at this; rw [H0.out, if_pos h0] at this
      exact ⟨(congrArg Prod.fst this).symm, (congrArg (fun z => z.2.2) this).symm⟩)
    clear g0 g1 g2
    go_wp2_with fail
    refine (must_no e0 w1 h0).mono ?_
    rintro e w2 ⟨rfl, rfl⟩
    exact outO S1.out HR.out HG.out.2 HB.out rfl rfl HE.out h0
  obtain rfl : e0 = 0 := by omega
  obtain ⟨s3, e3, h3⟩ : ∃ s3 e3, s.sync = (s3, e3) := ⟨_, _, rfl⟩
  have HO3 := Lib.hid HO.out.sync
  rw [h3] at HO3
  have H3 := Lib.hid h3
  clear h3 S0 g0 g1 g2 h0
  go_wp2_with fail
  refine (must_ok w1).mono ?_
  rintro e w2 ⟨rfl, rfl⟩
  go_wp2_with fail
  refine (sync_is S1.out.disk HO.out (by have := HM.out; omega) H3.out).mono ?_
  rintro e w2 ht
  have S2 := Lib.hid (S1.out.tells ht)
  obtain ⟨rfl, -⟩ := ht
  by_cases h0 : e3 ≠ 0
  · have HE := Lib.hid (show s2 = s3 ∧ er = e3 by
      have := HW.out; unfold openOf at this; rw [H0.out, if_neg (fun h => h rfl), H3.out, if_pos h0] at this
      exact ⟨(congrArg Prod.fst this).symm, (congrArg (fun z => z.2.2) this).symm⟩)
    go_wp2_with fail
    refine (must_no e3 w2 h0).mono ?_
    rintro e w3 ⟨rfl, rfl⟩
    exact outO S2.out HR.out HG.out.2 HB.out rfl rfl HE.out h0
  obtain rfl : e3 = 0 := by omega
  clear S1 h0
  obtain ⟨s4, x4, e4, h4⟩ : ∃ s4 x4 e4, readOf s3 0 a b c = (s4, x4, e4) := ⟨_, _, _, rfl⟩
  obtain ⟨s5, x5, e5, h5⟩ : ∃ s5 x5 e5, readOf s4 1 a b c = (s5, x5, e5) := ⟨_, _, _, rfl⟩
  have hz3 := (sync_size s).1
  rw [H3.out] at hz3
  have HO4 := Lib.hid (HO3.out.readOf 0 a b c)
  have hz4 := (readOf_alike s3 0 a b c).size
  rw [h4] at HO4 hz4
  rw [show s3.size = s.size from hz3] at HO4
  have HO5 := Lib.hid (HO4.out.readOf 1 a b c)
  rw [h5] at HO5
  have HZ := Lib.hid (show s3.size = s.size ∧ s4.size = s.size from ⟨hz3, hz4.trans hz3⟩)
  have H4 := Lib.hid h4
  have H5 := Lib.hid h5
  clear h4 h5 hz3 hz4
  have g0 := S2.out.cell HGE.out.1 HG.out.1
  have g1 := S2.out.cell HGE.out.2.1 HG.out.1
  have g2 := S2.out.cell HGE.out.2.2 HG.out.1
  go_wp2_with fail
  refine (must_ok w2).mono ?_
  rintro e w3 ⟨rfl, rfl⟩
  go_wp2_with fail
  have HG2 := Lib.hid (S2.out.ge HF2.out (tab_pos HT.out))
  have HD2 := Lib.hid S2.out.disk
  have HT2 := Lib.hid (S2.out.tab HF2.out HT.out)
  have HGG := Lib.hid (show ¬ Dsk.Grow F W w2 w.heap.size ∧ ¬ Dsk.Grow F W w2 (w.heap.size + 1) from ⟨fun h => by rcases h with h | h; exact HG.out.1 h; have := HWS.out; omega, fun h => by rcases h with h | h; exact HG.out.2 h; have := HWS.out; omega⟩)
  obtain ⟨G, hG⟩ : ∃ G, Dsk.Grow F W w2 = G := ⟨_, rfl⟩
  rw [hG] at HG2 HD2 HGG
  have HGR := Lib.hid hG
  clear hG
  have HGL := Lib.hid HD2.out.there
  have L0 := Lib.hid (show Held p G s3 w2 w2.drew from ⟨(Keeps.refl _ _).drew, HD2.out.below_ (Below.refl _ _).drew⟩)
  have hres : ∀ (d : Tmp) (v : Value), d ≠ 4 → d ≠ 5 → ∀ tmps : Array Value, results Tryz.f29 (tmps.setIfInBounds d v) = results Tryz.f29 tmps := fun d v h4 h5 tmps => by
    have e : ∀ k, d ≠ k → (tmps.setIfInBounds d v)[k]?.getD undef = tmps[k]?.getD undef := fun k h => by rw [Array.getElem?_setIfInBounds_ne h]
    simp [results, Tryz.results29, e 4 h4, e 5 h5]
  rename_i K0 _
  obtain ⟨PM, hPM⟩ : ∃ PM : Act → World → Prop, PM = (fun aa ww => ∃ g iv jv bv, (e4 = 0 ∧ e5 = 0) ∧ Found p G s5 w2 ww g x4 x5 iv jv ∧ aa = { tmps := #[Value.pointer (some { block := p, off := 0 }), geoV a b c, undef, Value.pointer (some { block := w.heap.size, off := 0 }), Value.pointer none, Value.pointer (some { block := w.heap.size + 1, off := 0 }), Value.pointer (some { block := g, off := 0 }), undef, Value.func (Fn.func 69) #[] #[Value.pointer (some { block := w.heap.size + 1, off := 0 })], Value.pointer (some { block := p, off := 0 }), Value.agg #[Value.int IntKind.i64 a, Value.int IntKind.i64 b, Value.int IntKind.i64 c], Value.int IntKind.i64 0, Value.tuple #[], Value.pointer (some { block := p, off := 0 }), Value.int IntKind.i64 0, Value.tuple #[], Value.pointer (some { block := p, off := 0 }), Value.agg #[Value.int IntKind.i64 a, Value.int IntKind.i64 b, Value.int IntKind.i64 c], slotV x4.st x4.why x4.seq iv, Value.pointer (some { block := p, off := 0 }), Value.agg #[Value.int IntKind.i64 a, Value.int IntKind.i64 b, Value.int IntKind.i64 c], slotV x5.st x5.why x5.seq jv, bv, undef, undef, undef, undef, undef, undef, undef, undef, undef, undef, undef, undef, undef, undef, undef, undef, undef, undef, undef, undef, undef], defers := [{ target := Target.fn (Fn.func 69) #[Value.pointer (some { block := w.heap.size + 1, off := 0 })], args := #[] }] }) := ⟨_, rfl⟩
  have HPM := Lib.hid hPM
  clear hPM
  have hpq : ∀ (cc : List PanicEntry) (aa : Act) (ww : World) {d : Tmp} {v : Value}, d ≠ 4 → d ≠ 5 → (Mid PM (Exit.then K0 (bodyPostD Tryz.prog Tryz.f29 (OpenSays w p F s2 a b c x er)))) (.panic cc) (aa.put (some d) v) ww → (Mid PM (Exit.then K0 (bodyPostD Tryz.prog Tryz.f29 (OpenSays w p F s2 a b c x er)))) (.panic cc) aa ww := fun cc aa ww d v h4 h5 h => leaves_put (hres d v h4 h5) aa.tmps _ _ _ h
  refine Code.wp_mono (Q := (Mid PM (Exit.then K0 (bodyPostD Tryz.prog Tryz.f29 (OpenSays w p F s2 a b c x er))))) ?_ ?_
  · refine Mid.imp fun aa ww h => ?_
    rw [HPM.out] at h
    obtain ⟨g, iv, jv, bv, ⟨he4, he5⟩, hF, rfl⟩ := h
    obtain ⟨A0, c0, rfl⟩ := hF.ix.form
    obtain ⟨A1, c1, rfl⟩ := hF.iy.form
    obtain ⟨r, hr⟩ : ∃ r, pick x4 x5 = r := ⟨_, rfl⟩
    have HRR := Lib.hid hr
    have HE4 := Lib.hid he4
    have HE5 := Lib.hid he5
    have HFO := Lib.hid hF
    have HN1 := Lib.hid (show Blk ww (w.heap.size + 1) 31 #[.int .i64 0] from (HR.out.of_eq (S2.out.keeps.block _ HR.out.lt HG.out.2)).of_eq (hF.held.keeps.block _ (by have := HR.out.lt; have := S2.out.keeps.size; omega) HGG.out.2))
    obtain ⟨st, why, q, img⟩ := x4
    obtain ⟨st', why', q', img'⟩ := x5
    obtain ⟨n0, hn0⟩ : ∃ n, img.length = n := ⟨_, rfl⟩
    obtain ⟨n1, hn1⟩ : ∃ n, img'.length = n := ⟨_, rfl⟩
    simp only [hn0, hn1] at HFO ⊢
    obtain ⟨k0, k1, k2, k3, k4, k5, k6, k7⟩ : _ ∧ _ ∧ _ ∧ _ ∧ _ ∧ _ ∧ _ ∧ _ := ⟨HFO.out.blk.cell 0, HFO.out.blk.cell 1, HFO.out.blk.cell 2, HFO.out.blk.cell 3, HFO.out.blk.cell 4, HFO.out.blk.cell 5, HFO.out.blk.cell 6, HFO.out.blk.cell 7⟩
    simp only [List.getElem?_toArray, List.getElem?_cons_zero, List.getElem?_cons_succ] at k0 k1 k2 k3 k4 k5 k6 k7
    clear he4 he5 hF hr hn0 hn1 hpq hres g0 g1 g2
    go_wp2_with fail
    refine (newest_any ww st st' why why' q q' A0 A1 n0 n1 c0 c1 r (by have := HRR.out; unfold pick at this; exact this)).mono ?_
    rintro e w6 ⟨rfl, hb6⟩
    have HN6 := Lib.hid (HN1.out.of_eq (hb6.block _ HN1.out.lt))
    have L6 := Lib.hid (show Held p G s5 w2 w6 from HFO.out.held.then ⟨(Keeps.of_below hb6).no, HFO.out.held.disk.below_ hb6⟩)
    have HB6 := Lib.hid (HFO.out.blk.of_eq (hb6.block _ HFO.out.blk.lt))
    have HIX := Lib.hid (HFO.out.ix.from_ (G := No) (Keeps.of_below hb6) (fun _ h => h.elim))
    have HIY := Lib.hid (HFO.out.iy.from_ (G := No) (Keeps.of_below hb6) (fun _ h => h.elim))
    clear k0 k1 k2 k3 k4 k5 k6 k7 hb6
    have m0 := HN6.out.cell 0
    have fr := HN6.out.frozen
    simp only [List.getElem?_toArray, List.getElem?_cons_zero] at m0
    obtain ⟨r1, r2⟩ := r
    by_cases hr : r2 ≠ 0
    · have hb : (r2 != 0) = true := by simpa using hr
      have HE := Lib.hid (show s2 = s5 ∧ er = r2 by
        have := HW.out; unfold openOf at this
        rw [H0.out, if_neg (fun h => h rfl), H3.out, if_neg (fun h => h rfl), H4.out, if_neg (fun h => h HE4.out), H5.out, if_neg (fun h => h HE5.out)] at this
        dsimp only at this
        rw [HRR.out, if_pos hr] at this
        exact ⟨(congrArg Prod.fst this).symm, (congrArg (fun z => z.2.2) this).symm⟩)
      go_wp2_with fail
      have HV := Lib.hid (show Blk (w6.setCell ⟨w.heap.size + 1, 0, none⟩ (.int .i64 r2)) (w.heap.size + 1) 31 #[.int .i64 r2] from HN6.out.set_ 0 (.int .i64 r2))
      have S6 := Lib.hid ((Held.since S2.out (HGR.out ▸ L6.out)).close HB.out (Nat.le_succ _) HR.out.lt HG.out.2 (.int .i64 r2))
      clear m0 fr
      generalize w6.setCell ⟨w.heap.size + 1, 0, none⟩ (.int .i64 r2) = V at *
      have m0 := HV.out.cell 0
      have fr := HV.out.frozen
      simp only [List.getElem?_toArray, List.getElem?_cons_zero] at m0
      have hss : V.setCell ⟨w.heap.size + 1, 0, none⟩ (.int .i64 r2) = V := set_same HV.out rfl
      go_region_held3 (fun w' => w'.cell? ⟨w.heap.size + 1, 0, none⟩ = some (.int .i64 r2)) (go_keep) (fail)
      all_goals (
        go_wp2_with fail
        refine doorO_ret rfl (x := r2) (pv := .pointer none) m0 (fr 0) rfl ?_
        rw [show V.drew.setCell ⟨w.heap.size + 1, 0, none⟩ (.int .i64 r2) = V.drew from set_same (show Blk V.drew _ _ _ from HV.out) rfl]
        obtain ⟨rfl, rfl⟩ := HE.out
        have S7 := S6.out.below (Below.refl _ _).drew
        exact ⟨S7.keeps, _, S7.disk, fun _ h => h, .inl ⟨hr, rfl⟩⟩)
    · obtain rfl : r2 = 0 := by omega
      have hss : w6.setCell ⟨w.heap.size + 1, 0, none⟩ (.int .i64 0) = w6 := set_same HN6.out rfl
      have S6 := Lib.hid (Held.since S2.out (HGR.out ▸ L6.out))
      obtain ⟨k0, k1, k2, k3, k4, k5, k6, k7⟩ : _ ∧ _ ∧ _ ∧ _ ∧ _ ∧ _ ∧ _ ∧ _ := ⟨HB6.out.cell 0, HB6.out.cell 1, HB6.out.cell 2, HB6.out.cell 3, HB6.out.cell 4, HB6.out.cell 5, HB6.out.cell 6, HB6.out.cell 7⟩
      simp only [List.getElem?_toArray, List.getElem?_cons_zero, List.getElem?_cons_succ] at k0 k1 k2 k3 k4 k5 k6 k7
      have g0 := S6.out.cell HGE.out.1 HG.out.1
      have g1 := S6.out.cell HGE.out.2.1 HG.out.1
      have g2 := S6.out.cell HGE.out.2.2 HG.out.1
      have hlt : w.heap.size + 1 < w6.heap.size := by have := HR.out.lt; have := S6.out.keeps.size; omega
      have hgn : ¬ g = w.heap.size + 1 := by have := HFO.out.ge; have := S2.out.keeps.size; have := HWS.out; omega
      have hgn' : ¬ w.heap.size + 1 = g := fun h => hgn h.symm
      have hln : ¬ w6.heap.size = w.heap.size + 1 := by omega
      have hln' : ¬ w.heap.size + 1 = w6.heap.size := by omega
      have hr1 : r1 = 0 ∨ r1 = 1 := by
        have := HRR.out; unfold pick at this
        split at this
        · exact .inr (congrArg Prod.fst this).symm
        split at this
        · exact .inl (congrArg Prod.fst this).symm
        split at this
        · exact .inl (congrArg Prod.fst this).symm
        · exact .inl (congrArg Prod.fst this).symm
      rcases hr1 with rfl | rfl
      · go_wp2_with fail
        go_region_held3 (fun w' => w'.cell? ⟨w.heap.size, 0, none⟩ = some (.int .i64 a) ∧ w'.cell? ⟨w.heap.size, 1, none⟩ = some (.int .i64 b) ∧ w'.cell? ⟨w.heap.size, 2, none⟩ = some (.int .i64 c) ∧ w'.cell? ⟨g, 2, none⟩ = some (.int .u64 q) ∧ w'.cell? ⟨g, 3, none⟩ = some (.slice A0 n0 c0)) (go_keep) (fail)
        have q1 := below_box w6 (.cells #[.pointer (some ⟨p, 0, none⟩), .int .i64 a, .int .i64 b, .int .i64 c, .slice A0 n0 c0, .int .u64 q, .int .i64 0, .bool false] 97)
        have HUU := Lib.hid (show Blk (w6.alloc (.cells #[.pointer (some ⟨p, 0, none⟩), .int .i64 a, .int .i64 b, .int .i64 c, .slice A0 n0 c0, .int .u64 q, .int .i64 0, .bool false] 97)).drew _ _ _ from HN6.out.of_eq (q1.block _ HN6.out.lt))
        have S7 := Lib.hid ((S6.out.below q1.drew).before HB.out)
        have HBS := Lib.hid (show Blk (w6.alloc (.cells #[.pointer (some ⟨p, 0, none⟩), .int .i64 a, .int .i64 b, .int .i64 c, .slice A0 n0 c0, .int .u64 q, .int .i64 0, .bool false] 97)).drew _ _ _ from Blk.new w6 _ _)
        have HDU := Lib.hid (show DiskAt Tryz.prog (w6.alloc (.cells #[.pointer (some ⟨p, 0, none⟩), .int .i64 a, .int .i64 b, .int .i64 c, .slice A0 n0 c0, .int .u64 q, .int .i64 0, .bool false] 97)).drew p G s5 from L6.out.disk.below_ q1.drew)
        have HIU := Lib.hid (show Bys (w6.alloc (.cells #[.pointer (some ⟨p, 0, none⟩), .int .i64 a, .int .i64 b, .int .i64 c, .slice A0 n0 c0, .int .u64 q, .int .i64 0, .bool false] 97)).drew (fun k => ¬ G k ∧ k ≠ w6.heap.size) _ img from (HIX.out.there.keeps (S := No) (Keeps.of_below q1.drew) fun _ _ _ h => h).mono (G := fun k => ¬ G k ∧ k ≠ w6.heap.size) fun b hb => ⟨fun h => by have h1 := HGL.out b h; have h2 := hb.1; unfold From at h2; omega, by have := hb.2; omega⟩)
        have HSU := Lib.hid (show (w6.alloc (.cells #[.pointer (some ⟨p, 0, none⟩), .int .i64 a, .int .i64 b, .int .i64 c, .slice A0 n0 c0, .int .u64 q, .int .i64 0, .bool false] 97)).drew.heap.size = w6.heap.size + 1 by simp)
        have HE := Lib.hid (show s2 = s5 ∧ x = ⟨img, q, 0, false⟩ ∧ er = 0 by
          have := HW.out; unfold openOf at this
          rw [H0.out, if_neg (fun h => h rfl), H3.out, if_neg (fun h => h rfl), H4.out, if_neg (fun h => h HE4.out), H5.out, if_neg (fun h => h HE5.out)] at this
          dsimp only at this
          rw [HRR.out, if_neg (fun h => h rfl), if_neg (by decide)] at this
          exact ⟨(congrArg Prod.fst this).symm, (congrArg (fun z => z.2.1) this).symm, (congrArg (fun z => z.2.2) this).symm⟩)
        go_wp2_with fail
        generalize (w6.alloc (.cells #[.pointer (some ⟨p, 0, none⟩), .int .i64 a, .int .i64 b, .int .i64 c, .slice A0 n0 c0, .int .u64 q, .int .i64 0, .bool false] 97)).drew = U at *
        refine doorO_ret rfl (x := 0) (pv := .pointer (some ⟨w6.heap.size, 0, none⟩)) (show U.cell? _ = _ from HUU.out.cell 0) (HUU.out.frozen 0) rfl ?_
        rw [set_same HUU.out rfl]
        obtain ⟨rfl, rfl, rfl⟩ := HE.out
        have S8 := S7.out.below (Below.refl _ _).drew
        refine ⟨S8.keeps, G, HDU.out.below_ (Below.refl _ _).drew, fun k hk => ?_, .inr ⟨rfl, w6.heap.size, by omega, rfl, ⟨⟨_, HBS.out, HIU.out⟩, fun h => by have h1 := HGL.out _ h; have h2 := L6.out.keeps.size; omega, (by have := read_img8 HO3.out 0 a b c; rw [H4.out] at this; exact this)⟩⟩⟩
        rw [← HGR.out] at hk
        rcases hk with hk | hk
        · exact .inl hk
        · refine .inr ⟨Nat.le_trans HB.out.size hk.1, ?_⟩
          have h1 := hk.2
          have h2 := HSU.out
          have h3 := L6.out.keeps.size
          show k < U.heap.size
          omega
      · go_wp2_with fail
        go_region_held3 (fun w' => w'.cell? ⟨w.heap.size, 0, none⟩ = some (.int .i64 a) ∧ w'.cell? ⟨w.heap.size, 1, none⟩ = some (.int .i64 b) ∧ w'.cell? ⟨w.heap.size, 2, none⟩ = some (.int .i64 c) ∧ w'.cell? ⟨g, 6, none⟩ = some (.int .u64 q') ∧ w'.cell? ⟨g, 7, none⟩ = some (.slice A1 n1 c1)) (go_keep) (fail)
        have q1 := below_box w6 (.cells #[.pointer (some ⟨p, 0, none⟩), .int .i64 a, .int .i64 b, .int .i64 c, .slice A1 n1 c1, .int .u64 q', .int .i64 1, .bool false] 97)
        have HUU := Lib.hid (show Blk (w6.alloc (.cells #[.pointer (some ⟨p, 0, none⟩), .int .i64 a, .int .i64 b, .int .i64 c, .slice A1 n1 c1, .int .u64 q', .int .i64 1, .bool false] 97)).drew _ _ _ from HN6.out.of_eq (q1.block _ HN6.out.lt))
        have S7 := Lib.hid ((S6.out.below q1.drew).before HB.out)
        have HBS := Lib.hid (show Blk (w6.alloc (.cells #[.pointer (some ⟨p, 0, none⟩), .int .i64 a, .int .i64 b, .int .i64 c, .slice A1 n1 c1, .int .u64 q', .int .i64 1, .bool false] 97)).drew _ _ _ from Blk.new w6 _ _)
        have HDU := Lib.hid (show DiskAt Tryz.prog (w6.alloc (.cells #[.pointer (some ⟨p, 0, none⟩), .int .i64 a, .int .i64 b, .int .i64 c, .slice A1 n1 c1, .int .u64 q', .int .i64 1, .bool false] 97)).drew p G s5 from L6.out.disk.below_ q1.drew)
        have HIU := Lib.hid (show Bys (w6.alloc (.cells #[.pointer (some ⟨p, 0, none⟩), .int .i64 a, .int .i64 b, .int .i64 c, .slice A1 n1 c1, .int .u64 q', .int .i64 1, .bool false] 97)).drew (fun k => ¬ G k ∧ k ≠ w6.heap.size) _ img' from (HIY.out.there.keeps (S := No) (Keeps.of_below q1.drew) fun _ _ _ h => h).mono (G := fun k => ¬ G k ∧ k ≠ w6.heap.size) fun b hb => ⟨fun h => by have h1 := HGL.out b h; have h2 := hb.1; unfold From at h2; omega, by have := hb.2; omega⟩)
        have HSU := Lib.hid (show (w6.alloc (.cells #[.pointer (some ⟨p, 0, none⟩), .int .i64 a, .int .i64 b, .int .i64 c, .slice A1 n1 c1, .int .u64 q', .int .i64 1, .bool false] 97)).drew.heap.size = w6.heap.size + 1 by simp)
        have HE := Lib.hid (show s2 = s5 ∧ x = ⟨img', q', 1, false⟩ ∧ er = 0 by
          have := HW.out; unfold openOf at this
          rw [H0.out, if_neg (fun h => h rfl), H3.out, if_neg (fun h => h rfl), H4.out, if_neg (fun h => h HE4.out), H5.out, if_neg (fun h => h HE5.out)] at this
          dsimp only at this
          rw [HRR.out, if_neg (fun h => h rfl), if_pos rfl] at this
          exact ⟨(congrArg Prod.fst this).symm, (congrArg (fun z => z.2.1) this).symm, (congrArg (fun z => z.2.2) this).symm⟩)
        go_wp2_with fail
        generalize (w6.alloc (.cells #[.pointer (some ⟨p, 0, none⟩), .int .i64 a, .int .i64 b, .int .i64 c, .slice A1 n1 c1, .int .u64 q', .int .i64 1, .bool false] 97)).drew = U at *
        refine doorO_ret rfl (x := 0) (pv := .pointer (some ⟨w6.heap.size, 0, none⟩)) (show U.cell? _ = _ from HUU.out.cell 0) (HUU.out.frozen 0) rfl ?_
        rw [set_same HUU.out rfl]
        obtain ⟨rfl, rfl, rfl⟩ := HE.out
        have S8 := S7.out.below (Below.refl _ _).drew
        refine ⟨S8.keeps, G, HDU.out.below_ (Below.refl _ _).drew, fun k hk => ?_, .inr ⟨rfl, w6.heap.size, by omega, rfl, ⟨⟨_, HBS.out, HIU.out⟩, fun h => by have h1 := HGL.out _ h; have h2 := L6.out.keeps.size; omega, (by have := read_img8 HO4.out 1 a b c; rw [H5.out] at this; exact this)⟩⟩⟩
        rw [← HGR.out] at hk
        rcases hk with hk | hk
        · exact .inl hk
        · refine .inr ⟨Nat.le_trans HB.out.size hk.1, ?_⟩
          have h1 := hk.2
          have h2 := HSU.out
          have h3 := L6.out.keeps.size
          show k < U.heap.size
          omega
  refine wp_region_held_drew (S := fun w' => w'.cell? ⟨w.heap.size, 0, none⟩ = some (.int .i64 a) ∧ w'.cell? ⟨w.heap.size, 1, none⟩ = some (.int .i64 b) ∧ w'.cell? ⟨w.heap.size, 2, none⟩ = some (.int .i64 c)) (by kernel_rfl) ⟨g0, g1, g2⟩ (fun hS => ?_)
  refine wpAnyH_take (i := 0) (v := ?_) rfl (by kernel_rfl) (by kernel_rfl) (by kernel_rfl) (fun c a w h => hpq c a w (d := 16) (by decide) (by decide) h) (Or.inl ⟨by rfl, ?_⟩) (by assumption) ?_
  rotate_left 1
  · intro w0 hSw
    go_simp
    with_reducible rfl
  simp only [Act.put]
  refine wpAnyH_take (i := 1) (v := ?_) rfl (by kernel_rfl) (by kernel_rfl) (by kernel_rfl) (fun c a w h => hpq c a w (d := 17) (by decide) (by decide) h) (Or.inl ⟨by rfl, ?_⟩) (by assumption) ?_
  rotate_left 1
  · intro w0 hSw
    go_simp
    with_reducible rfl
  simp only [Act.put]
  refine wpAnyH_take (i := 3) (v := ?_) rfl (by kernel_rfl) (by kernel_rfl) (by kernel_rfl) (fun c a w h => hpq c a w (d := 19) (by decide) (by decide) h) (Or.inl ⟨by rfl, ?_⟩) (by assumption) ?_
  rotate_left 1
  · intro w0 hSw
    go_simp
    with_reducible rfl
  simp only [Act.put]
  refine wpAnyH_take (i := 4) (v := ?_) rfl (by kernel_rfl) (by kernel_rfl) (by kernel_rfl) (fun c a w h => hpq c a w (d := 20) (by decide) (by decide) h) (Or.inl ⟨by rfl, ?_⟩) (by assumption) ?_
  rotate_left 1
  · intro w0 hSw
    go_simp
    with_reducible rfl
  simp only [Act.put]
  refine wpAnyH_ready (rs := [2, 7]) (by kernel_rfl) (by simp) ?_
  refine AllReadyH.cons rfl (fun K hK => ?_) (AllReadyH.cons rfl (fun K hK => ?_) AllReadyH.nil)
  · go_simp
    refine (shread_any w2.drew p _ G s3 s4 x4 0 a b c e4 (L0.out.tab HT2.out HG2.out) HG2.out L0.out.disk HO3.out (by rw [HZ.out.1]; have := HM.out; omega) H4.out).mono ?_
    rintro e w3 ⟨hk, hd, hh⟩
    have L3 := Lib.hid (L0.out.then ⟨hk, hd⟩)
    have HK3 := Lib.hid hk
    clear hk hd
    rcases hh with ⟨h0, rfl⟩ | ⟨h0, v, rfl, hv⟩
    · have HE := Lib.hid (show s2 = s4 ∧ er = e4 by
        have := HW.out; unfold openOf at this; rw [H0.out, if_neg (fun h => h rfl), H3.out, if_neg (fun h => h rfl), H4.out, if_pos h0] at this
        exact ⟨(congrArg Prod.fst this).symm, (congrArg (fun z => z.2.2) this).symm⟩)
      exact outO (Held.since S2.out (HGR.out ▸ L3.out)) HR.out HG.out.2 HB.out rfl rfl HE.out h0
    have HE4 := Lib.hid h0
    obtain ⟨A0, n0, c0, rfl, -, hv⟩ := slt_bys hv
    have HV0 := Lib.hid (show Bys w3 (From w2.heap.size) (.slice A0 n0 c0) x4.img from hv.mono fun k hk => Nat.le_trans (L0.out.keeps.size) hk)
    have HS0 := Lib.hid hv
    clear hv h0
    have y0 := L3.out.cell g0 HGG.out.1
    have y1 := L3.out.cell g1 HGG.out.1
    have y2 := L3.out.cell g2 HGG.out.1
    go_simp
    refine hK.out _ _ ⟨y0, y1, y2⟩ (fun hHeld => ?_)
    clear hK K
    try simp only [Act.put]
    refine wpAnyH_ready (rs := [5, 7]) (by kernel_rfl) (by simp) ?_
    refine AllReadyH.cons rfl (fun K hK => ?_) (AllReadyH.cons rfl (fun K hK => ?_) AllReadyH.nil)
    · go_simp
      refine (shread_any w3 p _ G s4 s5 x5 1 a b c e5 (L3.out.tab HT2.out HG2.out) HG2.out L3.out.disk HO4.out (by rw [HZ.out.2]; have := HM.out; omega) H5.out).mono ?_
      rintro e w4 ⟨hk, hd, hh⟩
      have L4 := Lib.hid (L3.out.then ⟨hk, hd⟩)
      have HK4 := Lib.hid hk
      clear hk hd
      rcases hh with ⟨h0, rfl⟩ | ⟨h0, v, rfl, hv⟩
      · have HE := Lib.hid (show s2 = s5 ∧ er = e5 by
          have := HW.out; unfold openOf at this; rw [H0.out, if_neg (fun h => h rfl), H3.out, if_neg (fun h => h rfl), H4.out, if_neg (fun h => h HE4.out), H5.out, if_pos h0] at this
          exact ⟨(congrArg Prod.fst this).symm, (congrArg (fun z => z.2.2) this).symm⟩)
        exact outO (Held.since S2.out (HGR.out ▸ L4.out)) HR.out HG.out.2 HB.out rfl rfl HE.out h0
      have HE5 := Lib.hid h0
      obtain ⟨A1, n1, c1, rfl, -, hv⟩ := slt_bys hv
      have HV1 := Lib.hid (show Bys w4 (From w2.heap.size) (.slice A1 n1 c1) x5.img from hv.mono fun k hk => Nat.le_trans (L3.out.keeps.size) hk)
      have HS1 := Lib.hid hv
      clear hv h0
      have y0 := L4.out.cell g0 HGG.out.1
      have y1 := L4.out.cell g1 HGG.out.1
      have y2 := L4.out.cell g2 HGG.out.1
      go_simp
      refine hK.out _ _ ⟨y0, y1, y2⟩ (fun hHeld => ?_)
      clear hK K
      try simp only [Act.put]
      refine wpAnyH_take (i := 6) (v := ?_) rfl (by kernel_rfl) (by kernel_rfl) (by kernel_rfl) (fun c a w h => hpq c a w (d := 22) (by decide) (by decide) h) (Or.inl ⟨by rfl, ?_⟩) (by assumption) ?_
      rotate_left 1
      · intro w0 hSw
        go_simp
        with_reducible rfl
      simp only [Act.put]
      refine wpAnyH_ready (rs := [7]) (by kernel_rfl) (by simp) ?_
      refine AllReadyH.cons rfl (fun K hK => ?_) AllReadyH.nil
      go_simp
      have L5 := Lib.hid (show Held p G s5 w2 (w4.alloc (.cells #[.int .i64 0, .int .i64 0, .int .u64 0, .slice none 0 0, .int .i64 0, .int .i64 0, .int .u64 0, .slice none 0 0] 112)) from L4.out.alloc (.cells #[.int .i64 0, .int .i64 0, .int .u64 0, .slice none 0 0, .int .i64 0, .int .i64 0, .int .u64 0, .slice none 0 0] 112))
      have y0 := L5.out.cell g0 HGG.out.1
      have y1 := L5.out.cell g1 HGG.out.1
      have y2 := L5.out.cell g2 HGG.out.1
      have HBK := Lib.hid (show Blk (w4.alloc (.cells #[.int .i64 0, .int .i64 0, .int .u64 0, .slice none 0 0, .int .i64 0, .int .i64 0, .int .u64 0, .slice none 0 0] 112)) w4.heap.size 112 #[.int .i64 0, .int .i64 0, .int .u64 0, .slice none 0 0, .int .i64 0, .int .i64 0, .int .u64 0, .slice none 0 0] from Blk.new w4 112 #[.int .i64 0, .int .i64 0, .int .u64 0, .slice none 0 0, .int .i64 0, .int .i64 0, .int .u64 0, .slice none 0 0])
      have HBG := Lib.hid (show ¬ G w4.heap.size ∧ w2.heap.size ≤ w4.heap.size from ⟨fun h => by have h1 := HGL.out _ h; have h2 : w2.heap.size ≤ w4.heap.size := L4.out.keeps.size; omega, L4.out.keeps.size⟩)
      refine hK.out _ _ ⟨y0, y1, y2⟩ (fun hHeld => ?_)
      clear hK K
      try simp only [Act.put]
      refine wpAnyH_ready (rs := [8]) (by kernel_rfl) (by simp) ?_
      refine AllReadyH.cons rfl (fun K hK => ?_) AllReadyH.nil
      go_simp
      have HBX := Blk.new w4 112 #[.int .i64 x4.st, .int .i64 x4.why, .int .u64 x4.seq, .slice A0 n0 c0, .int .i64 x5.st, .int .i64 x5.why, .int .u64 x5.seq, .slice A1 n1 c1]
      have LX := L4.out.alloc (.cells #[.int .i64 x4.st, .int .i64 x4.why, .int .u64 x4.seq, .slice A0 n0 c0, .int .i64 x5.st, .int .i64 x5.why, .int .u64 x5.seq, .slice A1 n1 c1] 112)

      refine hK.out _ _ ⟨LX.cell g0 HGG.out.1, LX.cell g1 HGG.out.1, LX.cell g2 HGG.out.1⟩ (fun _ => ?_)
      refine wpAnyH_done (by kernel_rfl) ?_ _
      show PM _ _
      rw [HPM.out]

      exact ⟨_, _, _, _, ⟨HE4.out, HE5.out⟩, ⟨LX, HBX, HBG.out.2, HV0.out.from_ ((HK4.out.alloc _)) HGL.out, HV1.out.from_ (Keeps.of_below (below_box _ _)).no HGL.out⟩, rfl⟩
    · go_simp
      go_simp
      have L3a := Lib.hid (show Held p G s4 w2 (w3.alloc (.cells #[.int .i64 0, .int .i64 0, .int .u64 0, .slice none 0 0, .int .i64 0, .int .i64 0, .int .u64 0, .slice none 0 0] 112)) from L3.out.alloc (.cells #[.int .i64 0, .int .i64 0, .int .u64 0, .slice none 0 0, .int .i64 0, .int .i64 0, .int .u64 0, .slice none 0 0] 112))
      have y0 := L3a.out.cell g0 HGG.out.1
      have y1 := L3a.out.cell g1 HGG.out.1
      have y2 := L3a.out.cell g2 HGG.out.1
      have HBK := Lib.hid (show Blk (w3.alloc (.cells #[.int .i64 0, .int .i64 0, .int .u64 0, .slice none 0 0, .int .i64 0, .int .i64 0, .int .u64 0, .slice none 0 0] 112)) w3.heap.size 112 #[.int .i64 0, .int .i64 0, .int .u64 0, .slice none 0 0, .int .i64 0, .int .i64 0, .int .u64 0, .slice none 0 0] from Blk.new w3 112 #[.int .i64 0, .int .i64 0, .int .u64 0, .slice none 0 0, .int .i64 0, .int .i64 0, .int .u64 0, .slice none 0 0])
      have HBG := Lib.hid (show ¬ G w3.heap.size ∧ w2.heap.size ≤ w3.heap.size from ⟨fun h => by have h1 := HGL.out _ h; have h2 : w2.heap.size ≤ w3.heap.size := L3.out.keeps.size; omega, L3.out.keeps.size⟩)
      refine hK.out _ _ ⟨y0, y1, y2⟩ (fun hHeld => ?_)
      clear hK K
      try simp only [Act.put]
      obtain ⟨gb, hgb⟩ : ∃ gb, w3.heap.size = gb := ⟨_, rfl⟩
      have HGE2 := Lib.hid (show w2.heap.size ≤ gb by rw [← hgb]; exact HBG.out.2)
      rw [hgb] at HBK HBG
      rw [hgb]
      have HKA := Lib.hid (show Keeps G w3 (w3.alloc (.cells #[.int .i64 0, .int .i64 0, .int .u64 0, .slice none 0 0, .int .i64 0, .int .i64 0, .int .u64 0, .slice none 0 0] 112)) from (Keeps.refl _ _).alloc _)
      generalize (w3.alloc (.cells #[.int .i64 0, .int .i64 0, .int .u64 0, .slice none 0 0, .int .i64 0, .int .i64 0, .int .u64 0, .slice none 0 0] 112)) = w3a at *
      have HGB := Lib.hid hgb
      clear hgb
      refine wpAnyH_ready (rs := [5]) (by kernel_rfl) (by simp) ?_
      refine AllReadyH.cons rfl (fun K hK => ?_) AllReadyH.nil
      go_simp
      refine (shread_any w3a p _ G s4 s5 x5 1 a b c e5 (L3a.out.tab HT2.out HG2.out) HG2.out L3a.out.disk HO4.out (by rw [HZ.out.2]; have := HM.out; omega) H5.out).mono ?_
      rintro e w4 ⟨hk, hd, hh⟩
      have L4 := Lib.hid (L3a.out.then ⟨hk, hd⟩)
      have HK4 := Lib.hid hk
      clear hk hd
      rcases hh with ⟨h0, rfl⟩ | ⟨h0, v, rfl, hv⟩
      · have HE := Lib.hid (show s2 = s5 ∧ er = e5 by
          have := HW.out; unfold openOf at this; rw [H0.out, if_neg (fun h => h rfl), H3.out, if_neg (fun h => h rfl), H4.out, if_neg (fun h => h HE4.out), H5.out, if_pos h0] at this
          exact ⟨(congrArg Prod.fst this).symm, (congrArg (fun z => z.2.2) this).symm⟩)
        exact outO (Held.since S2.out (HGR.out ▸ L4.out)) HR.out HG.out.2 HB.out rfl rfl HE.out h0
      have HE5 := Lib.hid h0
      obtain ⟨A1, n1, c1, rfl, -, hv⟩ := slt_bys hv
      have HV1 := Lib.hid (show Bys w4 (From w2.heap.size) (.slice A1 n1 c1) x5.img from hv.mono fun k hk => Nat.le_trans (L3a.out.keeps.size) hk)
      have HS1 := Lib.hid hv
      clear hv h0
      have y0 := L4.out.cell g0 HGG.out.1
      have y1 := L4.out.cell g1 HGG.out.1
      have y2 := L4.out.cell g2 HGG.out.1
      go_simp
      refine hK.out _ _ ⟨y0, y1, y2⟩ (fun hHeld => ?_)
      clear hK K
      try simp only [Act.put]
      have Q0 := Lib.hid (show Bys w4 (fun b => From w2.heap.size b ∧ b ≠ gb) _ x4.img from (HV0.out.there.keeps (HKA.out.trans HK4.out) fun b hb _ hg => by have := HGL.out b hg; have h1 := hb.1; unfold From at h1; omega).mono fun b hb => ⟨hb.1, by have h1 := hb.2; have h2 := HGB.out; omega⟩)
      have Q1 := Lib.hid (show Bys w4 (fun b => From w2.heap.size b ∧ b ≠ gb) _ x5.img from HS1.out.mono fun b hb => ⟨Nat.le_trans L3a.out.keeps.size hb, by have h1 := HBK.out.lt; unfold From at hb; omega⟩)
      refine wpAnyH_take (i := 6) (v := ?_) rfl (by kernel_rfl) (by kernel_rfl) (by kernel_rfl) (fun c a w h => hpq c a w (d := 22) (by decide) (by decide) h) (Or.inl ⟨by rfl, ?_⟩) (by assumption) ?_
      rotate_left 1
      · intro w0 hSw
        go_simp
        with_reducible rfl
      simp only [Act.put]
      refine wpAnyH_ready (rs := [8]) (by kernel_rfl) (by simp) ?_
      refine AllReadyH.cons rfl (fun K hK => ?_) AllReadyH.nil
      have HBK4 := Lib.hid (HBK.out.of_eq (HK4.out.block _ HBK.out.lt HBG.out.1))
      have fr := HBK4.out.frozen
      obtain ⟨k0, k1, k2, k3, k4, k5, k6, k7⟩ : _ ∧ _ ∧ _ ∧ _ ∧ _ ∧ _ ∧ _ ∧ _ := ⟨HBK4.out.cell 0, HBK4.out.cell 1, HBK4.out.cell 2, HBK4.out.cell 3, HBK4.out.cell 4, HBK4.out.cell 5, HBK4.out.cell 6, HBK4.out.cell 7⟩
      simp only [List.getElem?_toArray, List.getElem?_cons_zero, List.getElem?_cons_succ] at k0 k1 k2 k3 k4 k5 k6 k7
      go_simp
      have LX := L4.out.sets8 HBG.out.1 HGE2.out (.int .i64 x4.st) (.int .i64 x4.why) (.int .u64 x4.seq) (.slice A0 n0 c0) (.int .i64 x5.st) (.int .i64 x5.why) (.int .u64 x5.seq) (.slice A1 n1 c1)
      have HBX := sets8_blk HBK4.out (.int .i64 x4.st) (.int .i64 x4.why) (.int .u64 x4.seq) (.slice A0 n0 c0) (.int .i64 x5.st) (.int .i64 x5.why) (.int .u64 x5.seq) (.slice A1 n1 c1)
      have HK1 := sets8_one w4 gb (.int .i64 x4.st) (.int .i64 x4.why) (.int .u64 x4.seq) (.slice A0 n0 c0) (.int .i64 x5.st) (.int .i64 x5.why) (.int .u64 x5.seq) (.slice A1 n1 c1)

      refine hK.out _ _ ⟨LX.cell g0 HGG.out.1, LX.cell g1 HGG.out.1, LX.cell g2 HGG.out.1⟩ (fun _ => ?_)
      refine wpAnyH_done (by kernel_rfl) ?_ _
      show PM _ _
      rw [HPM.out]

      exact ⟨_, _, _, _, ⟨HE4.out, HE5.out⟩, ⟨LX, HBX, HGE2.out, (Q0.out.keeps HK1 fun b hb _ e => hb.2 e).mono fun b hb => hb.1, (Q1.out.keeps HK1 fun b hb _ e => hb.2 e).mono fun b hb => hb.1⟩, rfl⟩
  · go_simp
    go_simp
    have L2a := Lib.hid (show Held p G s3 w2 (w2.alloc (.cells #[.int .i64 0, .int .i64 0, .int .u64 0, .slice none 0 0, .int .i64 0, .int .i64 0, .int .u64 0, .slice none 0 0] 112)).drew from L0.out.alloc (.cells #[.int .i64 0, .int .i64 0, .int .u64 0, .slice none 0 0, .int .i64 0, .int .i64 0, .int .u64 0, .slice none 0 0] 112))
    have y0 := L2a.out.cell g0 HGG.out.1
    have y1 := L2a.out.cell g1 HGG.out.1
    have y2 := L2a.out.cell g2 HGG.out.1
    have HBK := Lib.hid (show Blk (w2.alloc (.cells #[.int .i64 0, .int .i64 0, .int .u64 0, .slice none 0 0, .int .i64 0, .int .i64 0, .int .u64 0, .slice none 0 0] 112)).drew w2.heap.size 112 #[.int .i64 0, .int .i64 0, .int .u64 0, .slice none 0 0, .int .i64 0, .int .i64 0, .int .u64 0, .slice none 0 0] from Blk.new w2.drew 112 #[.int .i64 0, .int .i64 0, .int .u64 0, .slice none 0 0, .int .i64 0, .int .i64 0, .int .u64 0, .slice none 0 0])
    have HBG := Lib.hid (show ¬ G w2.heap.size ∧ w2.heap.size ≤ w2.heap.size from ⟨fun h => by have h1 := HGL.out _ h; have h2 : w2.heap.size ≤ w2.heap.size := L0.out.keeps.size; omega, L0.out.keeps.size⟩)
    refine hK.out _ _ ⟨y0, y1, y2⟩ (fun hHeld => ?_)
    clear hK K
    try simp only [Act.put]
    obtain ⟨gb, hgb⟩ : ∃ gb, w2.heap.size = gb := ⟨_, rfl⟩
    have HGE2 := Lib.hid (show w2.heap.size ≤ gb by rw [← hgb]; exact HBG.out.2)
    rw [hgb] at HBK HBG
    rw [hgb]
    have HKA := Lib.hid (show Keeps G w2.drew (w2.alloc (.cells #[.int .i64 0, .int .i64 0, .int .u64 0, .slice none 0 0, .int .i64 0, .int .i64 0, .int .u64 0, .slice none 0 0] 112)).drew from (Keeps.refl _ _).alloc _)
    generalize (w2.alloc (.cells #[.int .i64 0, .int .i64 0, .int .u64 0, .slice none 0 0, .int .i64 0, .int .i64 0, .int .u64 0, .slice none 0 0] 112)).drew = w2a at *
    have HGB := Lib.hid hgb
    clear hgb
    refine wpAnyH_ready (rs := [2]) (by kernel_rfl) (by simp) ?_
    refine AllReadyH.cons rfl (fun K hK => ?_) AllReadyH.nil
    go_simp
    refine (shread_any w2a p _ G s3 s4 x4 0 a b c e4 (L2a.out.tab HT2.out HG2.out) HG2.out L2a.out.disk HO3.out (by rw [HZ.out.1]; have := HM.out; omega) H4.out).mono ?_
    rintro e w3 ⟨hk, hd, hh⟩
    have L3 := Lib.hid (L2a.out.then ⟨hk, hd⟩)
    have HK3 := Lib.hid hk
    clear hk hd
    rcases hh with ⟨h0, rfl⟩ | ⟨h0, v, rfl, hv⟩
    · have HE := Lib.hid (show s2 = s4 ∧ er = e4 by
        have := HW.out; unfold openOf at this; rw [H0.out, if_neg (fun h => h rfl), H3.out, if_neg (fun h => h rfl), H4.out, if_pos h0] at this
        exact ⟨(congrArg Prod.fst this).symm, (congrArg (fun z => z.2.2) this).symm⟩)
      exact outO (Held.since S2.out (HGR.out ▸ L3.out)) HR.out HG.out.2 HB.out rfl rfl HE.out h0
    have HE4 := Lib.hid h0
    obtain ⟨A0, n0, c0, rfl, -, hv⟩ := slt_bys hv
    have HV0 := Lib.hid (show Bys w3 (From w2.heap.size) (.slice A0 n0 c0) x4.img from hv.mono fun k hk => Nat.le_trans (L2a.out.keeps.size) hk)
    have HS0 := Lib.hid hv
    clear hv h0
    have y0 := L3.out.cell g0 HGG.out.1
    have y1 := L3.out.cell g1 HGG.out.1
    have y2 := L3.out.cell g2 HGG.out.1
    go_simp
    refine hK.out _ _ ⟨y0, y1, y2⟩ (fun hHeld => ?_)
    clear hK K
    try simp only [Act.put]
    refine wpAnyH_ready (rs := [5]) (by kernel_rfl) (by simp) ?_
    refine AllReadyH.cons rfl (fun K hK => ?_) AllReadyH.nil
    go_simp
    refine (shread_any w3 p _ G s4 s5 x5 1 a b c e5 (L3.out.tab HT2.out HG2.out) HG2.out L3.out.disk HO4.out (by rw [HZ.out.2]; have := HM.out; omega) H5.out).mono ?_
    rintro e w4 ⟨hk, hd, hh⟩
    have L4 := Lib.hid (L3.out.then ⟨hk, hd⟩)
    have HK4 := Lib.hid hk
    clear hk hd
    rcases hh with ⟨h0, rfl⟩ | ⟨h0, v, rfl, hv⟩
    · have HE := Lib.hid (show s2 = s5 ∧ er = e5 by
        have := HW.out; unfold openOf at this; rw [H0.out, if_neg (fun h => h rfl), H3.out, if_neg (fun h => h rfl), H4.out, if_neg (fun h => h HE4.out), H5.out, if_pos h0] at this
        exact ⟨(congrArg Prod.fst this).symm, (congrArg (fun z => z.2.2) this).symm⟩)
      exact outO (Held.since S2.out (HGR.out ▸ L4.out)) HR.out HG.out.2 HB.out rfl rfl HE.out h0
    have HE5 := Lib.hid h0
    obtain ⟨A1, n1, c1, rfl, -, hv⟩ := slt_bys hv
    have HV1 := Lib.hid (show Bys w4 (From w2.heap.size) (.slice A1 n1 c1) x5.img from hv.mono fun k hk => Nat.le_trans (L3.out.keeps.size) hk)
    have HS1 := Lib.hid hv
    clear hv h0
    have y0 := L4.out.cell g0 HGG.out.1
    have y1 := L4.out.cell g1 HGG.out.1
    have y2 := L4.out.cell g2 HGG.out.1
    go_simp
    refine hK.out _ _ ⟨y0, y1, y2⟩ (fun hHeld => ?_)
    clear hK K
    try simp only [Act.put]
    have Q0 := Lib.hid (show Bys w4 (fun b => From w2.heap.size b ∧ b ≠ gb) _ x4.img from (HS0.out.keeps HK4.out fun b hb _ hg => by have := HGL.out b hg; have h1 := L2a.out.keeps.size; unfold From at hb; omega).mono fun b hb => ⟨Nat.le_trans L2a.out.keeps.size hb, by have h1 := HBK.out.lt; unfold From at hb; omega⟩)
    have Q1 := Lib.hid (show Bys w4 (fun b => From w2.heap.size b ∧ b ≠ gb) _ x5.img from HS1.out.mono fun b hb => ⟨Nat.le_trans L3.out.keeps.size hb, by have h1 := HBK.out.lt; have h2 := HK3.out.size; unfold From at hb; omega⟩)
    refine wpAnyH_take (i := 6) (v := ?_) rfl (by kernel_rfl) (by kernel_rfl) (by kernel_rfl) (fun c a w h => hpq c a w (d := 22) (by decide) (by decide) h) (Or.inl ⟨by rfl, ?_⟩) (by assumption) ?_
    rotate_left 1
    · intro w0 hSw
      go_simp
      with_reducible rfl
    simp only [Act.put]
    refine wpAnyH_ready (rs := [8]) (by kernel_rfl) (by simp) ?_
    refine AllReadyH.cons rfl (fun K hK => ?_) AllReadyH.nil
    have HBK4 := Lib.hid (HBK.out.of_eq ((HK3.out.trans HK4.out).block _ HBK.out.lt HBG.out.1))
    have fr := HBK4.out.frozen
    obtain ⟨k0, k1, k2, k3, k4, k5, k6, k7⟩ : _ ∧ _ ∧ _ ∧ _ ∧ _ ∧ _ ∧ _ ∧ _ := ⟨HBK4.out.cell 0, HBK4.out.cell 1, HBK4.out.cell 2, HBK4.out.cell 3, HBK4.out.cell 4, HBK4.out.cell 5, HBK4.out.cell 6, HBK4.out.cell 7⟩
    simp only [List.getElem?_toArray, List.getElem?_cons_zero, List.getElem?_cons_succ] at k0 k1 k2 k3 k4 k5 k6 k7
    go_simp
    have LX := L4.out.sets8 HBG.out.1 HGE2.out (.int .i64 x4.st) (.int .i64 x4.why) (.int .u64 x4.seq) (.slice A0 n0 c0) (.int .i64 x5.st) (.int .i64 x5.why) (.int .u64 x5.seq) (.slice A1 n1 c1)
    have HBX := sets8_blk HBK4.out (.int .i64 x4.st) (.int .i64 x4.why) (.int .u64 x4.seq) (.slice A0 n0 c0) (.int .i64 x5.st) (.int .i64 x5.why) (.int .u64 x5.seq) (.slice A1 n1 c1)
    have HK1 := sets8_one w4 gb (.int .i64 x4.st) (.int .i64 x4.why) (.int .u64 x4.seq) (.slice A0 n0 c0) (.int .i64 x5.st) (.int .i64 x5.why) (.int .u64 x5.seq) (.slice A1 n1 c1)

    refine hK.out _ _ ⟨LX.cell g0 HGG.out.1, LX.cell g1 HGG.out.1, LX.cell g2 HGG.out.1⟩ (fun _ => ?_)
    refine wpAnyH_done (by kernel_rfl) ?_ _
    show PM _ _
    rw [HPM.out]

    exact ⟨_, _, _, _, ⟨HE4.out, HE5.out⟩, ⟨LX, HBX, HGE2.out, (Q0.out.keeps HK1 fun b hb _ e => hb.2 e).mono fun b hb => hb.1, (Q1.out.keeps HK1 fun b hb _ e => hb.2 e).mono fun b hb => hb.1⟩, rfl⟩
end Go.Proofs.YthlemcnbebfliaaGreatDoor
