/-
  A DISK AS A VALUE, AND A DISK IN MEMORY.
-/
import Derived.Test.YthlemcnbebfliaaGreatDoorDClone
namespace Ks
open Go Go.RowKit

/-- a disk: its size; what lasts, sector by sector; what is cached; what is planned; the counts; and how many entries the two maps may have had. -/
structure St where
  size : Nat
  last : List (List Int)
  cach : Int → Option (List Int)
  plan : Int → Bool
  ops : Nat
  wr : Nat
  cn : Nat
  pn : Nat

/-- any value is held as it is -/
def heldR (v : Value) : Option (DataW Value × List MemPlace) := some (.held v, [])
theorem heldR_inv {v : Value} {d : DataW Value} {ps : List MemPlace} (h : heldR v = some (d, ps)) : d = .held v := by
  simp [heldR] at h; exact h.1.symm

abbrev K (k : Int) : Lit := .int .i64 k
theorem K_ne {a b : Int} (h : a ≠ b) : K a ≠ K b := fun e => h (by simpa [K] using e)
theorem K_key (k : Int) : Go.WideAt.IsKeyLit (K k) := trivial

/-- what the map holds of sector k -/
def HasAt (w : World) (F : Nat → Prop) (D : DataW Value) (k : Int) : Option (List Int) → Prop
  | none => Maps.has D (K k) = false
  | some bs => ∃ v, (∀ z, D.atKey (K k) z = .held v) ∧ Byt w F v bs
def CacheIs (w : World) (F : Nat → Prop) (D : DataW Value) (cach : Int → Option (List Int)) : Prop := ∀ k, HasAt w F D k (cach k)

/-- what is planned -/
def PlanIs (P : Program) (w : World) (F : Nat → Prop) (cb : Nat) (plan : Int → Bool) (pn : Nat) : Option Nat → Prop
  | none => ∀ k, plan k = false
  | some pb => F pb ∧ pb ≠ cb ∧ ∃ D : DataW Unit, w.ownsMap P 3 unitElem pb pn D ∧ ∀ k, Maps.has D (K k) = plan k

/-- a disk in block p: the sectors' row is lastV, holding lv; the map of what is cached is in block cb, holding D; the plans' is pm -/
structure DiskIn (P : Program) (w : World) (p : Nat) (F : Nat → Prop) (s : St) (lastV : Value) (lv : List Value) (cb : Nat) (pm : Option Nat) (D : DataW Value) : Prop where
  blk : Blk w p 101 #[.int .i64 s.size, lastV, .map (some cb), .map pm, .int .i64 s.ops, .int .i64 s.wr]
  fp : F p
  row : w.ownsRow 0 33 1 lastV s.last.length lv
  frow : ∀ g, lastV.ownBlock = some g → F g
  sect : ∀ i, i < s.last.length → Byt w F (lv.getD i undef) (s.last.getD i [])
  lens : ∀ i, i < s.last.length → (s.last.getD i []).length = s.size
  fcb : F cb
  own : w.ownsMap P 3 heldR cb s.cn D
  cache : CacheIs w F D s.cach
  keys : ∀ k bs, s.cach k = some bs → 0 ≤ k ∧ k < s.last.length ∧ bs.length = s.size
  plan : PlanIs P w F cb s.plan s.pn pm
  there : ∀ b, F b → b < w.heap.size

def DiskAt (P : Program) (w : World) (p : Nat) (F : Nat → Prop) (s : St) : Prop := ∃ lastV lv cb pm D, DiskIn P w p F s lastV lv cb pm D

section
variable {P : Program} {w w' : World} {p : Nat} {F G : Nat → Prop} {s : St} {lastV : Value} {lv : List Value} {cb : Nat} {pm : Option Nat} {D : DataW Value}

theorem ownsRow_of_eq {base e size n : Nat} {v : Value} {xs : List Value} (h : w.ownsRow base e size v n xs) (he : ∀ g, v.ownBlock = some g → w'.heap[g]? = w.heap[g]?) : w'.ownsRow base e size v n xs := by
  refine ⟨h.1, ?_⟩
  rcases h.2 with ⟨rfl, h0⟩ | ⟨g, cap, cur, rfl, hb, hg, r⟩
  · exact .inl ⟨rfl, h0⟩
  · exact .inr ⟨g, cap, cur, rfl, hb, (he g rfl).trans hg, r⟩
theorem ownsMap_of_eq {H : Type} {k : TypeId} {R : Value → Option (DataW H × List MemPlace)} {b n : Nat} {D : DataW H} (h : w.ownsMap P k R b n D) (he : w'.heap[b]? = w.heap[b]?) : w'.ownsMap P k R b n D := by
  obtain ⟨es, clock, hb, r⟩ := h
  exact ⟨es, clock, he.trans hb, r⟩
theorem HasAt.keep {k : Int} {o : Option (List Int)} (h : HasAt w F D k o) (he : ∀ b, F b → w'.heap[b]? = w.heap[b]?) : HasAt w' F D k o := by
  cases o with
  | none => exact h
  | some bs => obtain ⟨v, h1, h2⟩ := h; exact ⟨v, h1, h2.keep fun b hb => he b hb.1⟩
theorem HasAt.mono {k : Int} {o : Option (List Int)} (h : HasAt w F D k o) (he : ∀ b, F b → G b) : HasAt w G D k o := by
  cases o with
  | none => exact h
  | some bs => obtain ⟨v, h1, h2⟩ := h; exact ⟨v, h1, h2.mono he⟩
theorem PlanIs.keep {plan : Int → Bool} {pn : Nat} (h : PlanIs P w F cb plan pn pm) (he : ∀ b, F b → w'.heap[b]? = w.heap[b]?) : PlanIs P w' F cb plan pn pm := by
  cases pm with
  | none => exact h
  | some pb => obtain ⟨h1, h2, D, h3, h4⟩ := h; exact ⟨h1, h2, D, ownsMap_of_eq h3 (he _ h1), h4⟩
theorem PlanIs.mono {plan : Int → Bool} {pn : Nat} (h : PlanIs P w F cb plan pn pm) (he : ∀ b, F b → G b) : PlanIs P w G cb plan pn pm := by
  cases pm with
  | none => exact h
  | some pb => obtain ⟨h1, h2, D, h3, h4⟩ := h; exact ⟨he _ h1, h2, D, h3, h4⟩

/-- a disk stays as it is while none of its blocks is written -/
theorem DiskIn.keep (h : DiskIn P w p F s lastV lv cb pm D) (he : ∀ b, F b → w'.heap[b]? = w.heap[b]?) (hs : w.heap.size ≤ w'.heap.size) : DiskIn P w' p F s lastV lv cb pm D :=
  ⟨h.blk.of_eq (he _ h.fp), h.fp, ownsRow_of_eq h.row (fun g hg => he g (h.frow g hg)), h.frow, fun i hi => (h.sect i hi).keep fun b hb => he b hb.1, h.lens, h.fcb, ownsMap_of_eq h.own (he _ h.fcb),
   fun k => (h.cache k).keep he, h.keys, h.plan.keep he, fun b hb => Nat.lt_of_lt_of_le (h.there b hb) hs⟩
theorem DiskIn.mono (h : DiskIn P w p F s lastV lv cb pm D) (he : ∀ b, F b → G b) (hG : ∀ b, G b → b < w.heap.size) : DiskIn P w p G s lastV lv cb pm D :=
  ⟨h.blk, he _ h.fp, h.row, fun g hg => he g (h.frow g hg), fun i hi => (h.sect i hi).mono he, h.lens, he _ h.fcb, h.own, fun k => (h.cache k).mono he, h.keys, h.plan.mono he, hG⟩
theorem DiskAt.keep (h : DiskAt P w p F s) (he : ∀ b, F b → w'.heap[b]? = w.heap[b]?) (hs : w.heap.size ≤ w'.heap.size) : DiskAt P w' p F s := by
  obtain ⟨a, b, c, d, e, h⟩ := h
  exact ⟨a, b, c, d, e, h.keep he hs⟩
theorem DiskAt.there (h : DiskAt P w p F s) : ∀ b, F b → b < w.heap.size := by
  obtain ⟨a, b, c, d, e, h⟩ := h
  exact h.there
theorem DiskAt.keeps {S : Nat → Prop} (h : DiskAt P w p F s) (hk : Keeps S w w') (hS : ∀ b, F b → ¬ S b) : DiskAt P w' p F s :=
  h.keep (fun b hb => hk.block b (h.there b hb) (hS b hb)) hk.size
theorem DiskAt.mono (h : DiskAt P w p F s) (he : ∀ b, F b → G b) (hG : ∀ b, G b → b < w.heap.size) : DiskAt P w p G s := by
  obtain ⟨a, b, c, d, e, h⟩ := h
  exact ⟨a, b, c, d, e, h.mono he hG⟩
end

section
variable {P : Program} {w : World} {p : Nat} {F : Nat → Prop} {s : St} {lastV : Value} {lv : List Value} {cb : Nat} {pm : Option Nat} {D : DataW Value}
theorem DiskIn.c0 (h : DiskIn P w p F s lastV lv cb pm D) : w.cell? ⟨p, 0, none⟩ = some (.int .i64 s.size) := h.blk.cell 0
theorem DiskIn.c1 (h : DiskIn P w p F s lastV lv cb pm D) : w.cell? ⟨p, 1, none⟩ = some lastV := h.blk.cell 1
theorem DiskIn.c2 (h : DiskIn P w p F s lastV lv cb pm D) : w.cell? ⟨p, 2, none⟩ = some (.map (some cb)) := h.blk.cell 2
theorem DiskIn.c3 (h : DiskIn P w p F s lastV lv cb pm D) : w.cell? ⟨p, 3, none⟩ = some (.map pm) := h.blk.cell 3
theorem DiskIn.c4 (h : DiskIn P w p F s lastV lv cb pm D) : w.cell? ⟨p, 4, none⟩ = some (.int .i64 s.ops) := h.blk.cell 4
theorem DiskIn.c5 (h : DiskIn P w p F s lastV lv cb pm D) : w.cell? ⟨p, 5, none⟩ = some (.int .i64 s.wr) := h.blk.cell 5
end

/-- the blocks of a disk that are written -/
def Muts (p : Nat) (lastV : Value) (cb : Nat) (pm : Option Nat) : Nat → Prop := fun b => b = p ∨ lastV.ownBlock = some b ∨ b = cb ∨ pm = some b
section
variable {P : Program} {w w' : World} {p : Nat} {F G : Nat → Prop} {s : St} {lastV : Value} {lv : List Value} {cb : Nat} {pm : Option Nat} {D : DataW Value}
theorem heap_of_own {H : Type} {k : TypeId} {R : Value → Option (DataW H × List MemPlace)} {b n : Nat} {D : DataW H} (h : w.ownsMap P k R b n D) : ∃ es clock, w.heap[b]? = some (.map es clock) := by
  obtain ⟨es, clock, hb, _⟩ := h
  exact ⟨es, clock, hb⟩
theorem DiskIn.row_blk (h : DiskIn P w p F s lastV lv cb pm D) {g : Nat} (hg : lastV.ownBlock = some g) : ∃ cur, Blk w g 33 cur := by
  rcases h.row.2 with ⟨rfl, _⟩ | ⟨g', cap, cur, rfl, _, hh, _⟩
  · cases hg
  · simp [Value.ownBlock] at hg
    subst hg
    exact ⟨cur, hh⟩
theorem DiskIn.plan_map (h : DiskIn P w p F s lastV lv cb pm D) {b : Nat} (e : pm = some b) : F b ∧ b ≠ cb ∧ ∃ es clock, w.heap[b]? = some (.map es clock) := by
  have := h.plan
  subst e
  obtain ⟨h1, h2, D, h3, _⟩ := this
  exact ⟨h1, h2, heap_of_own h3⟩
theorem DiskIn.muts (h : DiskIn P w p F s lastV lv cb pm D) {b : Nat} (hb : Muts p lastV cb pm b) : F b := by
  rcases hb with rfl | hb | rfl | hb
  · exact h.fp
  · exact h.frow b hb
  · exact h.fcb
  · exact (h.plan_map hb).1
theorem DiskIn.apart (h : DiskIn P w p F s lastV lv cb pm D) {b : Nat} (hb : Byb w G b) : ¬ Muts p lastV cb pm b := by
  obtain ⟨_, cs, e⟩ := hb
  rintro (rfl | hb | rfl | hb)
  · have := h.blk
    unfold Blk at this
    rw [e] at this
    simp at this
  · obtain ⟨cur, hc⟩ := h.row_blk hb
    unfold Blk at hc
    rw [e] at hc
    simp at hc
  · obtain ⟨es, clock, hc⟩ := heap_of_own h.own
    rw [e] at hc; cases hc
  · obtain ⟨_, _, es, clock, hc⟩ := h.plan_map hb
    rw [e] at hc; cases hc
/-- bytes stay while the disk is written -/
theorem DiskIn.bytes (h : DiskIn P w p F s lastV lv cb pm D) (hk : Keeps (Muts p lastV cb pm) w w') {v : Value} {bs : List Int} (hv : Byt w G v bs) : Byt w' G v bs :=
  hv.keeps hk fun _ hb => h.apart hb
theorem DiskIn.cache' (h : DiskIn P w p F s lastV lv cb pm D) (hk : Keeps (Muts p lastV cb pm) w w') {k : Int} {o : Option (List Int)} (hc : HasAt w F D k o) : HasAt w' F D k o := by
  cases o with
  | none => exact hc
  | some bs => obtain ⟨v, h1, h2⟩ := hc; exact ⟨v, h1, h.bytes hk h2⟩
theorem DiskIn.p_ne_row (h : DiskIn P w p F s lastV lv cb pm D) : lastV.ownBlock ≠ some p := fun e => by
  obtain ⟨cur, hc⟩ := h.row_blk e
  exact h.blk.ne_ hc (by decide) rfl
theorem DiskIn.p_ne_cb (h : DiskIn P w p F s lastV lv cb pm D) : cb ≠ p := by
  obtain ⟨es, clock, hc⟩ := heap_of_own h.own
  rintro rfl
  have := h.blk
  unfold Blk at this
  rw [hc] at this
  cases this
theorem DiskIn.row_ne_cb (h : DiskIn P w p F s lastV lv cb pm D) : lastV.ownBlock ≠ some cb := fun e => by
  obtain ⟨cur, hr⟩ := h.row_blk e
  obtain ⟨es, clock, hc⟩ := heap_of_own h.own
  unfold Blk at hr
  rw [hc] at hr
  cases hr
theorem DiskIn.plan_ne (h : DiskIn P w p F s lastV lv cb pm D) {b : Nat} (e : pm = some b) : b ≠ p ∧ lastV.ownBlock ≠ some b ∧ b ≠ cb := by
  obtain ⟨_, h2, es, clock, hc⟩ := h.plan_map e
  refine ⟨?_, fun e => ?_, h2⟩
  · rintro rfl
    have := h.blk
    unfold Blk at this
    rw [hc] at this
    cases this
  · obtain ⟨cur, hr⟩ := h.row_blk e
    unfold Blk at hr
    rw [hc] at hr
    cases hr
theorem PlanIs.of_eq {plan : Int → Bool} {pn : Nat} (h : PlanIs P w F cb plan pn pm) (he : ∀ b, pm = some b → w'.heap[b]? = w.heap[b]?) : PlanIs P w' F cb plan pn pm := by
  cases pm with
  | none => exact h
  | some pb => obtain ⟨h1, h2, D, h3, h4⟩ := h; exact ⟨h1, h2, D, ownsMap_of_eq h3 (he _ rfl), h4⟩
end
/-- the next operation's count -/
def St.tick (s : St) : St := { s with ops := s.ops + 1, plan := fun k => if k = (s.ops : Int) + 1 then false else s.plan k }
/-- is the next operation planned to fail? -/
def St.fails (s : St) : Bool := s.plan ((s.ops : Int) + 1)
/-- sector i lasts as bs, and isn't cached -/
def St.settled (s : St) (i : Int) (bs : List Int) : St := { s with last := s.last.set i.toNat bs, cach := fun k => if k = i then none else s.cach k }

end Ks
