/-
  A COPY IN MEMORY: what the walk of Copy stands on.
-/
import Derived.Test.YtconholnjhjhcaaOpen
import Derived.Test.YtconholnjhjhcaaPlain
import Derived.Maps.RangeWalk
namespace Go.Proofs.Ytconholnjhjhcaa
open Ks Go.RowKit

/-- an element more in the row of the disk in block p -/
theorem row_step {w wr w2 w4 : World} {p k g cap : Nat} {l : List (List Int)} {a0 a2 a3 a4 a5 lastV v2 : Value} {lv : List Value} (hb : Blk wr p 70 #[a0, lastV, a2, a3, a4, a5])
    (hrow : wr.ownsRow w.heap.size 31 1 lastV k lv) (hs : ∀ i, i < k → Byt wr (From w.heap.size) (lv.getD i undef) (l.getD i [])) (hk : Keeps No w wr) (hNp : w.heap.size ≤ p)
    (hk2 : Keeps No wr w2) (hv2 : Byt w2 (From wr.heap.size) v2 (l.getD k [])) (hown : w4.ownsRow w.heap.size 31 1 (.slice (some ⟨g, 0, none⟩) (k + 1) cap) (k + 1) (lv ++ [v2]))
    (hgrow : (w2.alloc (.cells #[v2] 31)).grownBy w4 lastV.ownBlock) :
    Blk (w4.setCell ⟨p, 1, none⟩ (.slice (some ⟨g, 0, none⟩) (k + 1) cap)) p 70 #[a0, .slice (some ⟨g, 0, none⟩) (k + 1) cap, a2, a3, a4, a5] ∧
    (w4.setCell ⟨p, 1, none⟩ (.slice (some ⟨g, 0, none⟩) (k + 1) cap)).ownsRow w.heap.size 31 1 (.slice (some ⟨g, 0, none⟩) (k + 1) cap) (k + 1) (lv ++ [v2]) ∧
    (∀ i, i < k + 1 → Byt (w4.setCell ⟨p, 1, none⟩ (.slice (some ⟨g, 0, none⟩) (k + 1) cap)) (From w.heap.size) ((lv ++ [v2]).getD i undef) (l.getD i [])) ∧
    Keeps No w (w4.setCell ⟨p, 1, none⟩ (.slice (some ⟨g, 0, none⟩) (k + 1) cap)) ∧
    (∀ (b : Nat) (es : Array MapEntry) (clock : Nat), wr.heap[b]? = some (Obj.map es clock) → (w4.setCell ⟨p, 1, none⟩ (.slice (some ⟨g, 0, none⟩) (k + 1) cap)).heap[b]? = some (Obj.map es clock)) := by
  have hlv : lv.length = k := by have := hrow.1; simpa using this
  have hne : ∀ x, lastV.ownBlock = some x → ∃ cur, Blk wr x 31 cur := fun x hx => by
    rcases hrow.2 with ⟨rfl, _⟩ | ⟨g', cap', cur, rfl, _, hh, _⟩
    · cases hx
    · simp [Value.ownBlock] at hx
      subst hx
      exact ⟨cur, hh⟩
  have keep : ∀ x, x < wr.heap.size → x ≠ p → lastV.ownBlock ≠ some x → (w4.setCell ⟨p, 1, none⟩ (.slice (some ⟨g, 0, none⟩) (k + 1) cap)).heap[x]? = wr.heap[x]? := fun x h1 h2 h3 => by
    rw [Below.heap_setCell _ _ _ _ h2, hgrow.block x (by simp; exact Nat.lt_succ_of_lt (Nat.lt_of_lt_of_le h1 hk2.size)) (fun e => h3 e.symm), Below.heap_alloc _ _ _ (Nat.lt_of_lt_of_le h1 hk2.size), hk2.block x h1 (fun h => h)]
  have keep2 : ∀ x, x < w2.heap.size → wr.heap.size ≤ x → (w4.setCell ⟨p, 1, none⟩ (.slice (some ⟨g, 0, none⟩) (k + 1) cap)).heap[x]? = w2.heap[x]? := fun x h1 h2 => by
    have hp := hb.lt
    have hx : lastV.ownBlock ≠ some x := fun e => by obtain ⟨cur, hc⟩ := hne x e; have := hc.lt; omega
    rw [Below.heap_setCell _ _ _ _ (show x ≠ p by omega), hgrow.block x (by simp; omega) (fun e => hx e.symm), Below.heap_alloc _ _ _ h1]
  have h4 : Blk w4 p 70 _ := open_blk hb hrow hk2 hgrow
  refine ⟨h4.set_ 1 _, ?_, fun i hi => ?_, ?_, fun b es clock hm => ?_⟩
  · refine ownsRow_of_eq hown fun x hx => Below.heap_setCell _ _ _ _ ?_
    simp only [Value.ownBlock, Option.some.injEq] at hx
    subst hx
    rintro rfl
    rcases hown.2 with ⟨h, _⟩ | ⟨g', cap', cur, h, _, hh, _⟩
    · cases h
    · simp only [Value.slice.injEq, Option.some.injEq, Addr.mk.injEq, and_true, true_and] at h
      obtain ⟨rfl, rfl⟩ := h
      exact h4.ne_ (show Blk w4 g 31 cur from hh) (by decide) rfl
  · by_cases e : i = k
    · subst e
      have : (lv ++ [v2]).getD i undef = v2 := by simp [List.getD, ← hlv]
      rw [this]
      have h1 := hv2.keep (w' := w4.setCell ⟨p, 1, none⟩ (.slice (some ⟨g, 0, none⟩) (i + 1) cap)) (fun b hb => keep2 b hb.lt hb.1)
      exact h1.mono fun b hb => Nat.le_trans hk.size hb
    · have hi' : i < k := by omega
      have : (lv ++ [v2]).getD i undef = lv.getD i undef := by simp [List.getD, List.getElem?_append_left (show i < lv.length by omega)]
      rw [this]
      refine (hs i hi').keep (fun b hb' => keep b hb'.lt (fun e => ?_) (fun e => ?_))
      · subst e
        obtain ⟨_, cs, h⟩ := hb'
        unfold Blk at hb
        rw [h] at hb
        simp at hb
      · obtain ⟨cur, hc⟩ := hne _ e
        obtain ⟨_, cs, h⟩ := hb'
        unfold Blk at hc
        rw [h] at hc
        simp at hc
  · refine ⟨?_, ?_, ?_, ?_, fun b hb' _ => ?_⟩
    · exact hgrow.os.trans (hk2.os.trans hk.os)
    · exact hgrow.tape.trans (hk2.tape.trans hk.tape)
    · exact hgrow.output.trans (hk2.output.trans hk.output)
    · have h1 := hgrow.size
      have h2 := hk2.size
      have h3 := hk.size
      simp [World.setCell] at h1 ⊢
      omega
    · rw [keep b (Nat.lt_of_lt_of_le hb' hk.size) (by omega) (fun e => by
        rcases hrow.2 with ⟨rfl, _⟩ | ⟨g', cap', cur, rfl, hg', hh, _⟩
        · cases e
        · simp [Value.ownBlock] at e
          omega)]
      exact hk.block b hb' (fun h => h)
  · rw [keep b (lt_of_heap hm) (fun e => by subst e; unfold Blk at hb; rw [hm] at hb; cases hb) (fun e => by obtain ⟨cur, hc⟩ := hne _ e; unfold Blk at hc; rw [hm] at hc; cases hc)]
    exact hm

/-- where the first loop stands -/
def CopyAt (w : World) (s : St) (p' cb' : Nat) (pm' : Option Nat) (k : Nat) (wr : World) : Prop :=
  ∃ lastV lv, Blk wr p' 70 #[.int .i64 s.size, lastV, .map (some cb'), .map pm', .int .i64 s.ops, .int .i64 s.wr] ∧ wr.ownsRow w.heap.size 31 1 lastV k lv ∧
    (∀ i, i < k → Byt wr (From w.heap.size) (lv.getD i undef) (s.last.getD i [])) ∧ Keeps No w wr ∧ w.heap.size ≤ p' ∧ w.heap.size ≤ cb' ∧ wr.heap[cb']? = some (.map #[] 0) ∧ PlanIs Try.prog wr (From w.heap.size) cb' s.plan s.pn pm'

theorem copy_step {w wr w2 w4 : World} {s : St} {p' cb' k g cap : Nat} {pm' : Option Nat} {lastV v2 : Value} {lv : List Value}
    (hb : Blk wr p' 70 #[.int .i64 s.size, lastV, .map (some cb'), .map pm', .int .i64 s.ops, .int .i64 s.wr]) (hrow : wr.ownsRow w.heap.size 31 1 lastV k lv)
    (hs : ∀ i, i < k → Byt wr (From w.heap.size) (lv.getD i undef) (s.last.getD i [])) (hk : Keeps No w wr) (hNp : w.heap.size ≤ p') (hNc : w.heap.size ≤ cb') (hm : wr.heap[cb']? = some (.map #[] 0)) (hp : PlanIs Try.prog wr (From w.heap.size) cb' s.plan s.pn pm')
    (hk2 : Keeps No wr w2) (hv2 : Byt w2 (From wr.heap.size) v2 (s.last.getD k [])) (hown : w4.ownsRow w.heap.size 31 1 (.slice (some ⟨g, 0, none⟩) (k + 1) cap) (k + 1) (lv ++ [v2]))
    (hgrow : (w2.alloc (.cells #[v2] 31)).grownBy w4 lastV.ownBlock) : CopyAt w s p' cb' pm' (k + 1) (w4.setCell ⟨p', 1, none⟩ (.slice (some ⟨g, 0, none⟩) (k + 1) cap)) := by
  obtain ⟨h1, h2, h3, h4, h5⟩ := row_step hb hrow hs hk hNp hk2 hv2 hown hgrow
  refine ⟨_, _, h1, h2, h3, h4, hNp, hNc, h5 _ _ _ hm, hp.of_eq fun b hb' => ?_⟩
  subst hb'
  obtain ⟨_, _, D, h6, _⟩ := hp
  obtain ⟨es, clock, h7⟩ := heap_of_own h6
  rw [h5 _ _ _ h7, h7]

/-- the copied map, as far as it has come -/
def CopyHas (w : World) (N : Nat) (D' : DataW Value) (left : Lit → Bool) (cach : Int → Option (List Int)) : Prop :=
  ∀ k : Int, (left (K k) = true → Maps.has D' (K k) = false) ∧ (left (K k) = false → HasAt w (From N) D' k (cach k))

/-- where the second loop stands -/
def CopyAt2 (w : World) (s : St) (cb p' cb' r : Nat) (pm' : Option Nat) (D : DataW Value) (wr : World) : Prop :=
  ∃ lastV lv left cnt D', wr.ranges Try.prog 3 heldR cb r s.cn D left cnt ∧ cnt ≤ Maps.size D ∧ wr.ownsMap Try.prog 3 heldR cb' (Maps.size D - cnt) D' ∧ CopyHas wr w.heap.size D' left s.cach ∧
    Blk wr p' 70 #[.int .i64 s.size, lastV, .map (some cb'), .map pm', .int .i64 s.ops, .int .i64 s.wr] ∧ wr.ownsRow w.heap.size 31 1 lastV s.last.length lv ∧
    (∀ i, i < s.last.length → Byt wr (From w.heap.size) (lv.getD i undef) (s.last.getD i [])) ∧ Keeps No w wr ∧ w.heap.size ≤ p' ∧ w.heap.size ≤ cb' ∧ w.heap.size ≤ r ∧ r ≠ cb' ∧ PlanIs Try.prog wr (From w.heap.size) cb' s.plan s.pn pm'

theorem has_cach {w : World} {p : Nat} {F : Nat → Prop} {s : St} {lastV : Value} {lv : List Value} {cb : Nat} {pm : Option Nat} {D : DataW Value} (h : DiskIn Try.prog w p F s lastV lv cb pm D) (k : Int) : Maps.has D (K k) = (s.cach k).isSome := by
  have := h.cache k
  cases hc : s.cach k with
  | none => rw [hc] at this; exact this
  | some bs =>
    rw [hc] at this
    obtain ⟨v, h1, _⟩ := this
    exact Maps.has_true_of_atKey h1

theorem copyHas_start {w : World} {wr : World} {p N : Nat} {F : Nat → Prop} {s : St} {lastV : Value} {lv : List Value} {cb : Nat} {pm : Option Nat} {D : DataW Value} (h : DiskIn Try.prog w p F s lastV lv cb pm D) : CopyHas wr N (.map []) (Maps.has D) s.cach := by
  intro k
  refine ⟨fun _ => rfl, fun hk => ?_⟩
  rw [has_cach h] at hk
  cases hc : s.cach k with
  | none => rfl
  | some bs => rw [hc] at hk; cases hk

/-- what is not of bytes may change -/
theorem hasAt_keep {w w' : World} {N : Nat} {D' : DataW Value} {k : Int} {o : Option (List Int)} (h : HasAt w (From N) D' k o) (hb : ∀ b, Byb w (From N) b → w'.heap[b]? = w.heap[b]?) : HasAt w' (From N) D' k o := by
  cases o with
  | none => exact h
  | some bs => obtain ⟨v, h1, h2⟩ := h; exact ⟨v, h1, h2.keep hb⟩

theorem copyHas_step {w w2 w3 : World} {N : Nat} {D' : DataW Value} {left : Lit → Bool} {cach : Int → Option (List Int)} {x : Int} {v2 : Value} {bs : List Int} (h : CopyHas w N D' left cach) (hm : Maps.IsMap D')
    (hb : ∀ b, Byb w (From N) b → w3.heap[b]? = w.heap[b]?) (hb2 : ∀ b, Byb w2 (From N) b → w3.heap[b]? = w2.heap[b]?) (hv : Byt w2 (From N) v2 bs) (hc : cach x = some bs) :
    CopyHas w3 N (D'.put (K x) (.held v2)) (fun z => left z && !z.sameKey (K x)) cach := by
  intro k
  by_cases e : k = x
  · subst e
    refine ⟨fun h => ?_, fun _ => ?_⟩
    · simp [WideAt.sameKey_self (K_key k)] at h
    · rw [hc]
      exact ⟨v2, fun z => Maps.atKey_put_same hm (K_key k) _ z, hv.keep hb2⟩
  · have hs : (K k).sameKey (K x) = false := Maps.sameKey_ne (K_ne e)
    refine ⟨fun hl => ?_, fun hl => ?_⟩
    · simp [hs] at hl
      rw [Maps.has_put_other (K_ne e)]
      exact (h k).1 hl
    · simp [hs] at hl
      have := hasAt_keep ((h k).2 hl) hb
      cases hc : cach k with
      | none =>
        rw [hc] at this
        exact (Maps.has_put_other (K_ne e) _).trans this
      | some bs =>
        rw [hc] at this
        obtain ⟨v', h1, h2⟩ := this
        exact ⟨v', fun z => (Maps.atKey_put_other (K_ne e) _ z).trans (h1 z), h2⟩

/-- a copy in new memory -/
def Copied (w : World) (s : St) (e : Ending) (w' : World) : Prop := ∃ p, e = .returned (.pointer (some ⟨p, 0, none⟩)) ∧ DiskAt Try.prog w' p (Grow No w w') s ∧ Keeps No w w'

theorem copy_done {w wr : World} {p : Nat} {F : Nat → Prop} {s : St} {lastV0 : Value} {lv0 : List Value} {cb : Nat} {pm : Option Nat} {D : DataW Value} (hin : DiskIn Try.prog w p F s lastV0 lv0 cb pm D)
    {p' cb' : Nat} {pm' : Option Nat} {lastV : Value} {lv : List Value} {left : Lit → Bool} {D' : DataW Value} (hl : ∀ kl, left kl = false) (hsz : Maps.size D ≤ s.cn)
    (h3 : wr.ownsMap Try.prog 3 heldR cb' (Maps.size D - 0) D') (h4 : CopyHas wr w.heap.size D' left s.cach)
    (h5 : Blk wr p' 70 #[.int .i64 s.size, lastV, .map (some cb'), .map pm', .int .i64 s.ops, .int .i64 s.wr]) (h6 : wr.ownsRow w.heap.size 31 1 lastV s.last.length lv)
    (h7 : ∀ i, i < s.last.length → Byt wr (From w.heap.size) (lv.getD i undef) (s.last.getD i [])) (hNp : w.heap.size ≤ p') (hNc : w.heap.size ≤ cb') (h8 : PlanIs Try.prog wr (From w.heap.size) cb' s.plan s.pn pm') :
    DiskAt Try.prog wr p' (Grow No w wr) s := by
  have hb' : ∀ v bs, Byt wr (From w.heap.size) v bs → Byt wr (Grow No w wr) v bs := fun v bs h => by
    obtain ⟨A, c, rfl, hc, hx⟩ := h
    refine ⟨A, c, rfl, hc, fun h0 => ?_⟩
    obtain ⟨b, o, rfl, hb, hcs⟩ := hx h0
    exact ⟨b, o, rfl, ⟨.inr ⟨hb.1, hb.lt⟩, hb.2⟩, hcs⟩
  refine ⟨lastV, lv, cb', pm', D', ⟨h5, .inr ⟨hNp, h5.lt⟩, ?_, fun g hg' => ?_, fun i hi => hb' _ _ (h7 i hi), hin.lens, .inr ⟨hNc, h3.lt⟩, h3.mono hsz, fun k => ?_, hin.keys, ?_, fun b hb => ?_⟩⟩
  · refine ⟨h6.1, ?_⟩
    rcases h6.2 with h | ⟨g, cap, cur, e, _, r⟩
    · exact .inl h
    · exact .inr ⟨g, cap, cur, e, Nat.zero_le _, r⟩
  · rcases h6.2 with ⟨rfl, _⟩ | ⟨g', cap, cur, rfl, hb1, hh, _⟩
    · cases hg'
    · simp [Value.ownBlock] at hg'
      subst hg'
      exact .inr ⟨hb1, lt_of_heap hh⟩
  · have := (h4 k).2 (hl _)
    cases hc : s.cach k with
    | none => rw [hc] at this; exact this
    | some bs =>
      rw [hc] at this
      obtain ⟨v, h1, h2⟩ := this
      exact ⟨v, h1, hb' _ _ h2⟩
  · cases pm' with
    | none => exact h8
    | some pb =>
      obtain ⟨a1, a2, D2, a3, a4⟩ := h8
      exact ⟨.inr ⟨a1, a3.lt⟩, a2, D2, a3, a4⟩
  · rcases hb with hb | hb
    · exact hb.elim
    · exact hb.2


/-- the second loop begins -/
theorem copy_range {w wr w0 : World} {p : Nat} {F : Nat → Prop} {s : St} {lastV0 : Value} {lv0 : List Value} {cb : Nat} {pm : Option Nat} {D : DataW Value} (hin : DiskIn Try.prog w p F s lastV0 lv0 cb pm D)
    {p' cb' : Nat} {pm' : Option Nat} {lastV : Value} {lv : List Value} (h1 : Blk wr p' 70 #[.int .i64 s.size, lastV, .map (some cb'), .map pm', .int .i64 s.ops, .int .i64 s.wr]) (h2 : wr.ownsRow w.heap.size 31 1 lastV s.last.length lv)
    (h3 : ∀ i, i < s.last.length → Byt wr (From w.heap.size) (lv.getD i undef) (s.last.getD i [])) (h4 : Keeps No w wr) (h5 : w.heap.size ≤ p') (h6 : w.heap.size ≤ cb') (h7 : wr.heap[cb']? = some (.map #[] 0)) (h8 : PlanIs Try.prog wr (From w.heap.size) cb' s.plan s.pn pm')
    (hrg : w0.ranges Try.prog 3 heldR cb wr.heap.size s.cn D (Maps.has D) (Maps.size D)) (hg : wr.grownBy w0 none) : CopyAt2 w s cb p' cb' wr.heap.size pm' D w0 := by
  have keep : ∀ b, b < wr.heap.size → w0.heap[b]? = wr.heap[b]? := fun b hb => hg.block b hb (by simp)
  refine ⟨lastV, lv, _, _, .map [], hrg, Nat.le_refl _, ?_, copyHas_start hin, h1.of_eq (keep _ h1.lt), ownsRow_of_eq h2 (fun g hg' => keep g (own_lt h2 hg')), fun i hi => (h3 i hi).keep (fun b hb => keep b hb.lt), h4.grown hg (fun b hb => by cases hb), h5, h6, h4.size, ?_, h8.of_eq (fun b hb => ?_)⟩
  · have : w0.ownsMap Try.prog 3 heldR cb' 0 (.map []) := ⟨#[], 0, (keep _ (lt_of_heap h7)).trans h7, ⟨by simp, Go.MapKept.stamped_empty 0, by simp⟩, Nat.le_refl _, rfl⟩
    exact this.mono (Nat.zero_le _)
  · have := lt_of_heap h7
    omega
  · subst hb
    obtain ⟨_, _, D2, h9, _⟩ := h8
    exact keep b h9.lt

/-- a round of the second loop -/
theorem copy2_step {w wr w5 w6 w7 : World} {s : St} {cb p' cb' r0 cnt cnt5 : Nat} {pm' : Option Nat} {D D' : DataW Value} {lastV v6 : Value} {lv : List Value} {left : Lit → Bool} {x : Int} {bs : List Int}
    (r1 : wr.ranges Try.prog 3 heldR cb r0 s.cn D left cnt) (r2 : cnt ≤ Maps.size D) (r3 : wr.ownsMap Try.prog 3 heldR cb' (Maps.size D - cnt) D') (r4 : CopyHas wr w.heap.size D' left s.cach)
    (r5 : Blk wr p' 70 #[.int .i64 s.size, lastV, .map (some cb'), .map pm', .int .i64 s.ops, .int .i64 s.wr]) (r6 : wr.ownsRow w.heap.size 31 1 lastV s.last.length lv)
    (r7 : ∀ i, i < s.last.length → Byt wr (From w.heap.size) (lv.getD i undef) (s.last.getD i [])) (r8 : Keeps No w wr) (r9 : w.heap.size ≤ p') (r10 : w.heap.size ≤ cb') (r11 : w.heap.size ≤ r0) (r12 : r0 ≠ cb') (r13 : PlanIs Try.prog wr (From w.heap.size) cb' s.plan s.pn pm')
    (hcbw : cb < w.heap.size) (hg5 : wr.grownBy w5 (some r0)) (hrg5 : w5.ranges Try.prog 3 heldR cb r0 s.cn D (fun z => left z && !z.sameKey (K x)) cnt5) (hlt5 : cnt5 < cnt) (hk6 : Keeps No w5 w6) (hv6 : Byt w6 (From w5.heap.size) v6 bs) (hc : s.cach x = some bs)
    (hown7 : w7.ownsMap Try.prog 3 heldR cb' (Maps.size D - cnt + 1) (D'.put (K x) (.held v6))) (hturn7 : w6.mapTurned w7 cb') :
    w7.ranges Try.prog 3 heldR cb r0 s.cn D (fun z => left z && !z.sameKey (K x)) cnt5 ∧ CopyAt2 w s cb p' cb' r0 pm' D w7 := by
  obtain ⟨it1, hit⟩ : ∃ o, wr.heap[r0]? = some o := ⟨_, Array.getElem?_eq_getElem r1.lt⟩
  have hiter : ∃ a b c d, wr.heap[r0]? = some (.mapIter a b c d) := by
    obtain ⟨es, clock, since, seen, c0, _, _, _, _, hr, _⟩ := r1
    exact ⟨_, _, _, _, hr⟩
  have keep : ∀ b, b < wr.heap.size → b ≠ r0 → b ≠ cb' → w7.heap[b]? = wr.heap[b]? := fun b hb h1 h2 => by
    have hb5 : b < w5.heap.size := Nat.lt_of_lt_of_le hb hg5.size
    rw [hturn7.grown.block b (Nat.lt_of_lt_of_le hb5 hk6.size) (fun e => h2 (by simpa using e)), hk6.block b hb5 (fun h => h), hg5.block b hb (fun e => h1 (by simpa using e))]
  have keep6 : ∀ b, b < w6.heap.size → b ≠ cb' → w7.heap[b]? = w6.heap[b]? := fun b hb h2 => hturn7.grown.block b hb (fun e => h2 (by simpa using e))
  have bybr : ∀ b, Byb wr (From w.heap.size) b → w7.heap[b]? = wr.heap[b]? := fun b hb => keep b hb.lt (fun e => by
    obtain ⟨_, cs, h⟩ := hb
    obtain ⟨a1, a2, a3, a4, h'⟩ := hiter
    rw [e] at h
    rw [h] at h'
    cases h') (fun e => by
    obtain ⟨_, cs, h⟩ := hb
    obtain ⟨es, clock, h'⟩ := heap_of_own r3
    rw [e] at h
    rw [h] at h'
    cases h')
  have hown6 : w6.ownsMap Try.prog 3 heldR cb' (Maps.size D - cnt) D' := ownsMap_of_eq r3 (by
    rw [hk6.block cb' (Nat.lt_of_lt_of_le r3.lt hg5.size) (fun h => h), hg5.block cb' r3.lt (fun e => r12 (by simpa using e.symm))])
  have byb6 : ∀ b, Byb w6 (From w.heap.size) b → w7.heap[b]? = w6.heap[b]? := fun b hb => keep6 b hb.lt (fun e => by
    obtain ⟨_, cs, h⟩ := hb
    obtain ⟨es, clock, h'⟩ := heap_of_own hown6
    rw [e] at h
    rw [h] at h'
    cases h')
  have hrg7 : w7.ranges Try.prog 3 heldR cb r0 s.cn D (fun z => left z && !z.sameKey (K x)) cnt5 := by
    have h6 : w6.ranges Try.prog 3 heldR cb r0 s.cn D (fun z => left z && !z.sameKey (K x)) cnt5 := hrg5.kept (row := none) ⟨hk6.os, hk6.tape, hk6.output, hk6.size, fun i hi _ => hk6.block i hi (fun h => h)⟩ (by simp) (by simp)
    exact h6.kept hturn7.grown (fun e => by have : cb = cb' := (by simpa using e); omega) (fun e => r12 (by simpa using e))
  refine ⟨hrg7, lastV, lv, _, cnt5, D'.put (K x) (.held v6), hrg7, by omega, hown7.mono (by omega), ?_, r5.of_eq (keep _ r5.lt (fun e => ?_) (fun e => ?_)), ownsRow_of_eq r6 (fun g hg' => keep g (own_lt r6 hg') (fun e => ?_) (fun e => ?_)), fun i hi => (r7 i hi).keep bybr, ?_, r9, r10, r11, r12, r13.of_eq (fun b hb => ?_)⟩
  · refine copyHas_step r4 r3.isMap bybr byb6 (hv6.mono fun b hb => ?_) hc
    have h1 := r8.size
    have h2 := hg5.size
    unfold From at hb ⊢
    omega
  · obtain ⟨a1, a2, a3, a4, h'⟩ := hiter
    unfold Blk at r5
    rw [e, h'] at r5
    cases r5
  · obtain ⟨es, clock, h'⟩ := heap_of_own r3
    unfold Blk at r5
    rw [e, h'] at r5
    cases r5
  · rcases r6.2 with ⟨rfl, _⟩ | ⟨g', cap', cur, rfl, _, hh, _⟩
    · cases hg'
    · simp [Value.ownBlock] at hg'
      obtain ⟨a1, a2, a3, a4, h'⟩ := hiter
      rw [hg', e, h'] at hh
      cases hh
  · rcases r6.2 with ⟨rfl, _⟩ | ⟨g', cap', cur, rfl, _, hh, _⟩
    · cases hg'
    · simp [Value.ownBlock] at hg'
      obtain ⟨es, clock, h'⟩ := heap_of_own r3
      rw [hg', e, h'] at hh
      cases hh
  · exact (((r8.grown hg5 (fun b hb => .inr (by simp at hb; omega))).then hk6 (fun b hb => hb.elim)).grown hturn7.grown (fun b hb => .inr (by simp at hb; omega)))
  · subst hb
    obtain ⟨_, h2, D2, h9, _⟩ := r13
    obtain ⟨es, clock, h'⟩ := heap_of_own h9
    refine keep b h9.lt (fun e => ?_) h2
    obtain ⟨a1, a2, a3, a4, h''⟩ := hiter
    rw [e, h''] at h'
    cases h'

theorem blk_ne_iter {wr : World} {P : Program} {p' cb r n cnt : Nat} {t : TypeId} {cs : Array Value} {D : DataW Value} {left : Lit → Bool} (h : Blk wr p' t cs) (r1 : wr.ranges P 3 heldR cb r n D left cnt) : p' ≠ r := by
  obtain ⟨es, clock, since, seen, c0, _, _, _, _, hr, _⟩ := r1
  rintro rfl
  unfold Blk at h
  rw [hr] at h
  cases h
theorem blk_ne_map {H : Type} {R : Value → Option (DataW H × List MemPlace)} {wr : World} {P : Program} {p' cb n : Nat} {t : TypeId} {cs : Array Value} {D : DataW H} (h : Blk wr p' t cs) (r1 : wr.ownsMap P 3 R cb n D) : cb ≠ p' := by
  obtain ⟨es, clock, hr, _⟩ := r1
  rintro rfl
  unfold Blk at h
  rw [hr] at h
  cases h
/-- the entry that has come is cached -/
theorem copy_entry {w wr w5 : World} {p r0 : Nat} {F : Nat → Prop} {s : St} {lastV : Value} {lv : List Value} {cb : Nat} {pm : Option Nat} {D : DataW Value} {x : Int} {cv : Value} (hin : DiskIn Try.prog w p F s lastV lv cb pm D)
    (hat : ∀ zd, D.atKey (K x) zd = .held cv) (hk : Keeps No w wr) (hg : wr.grownBy w5 (some r0)) (hr : w.heap.size ≤ r0) : ∃ bs, s.cach x = some bs ∧ Bys w5.drew F cv bs ∧ bs.length = s.size := by
  have hh := Maps.has_true_of_atKey hat
  rw [has_cach hin] at hh
  obtain ⟨bs, hbs⟩ := Option.isSome_iff_exists.1 hh
  have hc := hin.cache x
  rw [hbs] at hc
  obtain ⟨v, h1, h2⟩ := hc
  have e : DataW.held v = DataW.held cv := (h1 .nil).symm.trans (hat .nil)
  injection e with e
  subst e
  refine ⟨bs, hbs, ?_, (hin.keys x bs hbs).2.2⟩
  have h3 := h2.keeps hk (fun _ _ h => h)
  have h4 := h2.keep (w' := w5) (fun b hb => by
    rw [hg.block b (Nat.lt_of_lt_of_le hb.lt hk.size) (fun e => by have h0 := hb.lt; have : b = r0 := (by simpa using e); omega), hk.block b hb.lt (fun h => h)])
  exact h4.bys

theorem copy_start_a {w : World} {p : Nat} {F : Nat → Prop} {s : St} {lastV : Value} {lv : List Value} {cb pb : Nat} {D : DataW Value} {es : Array MapEntry} {clock : Nat} (h : DiskIn Try.prog w p F s lastV lv cb (some pb) D) (hpb : w.heap[pb]? = some (.map es clock)) :
    CopyAt w s (w.heap.size + 2) w.heap.size (some (w.heap.size + 1)) 0 ((((w.alloc (.map #[] 0)).alloc (.map es clock)).alloc (.cells #[.int .i64 s.size, .slice none 0 0, .map (some w.heap.size), .map (some (w.heap.size + 1)), .int .i64 s.ops, .int .i64 s.wr] 70)).drew) := by
  have e1 : (w.alloc (.map #[] 0)).heap.size = w.heap.size + 1 := by simp
  have e2 : ((w.alloc (.map #[] 0)).alloc (.map es clock)).heap.size = w.heap.size + 2 := by simp
  obtain ⟨_, _, Dp, ⟨es', clock', hb', Ft, hs, hD⟩, hhas⟩ := h.plan
  rw [hpb] at hb'
  injection hb' with hb'
  injection hb' with q1 q2
  subst q1 q2
  refine ⟨.slice none 0 0, [], ?_, World.ownsRow_nil _ _ _ _, fun i hi => absurd hi (by omega), ((((Keeps.refl No w).alloc _).alloc _).alloc _).drew, by omega, Nat.le_refl _, ?_, ⟨by unfold From; omega, by omega, Dp, ⟨es, clock, ?_, Ft, hs, hD⟩, hhas⟩⟩
  · have := Blk.new ((w.alloc (.map #[] 0)).alloc (.map es clock)) 70 #[.int .i64 s.size, .slice none 0 0, .map (some w.heap.size), .map (some (w.heap.size + 1)), .int .i64 s.ops, .int .i64 s.wr]
    rw [e2] at this
    exact this
  · show (((w.alloc (.map #[] 0)).alloc (.map es clock)).alloc _).heap[w.heap.size]? = _
    rw [Below.heap_alloc _ _ _ (by rw [e2]; omega), Below.heap_alloc _ _ _ (by rw [e1]; omega)]
    exact heap_alloc_new w _
  · show (((w.alloc (.map #[] 0)).alloc (.map es clock)).alloc _).heap[w.heap.size + 1]? = _
    rw [Below.heap_alloc _ _ _ (by rw [e2]; omega), ← e1]
    exact heap_alloc_new _ _
theorem copy_start_b {w : World} {p : Nat} {F : Nat → Prop} {s : St} {lastV : Value} {lv : List Value} {cb pb : Nat} {D : DataW Value} {es : Array MapEntry} {clock : Nat} (h : DiskIn Try.prog w p F s lastV lv cb (some pb) D) (hpb : w.heap[pb]? = some (.map es clock)) :
    CopyAt w s (w.heap.size + 2) (w.heap.size + 1) (some w.heap.size) 0 ((((w.alloc (.map es clock)).alloc (.map #[] 0)).alloc (.cells #[.int .i64 s.size, .slice none 0 0, .map (some (w.heap.size + 1)), .map (some w.heap.size), .int .i64 s.ops, .int .i64 s.wr] 70)).drew) := by
  have e1 : (w.alloc (.map es clock)).heap.size = w.heap.size + 1 := by simp
  have e2 : ((w.alloc (.map es clock)).alloc (.map #[] 0)).heap.size = w.heap.size + 2 := by simp
  obtain ⟨_, _, Dp, ⟨es', clock', hb', Ft, hs, hD⟩, hhas⟩ := h.plan
  rw [hpb] at hb'
  injection hb' with hb'
  injection hb' with q1 q2
  subst q1 q2
  refine ⟨.slice none 0 0, [], ?_, World.ownsRow_nil _ _ _ _, fun i hi => absurd hi (by omega), ((((Keeps.refl No w).alloc _).alloc _).alloc _).drew, by omega, by omega, ?_, ⟨Nat.le_refl _, by omega, Dp, ⟨es, clock, ?_, Ft, hs, hD⟩, hhas⟩⟩
  · have := Blk.new ((w.alloc (.map es clock)).alloc (.map #[] 0)) 70 #[.int .i64 s.size, .slice none 0 0, .map (some (w.heap.size + 1)), .map (some w.heap.size), .int .i64 s.ops, .int .i64 s.wr]
    rw [e2] at this
    exact this
  · show (((w.alloc (.map es clock)).alloc (.map #[] 0)).alloc _).heap[w.heap.size + 1]? = _
    rw [Below.heap_alloc _ _ _ (by rw [e2]; omega), ← e1]
    exact heap_alloc_new _ _
  · show (((w.alloc (.map es clock)).alloc (.map #[] 0)).alloc _).heap[w.heap.size]? = _
    rw [Below.heap_alloc _ _ _ (by rw [e2]; omega), Below.heap_alloc _ _ _ (by rw [e1]; omega)]
    exact heap_alloc_new w _

theorem copy_start_none (w : World) (s : St) (hp : ∀ k, s.plan k = false) :
    CopyAt w s (w.heap.size + 1) w.heap.size none 0 (((w.alloc (.map #[] 0)).alloc (.cells #[.int .i64 s.size, .slice none 0 0, .map (some w.heap.size), .map none, .int .i64 s.ops, .int .i64 s.wr] 70)).drew) := by
  refine ⟨.slice none 0 0, [], ?_, World.ownsRow_nil _ _ _ _, fun i hi => absurd hi (by omega), (((Keeps.refl No w).alloc _).alloc _).drew, by omega, Nat.le_refl _, ?_, hp⟩
  · have := Blk.new (w.alloc (.map #[] 0)) 70 #[.int .i64 s.size, .slice none 0 0, .map (some w.heap.size), .map none, .int .i64 s.ops, .int .i64 s.wr]
    have e : (w.alloc (.map #[] 0)).heap.size = w.heap.size + 1 := by simp
    rw [e] at this
    exact this
  · show ((w.alloc (.map #[] 0)).alloc _).heap[w.heap.size]? = _
    rw [Below.heap_alloc _ _ _ (by simp)]
    exact heap_alloc_new w _
end Go.Proofs.Ytconholnjhjhcaa
