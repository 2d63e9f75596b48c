/-
  THE WALKS OF THE REFERENCE's Open, New.
-/
import Derived.Test.YtconholnjhjhcaaRefState
import Derived.Test.YtconholnjhjhcaaRefNo
namespace Go.Proofs.Ytconholnjhjhcaa
open Ks Go.RowKit

/-- bytes onto nothing: new memory that holds them -/
def Cloned (w : World) (bs : List Int) (v : Value) (w' : World) : Prop := Byt w' (From w.heap.size) v bs ∧ Keeps No w w'
theorem clone1 {w W : World} {ty g : Nat} {F : Nat → Prop} {u : Value} {bs : List Int} (hu : Bys w F u bs) (hlen : bs.length ≤ 1000000) (hg : w.heap.size ≤ g) (hb : W.heap[g]? = some (.cells #[] 5 (0, 0))) (hk : Keeps No w W) :
    ∃ v' w', (Builtin.append_ #[31, 31] ty #[.slice (some ⟨g, 0, none⟩) 0 0, u]).run Try.prog W = .ok v' w' ∧ Cloned w bs v' w' := by
  have hown : W.ownsRow w.heap.size 5 1 (.slice (some ⟨g, 0, none⟩) 0 0) 0 (([] : List Int).map (Value.int .u8)) :=
    ⟨by simp, .inr ⟨g, 0, #[], rfl, hg, hb, Nat.le_refl _, Nat.zero_le _, rfl, rfl⟩⟩
  obtain ⟨v', w', hr, h1, h2, h3⟩ := append_bys W w.heap.size ty _ 0 [] hown F u bs (hu.keeps hk (fun _ _ _ h => h)) (by omega) hk.size
  refine ⟨v', w', hr, ?_, hk.grown h2 (fun b hb => .inr (own_base hown hb))⟩
  exact (Byt.of_own (bs := bs) (by simpa using h1)).mono fun b hb => hb.1

/-- one more element of a row -/
def Longer (w : World) (base : Nat) (v : Value) (k : Nat) (xs : List Value) (u : Value) (v' : Value) (w' : World) : Prop :=
  (∃ g c, v' = .slice (some ⟨g, 0, none⟩) (k + 1) c) ∧ w'.ownsRow base 31 1 v' (k + 1) (xs ++ [u]) ∧ w.grownBy w' v.ownBlock ∧ (v'.ownBlock = v.ownBlock ∨ v'.ownBlock = some w.heap.size)
theorem append_row {w : World} {base ty g : Nat} {v u : Value} {k : Nat} {xs : List Value} (hown : w.ownsRow base 31 1 v k xs) (hb : w.heap[g]? = some (.cells #[u] 31 (0, 0))) (hu : u.oneCell' = true) (hk : k ≤ 1000000) (hbase : base ≤ w.heap.size) :
    ∃ v' w', (Builtin.append_ #[40, 40] ty #[v, .slice (some ⟨g, 0, none⟩) 1 1]).run Try.prog w = .ok v' w' ∧ Longer w base v k xs u v' w' := by
  obtain ⟨i0, hi, hz0, hz1, hz2⟩ := info_parts info31
  obtain ⟨v', w', hr, h2, h3, _, h5⟩ := run_append_own_at (P := Try.prog) w base 40 ty 31 i0 _ 1 24 Try.underlying40 hi hz0 hz1 hz2 rfl (by omega) v k xs hown ⟨g, 0, none⟩ 1 1 [u] rfl (World.news_of_block (cs := #[u]) (t := 31) (fr := (0, 0)) hb) (by simpa using hu) (by unfold maxLen; omega) (by omega) hbase
  refine ⟨v', w', hr, ?_, h2, h3, h5⟩
  rcases h2.2 with ⟨_, h0⟩ | ⟨g', cap, cur, rfl, _⟩
  · omega
  · exact ⟨g', cap, rfl⟩

/-- where the loop of Open stands -/
structure RefOpenAt (w : World) (n : Nat) (bs : List Int) (k : Nat) (wr : World) (lastV : Value) (lv : List Value) (cachV : Value) (m : Nat) (cv : List Value) : Prop where
  blk : Blk wr w.heap.size 43 #[.int .i64 n, lastV, cachV, .slice none 0 0, .int .i64 0, .int .i64 0]
  row : wr.ownsRow (w.heap.size + 1) 31 1 lastV k lv
  crow : wr.ownsRow (w.heap.size + 1) 31 1 cachV m cv
  apart : ∀ g, lastV.ownBlock = some g → cachV.ownBlock ≠ some g
  sect : ∀ i, i < k → Byt wr (From w.heap.size) (lv.getD i undef) (chunk n bs i)
  csect : ∀ i, i < m → cv.getD i undef = .slice none 0 0
  keep : Keeps No w wr

section
variable {w wr w2 w4 : World} {n k m : Nat} {bs : List Int} {lastV cachV : Value} {lv cv : List Value}
theorem RefOpenAt.keeps (h : RefOpenAt w n bs k wr lastV lv cachV m cv) (hk : Keeps No wr w2) : RefOpenAt w n bs k w2 lastV lv cachV m cv :=
  ⟨h.blk.of_eq (hk.block _ h.blk.lt (fun h => h)), ownsRow_of_eq h.row (fun g hg => hk.block g (own_lt h.row hg) (fun h => h)), ownsRow_of_eq h.crow (fun g hg => hk.block g (own_lt h.crow hg) (fun h => h)), h.apart,
    fun i hi => (h.sect i hi).keeps hk (fun _ _ h => h), h.csect, h.keep.trans hk⟩

theorem own_blk {base e size n : Nat} {v : Value} {xs : List Value} (h : w.ownsRow base e size v n xs) {g : Nat} (hg : v.ownBlock = some g) : ∃ cur, Blk w g e cur := row_of h hg
theorem snoc_getD {xs : List Value} {u d : Value} {i k : Nat} (hl : xs.length = k) (hi : i < k + 1) : (xs ++ [u]).getD i d = if i = k then u else xs.getD i d := by
  by_cases e : i = k
  · subst e
    rw [if_pos rfl]
    simp [List.getD, ← hl]
  · rw [if_neg e]
    simp [List.getD, List.getElem?_append_left (show i < xs.length by omega)]

/-- the disk's own block behind an append -/
theorem longer_blk {base t e cells : Nat} {u v v' : Value} {xs : List Value} {cs : Array Value} {q : Nat} (hb : Blk wr q t cs) (hr : wr.ownsRow base 31 1 v k xs) (ht : t ≠ 31) (hl : Longer (wr.alloc (.cells #[u] 31)) e v cells xs u v' w4) : Blk w4 q t cs := by
  obtain ⟨_, _, hgrow, _⟩ := hl
  exact (hb.of_eq (Below.heap_alloc wr (.cells #[u] 31) _ hb.lt)).of_eq (hgrow.block _ (by have := hb.lt; simp; omega) (fun e => by
    obtain ⟨cur, hc⟩ := own_blk hr e.symm
    exact hb.ne_ hc ht rfl))

/-- one more sector -/
theorem refOpen_last (h : RefOpenAt w n bs k wr lastV lv cachV m cv) {v2 v4 : Value} (hc : Cloned wr (chunk n bs k) v2 w2) (hl : Longer (w2.alloc (.cells #[v2] 31)) (w.heap.size + 1) lastV k lv v2 v4 w4) :
    RefOpenAt w n bs (k + 1) (w4.setCell ⟨w.heap.size, 1, none⟩ v4) v4 (lv ++ [v2]) cachV m cv := by
  obtain ⟨hb2, hk2⟩ := hc
  obtain ⟨⟨g, c, rfl⟩, hown, hgrow, hat⟩ := hl
  have h2 := h.keeps hk2
  have hlv : lv.length = k := by have := h.row.1; simpa using this
  have hsz := h2.keep.size
  have hq := h2.blk.lt
  -- blocks that are neither the disk's nor the row's
  have keep : ∀ x, x < w2.heap.size → x ≠ w.heap.size → lastV.ownBlock ≠ some x → (w4.setCell ⟨w.heap.size, 1, none⟩ (.slice (some ⟨g, 0, none⟩) (k + 1) c)).heap[x]? = w2.heap[x]? := fun x h1 h3 h4 => by
    rw [Below.heap_setCell _ _ _ _ h3, hgrow.block x (by simp; omega) (fun e => h4 e.symm), Below.heap_alloc _ _ _ h1]
  have hb4 : Blk w4 w.heap.size 43 #[.int .i64 n, lastV, cachV, .slice none 0 0, .int .i64 0, .int .i64 0] :=
    (h2.blk.of_eq (Below.heap_alloc w2 (.cells #[v2] 31) _ hq)).of_eq (hgrow.block _ (by simp; omega) (fun e => by
      obtain ⟨cur, hc⟩ := own_blk h2.row e.symm
      exact h2.blk.ne_ hc (by decide) rfl))
  have hgb : w.heap.size + 1 ≤ g := own_base hown (g := g) rfl
  refine ⟨hb4.set_ 1 _, ownsRow_of_eq hown (fun x hx => Below.heap_setCell _ _ _ _ ?_), ownsRow_of_eq h2.crow (fun x hx => ?_), fun x hx hcx => ?_, fun i hi => ?_, h.csect, ?_⟩
  · simp only [Value.ownBlock, Option.some.injEq] at hx
    show x ≠ w.heap.size
    omega
  · have hxb := own_base h2.crow hx
    exact keep x (own_lt h2.crow hx) (by omega) (fun e => h.apart x e hx)
  · have hxl := own_lt h2.crow hcx
    rcases hat with e | e
    · rw [hx] at e
      exact h.apart x e.symm hcx
    · rw [hx] at e
      simp at e
      omega
  · rw [snoc_getD hlv hi]
    split
    · rename_i e
      subst e
      refine (hb2.mono (G := From w.heap.size) fun b hb => Nat.le_trans h.keep.size hb).keep fun b hb => keep b hb.lt ?_ ?_
      · exact byb_ne hb h2.blk (by decide)
      · intro e
        obtain ⟨cur, hc⟩ := own_blk h2.row e
        exact byb_ne hb hc (by decide) rfl
    · refine (h2.sect i (by omega)).keep fun b hb => keep b hb.lt ?_ ?_
      · exact byb_ne hb h2.blk (by decide)
      · intro e
        obtain ⟨cur, hc⟩ := own_blk h2.row e
        exact byb_ne hb hc (by decide) rfl
  · refine ⟨?_, ?_, ?_, ?_, fun b hb' _ => ?_⟩
    · exact hgrow.os.trans h2.keep.os
    · exact hgrow.tape.trans h2.keep.tape
    · exact hgrow.output.trans h2.keep.output
    · have h1 := hgrow.size
      simp [World.setCell] at h1 ⊢
      omega
    · rw [keep b (by omega) (by omega) (fun e => by have := own_base h2.row e; omega)]
      exact h2.keep.block b hb' (fun h => h)

/-- ..not cached -/
theorem refOpen_cach (h : RefOpenAt w n bs k wr lastV lv cachV m cv) {v4 : Value} (hl : Longer (wr.alloc (.cells #[.slice none 0 0] 31)) (w.heap.size + 1) cachV m cv (.slice none 0 0) v4 w4) :
    RefOpenAt w n bs k (w4.setCell ⟨w.heap.size, 2, none⟩ v4) lastV lv v4 (m + 1) (cv ++ [.slice none 0 0]) := by
  obtain ⟨⟨g, c, rfl⟩, hown, hgrow, hat⟩ := hl
  have hlv : cv.length = m := by have := h.crow.1; simpa using this
  have hsz := h.keep.size
  have hq := h.blk.lt
  have keep : ∀ x, x < wr.heap.size → x ≠ w.heap.size → cachV.ownBlock ≠ some x → (w4.setCell ⟨w.heap.size, 2, none⟩ (.slice (some ⟨g, 0, none⟩) (m + 1) c)).heap[x]? = wr.heap[x]? := fun x h1 h3 h4 => by
    rw [Below.heap_setCell _ _ _ _ h3, hgrow.block x (by simp; omega) (fun e => h4 e.symm), Below.heap_alloc _ _ _ h1]
  have hb4 : Blk w4 w.heap.size 43 #[.int .i64 n, lastV, cachV, .slice none 0 0, .int .i64 0, .int .i64 0] :=
    (h.blk.of_eq (Below.heap_alloc wr (.cells #[.slice none 0 0] 31) _ hq)).of_eq (hgrow.block _ (by simp; omega) (fun e => by
      obtain ⟨cur, hc⟩ := own_blk h.crow e.symm
      exact h.blk.ne_ hc (by decide) rfl))
  have hgb : w.heap.size + 1 ≤ g := own_base hown (g := g) rfl
  refine ⟨hb4.set_ 2 _, ownsRow_of_eq h.row (fun x hx => ?_), ownsRow_of_eq hown (fun x hx => Below.heap_setCell _ _ _ _ ?_), fun x hx hcx => ?_, fun i hi => ?_, fun i hi => ?_, ?_⟩
  · have hxb := own_base h.row hx
    exact keep x (own_lt h.row hx) (by omega) (fun e => h.apart x hx e)
  · simp only [Value.ownBlock, Option.some.injEq] at hx
    show x ≠ w.heap.size
    omega
  · have hxl := own_lt h.row hx
    rcases hat with e | e
    · rw [hcx] at e
      exact h.apart x hx e.symm
    · rw [hcx] at e
      simp at e
      omega
  · refine (h.sect i hi).keep fun b hb => keep b hb.lt ?_ ?_
    · exact byb_ne hb h.blk (by decide)
    · intro e
      obtain ⟨cur, hc⟩ := own_blk h.crow e
      exact byb_ne hb hc (by decide) rfl
  · rw [snoc_getD hlv hi]
    split
    · rfl
    · exact h.csect i (by omega)
  · refine ⟨?_, ?_, ?_, ?_, fun b hb' _ => ?_⟩
    · exact hgrow.os.trans h.keep.os
    · exact hgrow.tape.trans h.keep.tape
    · exact hgrow.output.trans h.keep.output
    · have h1 := hgrow.size
      simp [World.setCell] at h1 ⊢
      omega
    · rw [keep b (by omega) (by omega) (fun e => by have := own_base h.crow e; omega)]
      exact h.keep.block b hb' (fun h => h)

/-- a new reference disk -/
def rfresh (n : Nat) (l : List (List Int)) : RS := ⟨n, l, l.map fun _ => none, [], 0, 0⟩
theorem refOpen_done (h : RefOpenAt w n bs m wr lastV lv cachV m cv) (hb : bs.length = m * n) (hn : 1 ≤ n) : RefAt wr w.heap.size (Grow No w wr) (rfresh n (chunks n m bs)) := by
  have hl : (chunks n m bs).length = m := by simp [chunks]
  have hg : ∀ i, i < m → (chunks n m bs).getD i [] = chunk n bs i := fun i hi => by simp [chunks, List.getD, hi]
  have hlt : ∀ b, Grow No w wr b → b < wr.heap.size := fun b hb => by
    rcases hb with hb | hb
    · exact hb.elim
    · exact hb.2
  have hrow : ∀ {v : Value} {xs : List Value}, wr.ownsRow (w.heap.size + 1) 31 1 v m xs → wr.ownsRow 0 31 1 v (chunks n m bs).length xs := fun {v xs} hx => by
    rw [hl]
    refine ⟨hx.1, ?_⟩
    rcases hx.2 with h | ⟨g, cap, cur, e, _, r⟩
    · exact .inl h
    · exact .inr ⟨g, cap, cur, e, Nat.zero_le _, r⟩
  have hfr : ∀ {v : Value} {xs : List Value}, wr.ownsRow (w.heap.size + 1) 31 1 v m xs → ∀ g, v.ownBlock = some g → Grow No w wr g := fun {v xs} hx g hg => .inr ⟨by have := own_base hx hg; omega, own_lt hx hg⟩
  refine ⟨lastV, lv, cachV, cv, .slice none 0 0, ⟨h.blk, .inr ⟨Nat.le_refl _, h.blk.lt⟩, hrow h.row, hfr h.row, hrow h.crow, hfr h.crow, h.apart, fun i hi => ?_, fun i hi => ?_, by simp [rfresh], fun i hi => ?_, fun i b hb => ?_, hn, ⟨by simp [rfresh], .inl ⟨rfl, by simp [rfresh]⟩⟩, (fun g hg => by simp [Value.ownBlock] at hg), hlt⟩⟩
  · have hi : i < m := by rw [← hl]; exact hi
    show Byt wr _ _ ((chunks n m bs).getD i [])
    rw [hg i hi]
    obtain ⟨A, c, e, hc, hx⟩ := h.sect i hi
    refine ⟨A, c, e, hc, fun h0 => ?_⟩
    obtain ⟨b, o, rfl, hb, hcs⟩ := hx h0
    exact ⟨b, o, rfl, ⟨.inr ⟨hb.1, hb.lt⟩, hb.2⟩, hcs⟩
  · have hi : i < m := by rw [← hl]; exact hi
    show ((chunks n m bs).getD i []).length = n
    rw [hg i hi]
    exact chunk_length hb hi
  · have hi : i < m := by rw [← hl]; exact hi
    have e : (rfresh n (chunks n m bs)).cach.getD i none = none := by simp [rfresh, List.getD, hl, hi]
    rw [e]
    exact h.csect i hi
  · have e : (rfresh n (chunks n m bs)).cach.getD i none = none := by
      simp only [rfresh, List.getD, List.getElem?_map]
      cases (chunks n m bs)[i]? <;> rfl
    rw [e] at hb
    cases hb
end

/-- a reference disk in new memory -/
def RefOpens (w : World) (s : RS) (e : Ending) (w' : World) : Prop :=
  ∃ q, e = .returned (.pointer (some ⟨q, 0, none⟩)) ∧ RefAt w' q (Grow No w w') s ∧ Keeps No w w'

set_option maxRecDepth 100000 in
set_option maxHeartbeats 4000000 in
theorem refOpen_ok (w : World) (F : Nat → Prop) (n m : Nat) (v : Value) (bs : List Int) (hv : Bys w F v bs) (hn0 : 1 ≤ n) (hn : n ≤ 4096) (hb : bs.length = m * n) (hm : m ≤ 4096) :
    Calls Try.prog 28 #[.int .i64 n, v] w (RefOpens w (rfresh n (chunks n m bs))) := by
  have hle : m * n ≤ 16777216 := Nat.mul_le_mul hm hn
  have hmod : ((bs.length : Int) % (n : Int) != 0) = false := by
    rw [hb]; simp
  have hdiv : (bs.length : Int) / (n : Int) = (m : Int) := by
    rw [hb, Int.natCast_mul, Int.mul_ediv_cancel _ (by omega)]
  have HV := Lib.hid hv
  obtain ⟨A, c, rfl, hc, _⟩ := hv
  have HB := Lib.hid hb
  have hbl : bs.length ≤ 16777216 := by omega
  have hn1 : (1 : Int) ≤ (n : Int) := by omega
  have hn2 : (n : Int) ≤ 4096 := by omega
  have HN0 := Lib.hid hn0
  clear hb
  go_enter Try.func28, Try.ntmps28
  go_wp2_with fail
  go_loopw [6] (fun i wr => ∃ k : Nat, k ≤ m ∧ i = .int .i64 (k * n : Nat) ∧ ∃ lastV lv cachV cv, RefOpenAt w n bs k wr lastV lv cachV k cv) (fun i _ => bs.length - (intOf i).toNat)
  case atStart =>
    refine ⟨0, Nat.zero_le _, by simp, .slice none 0 0, [], .slice none 0 0, [], ⟨?_, World.ownsRow_nil _ _ _ _, World.ownsRow_nil _ _ _ _, fun g hg => by simp [Value.ownBlock] at hg, fun i hi => absurd hi (by omega), fun i hi => absurd hi (by omega), (Keeps.refl No w).alloc _⟩⟩
    exact Blk.new w 43 #[.int .i64 n, .slice none 0 0, .slice none 0 0, .slice none 0 0, .int .i64 0, .int .i64 0]
  case round =>
    obtain ⟨k, hk, rfl, lastV, lv, cachV, cv, h⟩ := hrel
    have hkn : k * n ≤ m * n := Nat.mul_le_mul_right _ hk
    by_cases hlt : k < m
    · have hkn1 : (k + 1) * n ≤ m * n := Nat.mul_le_mul_right _ hlt
      have hsum : (k + 1) * n = k * n + n := by rw [Nat.add_mul, Nat.one_mul]
      obtain ⟨j, hj⟩ : ∃ j, k * n = j := ⟨_, rfl⟩
      have hbs := HB.out
      have HJ := Lib.hid hj
      rw [hj] at hkn hsum ⊢
      have hjb : j + n ≤ bs.length := by omega
      have hj0 : (0 : Int) ≤ (j : Int) := by omega
      have hj1 : (j : Int) < (bs.length : Int) := by omega
      have hj2 : (j : Int) + (n : Int) ≤ (bs.length : Int) := by omega
      have hj3 : (j : Int) + (n : Int) ≤ (c : Int) := by omega
      have hw1 : IntKind.i64.wrap ((j : Int) + (n : Int)) = (j : Int) + (n : Int) := IntWalk.i64_in _ (by omega)
      have hj4 : (0 : Int) ≤ (j : Int) + (n : Int) := by omega
      have hj5 : ((j : Int) + (n : Int)).toNat = j + n := by omega
      have hj6 : c ≠ j := by omega
      have HS := Lib.hid hsum
      have hbw := HV.out.keeps h.keep (fun _ _ _ h => h)
      obtain ⟨A', c', e, _, hx⟩ := hbw
      obtain ⟨b, o, rfl, hF, hcs⟩ := hx (by omega)
      simp only [Value.slice.injEq, true_and] at e
      obtain ⟨rfl, rfl⟩ := e
      have HCH := Lib.hid (show Bys wr F (.slice (some ⟨b, o + j, none⟩) n (c - j)) (chunk n bs k) by
        unfold chunk
        rw [hj]
        exact bys_cut (i := j) (n := n) (c := c) ⟨_, _, rfl, hc, fun _ => ⟨b, o, rfl, hF, hcs⟩⟩ hjb (by omega))
      have HCL := Lib.hid (chunk_length (k := k) hbs hlt)
      have c1 := h.blk.cell 1
      have f1 := h.blk.frozen 1
      have hpl := h.blk.lt
      have H := Lib.hid h
      simp only [List.getElem?_toArray, List.getElem?_cons_succ, List.getElem?_cons_zero] at c1
      clear h hx hcs hj hsum hbs hkn1 hle hmod hdiv
      go_wp2_with fail
      go_region_law (first
        | (refine step_append (by rfl) _ _ _ (by rfl) (.slice (some ⟨wr.heap.size, 0, none⟩) 0 0) (.slice (some ⟨b, o + j, none⟩) n (c - j)) (by rfl) (by rfl) (Cloned wr (chunk n bs k)) (clone1 HCH.out (by have := HCL.out; omega) (Nat.le_refl _) (heap_alloc_new wr.drew _) ((Keeps.refl No wr).drew.alloc _)) ?_
           rintro v2 w2 hc2
           obtain ⟨A2, c2, rfl⟩ : ∃ A2 c2, v2 = .slice A2 n c2 := (by obtain ⟨A, c, e, _⟩ := hc2.1; exact ⟨A, c, by rw [e, HCL.out]⟩)
           have HC2 := Lib.hid hc2
           have H2 := Lib.hid (H.out.keeps hc2.2)
           have Z2 := H2.out.blk.cell 1
           have ZL := H2.out.blk.lt
           simp only [List.getElem?_toArray, List.getElem?_cons_succ, List.getElem?_cons_zero] at Z2
           clear hc2)
        | (refine step_append (by rfl) _ _ _ (by rfl) lastV (.slice (some ⟨w2.heap.size, 0, none⟩) 1 1) (by rfl) (by rfl) (Longer (w2.alloc (.cells #[.slice A2 n c2] 31)) (w.heap.size + 1) lastV k lv (.slice A2 n c2))
             (append_row (ty := 40) (H2.out.row.alloc _) (heap_alloc_new w2 _) rfl (by omega) (by have := H2.out.keep.size; simp; omega)) ?_
           rintro v4 w4 hl4
           obtain ⟨g4, c4, rfl⟩ := hl4.1
           have HL4 := Lib.hid hl4
           have H4 := Lib.hid (refOpen_last H.out HC2.out hl4)
           have hb4 := longer_blk H2.out.blk H2.out.row (by decide) hl4
           have Z4 := hb4.cell 1
           have F4 := hb4.frozen 1
           simp only [List.getElem?_toArray, List.getElem?_cons_succ, List.getElem?_cons_zero] at Z4
           clear hl4 hb4))
      all_goals
        clear c1 f1 hpl Z2 ZL Z4 F4
        obtain ⟨w5, hw5⟩ : ∃ x, w4.setCell ⟨w.heap.size, 1, none⟩ (.slice (some ⟨g4, 0, none⟩) (k + 1) c4) = x := ⟨_, rfl⟩
        rw [hw5] at H4 ⊢
        have y2 := H4.out.blk.cell 2
        have yl := H4.out.blk.lt
        simp only [List.getElem?_toArray, List.getElem?_cons_succ, List.getElem?_cons_zero] at y2
        obtain ⟨v6, w6, hr6, hl6⟩ := append_row (ty := 40) (w := w5.alloc (.cells #[.slice none 0 0] 31)) (H4.out.crow.alloc _) (heap_alloc_new w5 _) rfl (by omega) (by have := H4.out.keep.size; simp; omega)
        obtain ⟨g6, c6, rfl⟩ := hl6.1
        have hb6 := longer_blk H4.out.blk H4.out.crow (by decide) hl6
        have Z6 := hb6.cell 2
        have F6 := hb6.frozen 2
        simp only [List.getElem?_toArray, List.getElem?_cons_succ, List.getElem?_cons_zero] at Z6
        have R := Lib.hid (refOpen_cach H4.out hl6)
        have HR := Lib.hid hr6
        clear hw5 hr6 hl6 hb6 HL4 HC2 H2 H
        go_wp2_with (at_builtin; refine Lib.wpList_append_run _ rfl _ _ _ _ rfl _ _ rfl rfl _ _ HR.out ?_)
        go_roundw
        case rel => exact ⟨k + 1, by omega, by rw [HS.out]; go_num, _, _, _, _, R.out⟩
        case measure => simp [intOf]; omega
    · obtain rfl : k = m := by omega
      have HR := Lib.hid (refOpen_done h HB.out HN0.out)
      have HK := Lib.hid h.keep
      have hge : decide (k * n < bs.length) = false := by simp [HB.out]
      have hge2 : bs.length ≤ k * n := by rw [HB.out]; exact Nat.le_refl _
      obtain ⟨j, hj⟩ : ∃ j, k * n = j := ⟨_, rfl⟩
      rw [hj] at hge hge2 ⊢
      clear hj h hle hmod hdiv hkn
      go_wp2_with fail
      go_ret
      exact ⟨_, rfl, HR.out, HK.out⟩
end Go.Proofs.Ytconholnjhjhcaa
