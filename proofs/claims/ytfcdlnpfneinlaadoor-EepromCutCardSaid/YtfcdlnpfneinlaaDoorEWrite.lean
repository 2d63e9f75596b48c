/-
  THE WALK OF (*Chip).write.
-/
import Derived.Test.YtfcdlnpfneinlaaDoorEColl
namespace Go.Proofs.YtfcdlnpfneinlaaDoor
open Go.RowKit
set_option maxRecDepth 20000

theorem pairsL_getL (l : List Int) (xs : List (Int × Int)) (i : Nat) (hi : i < l.length) : (pairsL l xs).getD i 0 = (getL xs i).getD (l.getD i 0) := by
  induction xs using snoc_rec with
  | h0 => rfl
  | h1 xs x ih =>
    rw [pairsL_snoc, putL_get _ _ _ _ (by rw [pairsL_len]; exact hi), getL_snoc]
    split
    · rfl
    · exact ih
theorem OwnK.put {k : IntKind} {t base d n c : Nat} {w : World} {l : List Int} (h : OwnK k t base w (.slice (some ⟨d, 0, none⟩) n c) l) (hn : n = l.length) (i : Nat) (v : Int) :
    OwnK k t base (w.setCell ⟨d, i, none⟩ (.int k v)) (.slice (some ⟨d, 0, none⟩) n c) (l.set i v) := by
  subst hn
  have := (World.ownsRow.stored (w := w) h i (.int k v)).1
  unfold OwnK
  rw [List.length_set, List.map_set]
  exact this
theorem ChipIn.put {w : World} {p d cap l : Nat} {cm wm : Option Nat} {F : Nat → Prop} {s : Chip} (h : ChipIn w p d cap l cm wm F s) (i : Nat) (c : Int) :
    ChipIn (w.setCell ⟨d, i, none⟩ (.int .u8 c)) p d cap l cm wm F { s with data := s.data.set i c } ∧ Keeps F w (w.setCell ⟨d, i, none⟩ (.int .u8 c)) := by
  have he : ∀ b, b ≠ d → (w.setCell ⟨d, i, none⟩ (.int .u8 c)).heap[b]? = w.heap[b]? := fun b hb => Below.heap_setCell _ _ _ _ hb
  have hk : Keeps F w (w.setCell ⟨d, i, none⟩ (.int .u8 c)) := (Keeps.refl F w).set_ (p := ⟨d, i, none⟩) (.inl h.fd) _
  obtain ⟨cur, hd⟩ := h.d_blk
  refine ⟨{ h with blk := ?_, data := ?_, line := ?_, coll := ?_, wait := ?_, tab := tab_keeps h.tab hk h.ft, there := fun b hb => Nat.lt_of_lt_of_le (h.there b hb) hk.size }, hk⟩
  · have := h.blk.of_eq (he p h.p_ne_d.symm)
    unfold cellsOf at this ⊢
    simpa using this
  · have := h.data.put rfl i c
    simpa using this
  · exact Blk.of_eq h.line (he _ (Blk.ne_ h.line hd (by decide)))
  · exact h.coll.keep fun b hb => he b (by obtain ⟨es, clock, h1⟩ := h.coll.blk hb; exact not_blk hd h1)
  · exact h.wait.keep fun b hb => he b (by obtain ⟨es, clock, h1⟩ := h.wait.blk hb; exact not_blk hd h1)

/-- where the loop stands -/
def WAt (W : World) (p d cap l mb r n : Nat) (cm : Option Nat) (F : Nat → Prop) (s : Chip) (D : DataW Unit) (wr : World) : Prop :=
  ∃ left cnt dl, wr.ranges Tryd.prog 3 plainB mb r n D left cnt ∧ ChipIn wr p d cap l cm (some mb) F { s with data := dl } ∧ dl.length = s.data.length ∧
    (∀ i : Nat, i < s.data.length → dl.getD i 0 = if left (K i) then s.data.getD i 0 else (getL s.wait i).getD (s.data.getD i 0)) ∧ Keeps F W wr
theorem wat_start {W w0 : World} {p d cap l mb r n : Nat} {cm : Option Nat} {F : Nat → Prop} {s : Chip} {D : DataW Unit} {cnt : Nat} (h : ChipIn W p d cap l cm (some mb) F s) (hR : Reads D s.wait)
    (hr : w0.ranges Tryd.prog 3 plainB mb r n D (Maps.has D) cnt) (hg : W.grownBy w0 none) : WAt W p d cap l mb r n cm F s D w0 := by
  have hk : Keeps F W w0 := (Keeps.of_grown hg).mono fun b e => by cases e
  refine ⟨_, _, s.data, hr, h.keep (fun b hb => hg.block b (h.there b hb) (by simp)) hg.size (tab_keeps h.tab hk h.ft), rfl, fun i hi => ?_, hk⟩
  split
  · rfl
  · rename_i e
    rw [hR.has] at e
    cases hq : getL s.wait i with
    | none => rfl
    | some c => rw [hq] at e; exact absurd rfl e
theorem wat_step {W wr w1 : World} {p d cap l mb r n : Nat} {cm : Option Nat} {F : Nat → Prop} {s : Chip} {D : DataW Unit} {left : Lit → Bool} {cnt' : Nat} {dl : List Int} {x c : Int} (hrF : ∀ b, F b → b ≠ r)
    (hR : Reads D s.wait) (hw : ∀ y ∈ s.wait, (0 ≤ y.1 ∧ y.1 < s.size) ∧ 0 ≤ y.2 ∧ y.2 ≤ 255)
    (h : ChipIn wr p d cap l cm (some mb) F { s with data := dl }) (hl : dl.length = s.data.length) (hd : ∀ i : Nat, i < s.data.length → dl.getD i 0 = if left (K i) then s.data.getD i 0 else (getL s.wait i).getD (s.data.getD i 0)) (hk : Keeps F W wr)
    (hat : ∀ zd, D.atKey (K x) zd = .lit (.int .u8 c)) (hr : w1.ranges Tryd.prog 3 plainB mb r n D (fun z => left z && !z.sameKey (K x)) cnt') (hg : wr.grownBy w1 (some r)) (hWr : W.heap.size ≤ r) (hTW : Tab W) :
    0 ≤ x ∧ x < (s.data.length : Int) ∧ ChipIn w1 p d cap l cm (some mb) F { s with data := dl } ∧ WAt W p d cap l mb r n cm F s D (w1.setCell ⟨d, x.toNat, none⟩ (.int .u8 c)) ∧
      (w1.setCell ⟨d, x.toNat, none⟩ (.int .u8 c)).ranges Tryd.prog 3 plainB mb r n D (fun z => left z && !z.sameKey (K x)) cnt' := by
  have hx : getL s.wait x = some c := by
    have := hR x
    cases hq : getL s.wait x with
    | none => rw [hq] at this; rw [Maps.has_true_of_atKey hat] at this; cases this
    | some c' =>
      rw [hq] at this
      have e := (this (.lit (.int .u8 0))).symm.trans (hat _)
      simp only [DataW.lit.injEq, Lit.int.injEq, true_and] at e
      rw [e]
  have hxm := (hw _ (getL_mem hx)).1
  unfold Chip.size at hxm
  simp only at hxm
  have hk1 : Keeps F W w1 := hk.grown hg fun b e => by simp at e; exact .inr (by omega)
  have h1 : ChipIn w1 p d cap l cm (some mb) F { s with data := dl } := h.keep (fun b hb => hg.block b (h.there b hb) (fun e => hrF b hb (by simpa using e))) hg.size (tab_keeps h.tab (Keeps.of_grown hg) (fun e => by have := tab_pos hTW; simp at e; omega))
  obtain ⟨h2, hk2⟩ := h1.put x.toNat c
  obtain ⟨cur, hdb⟩ := h1.d_blk
  have hmd : mb ≠ d := by obtain ⟨es, clock, e⟩ := h1.wait.blk rfl; exact not_blk hdb e
  have hr2 := hr.kept (row := some d) (w' := w1.setCell ⟨d, x.toNat, none⟩ (.int .u8 c)) ⟨rfl, rfl, rfl, by simp, fun k _ hk => heap_setCell_other w1 ⟨d, x.toNat, none⟩ k _ (fun e => hk (by simp [e]))⟩ (fun e => hmd (by simpa using e)) (fun e => hrF _ h1.fd (by simpa using e.symm))
  refine ⟨hxm.1, hxm.2, h1, ⟨_, _, dl.set x.toNat c, hr2, h2, by rw [List.length_set]; exact hl, fun i hi => ?_, hk1.trans hk2⟩, hr2⟩
  by_cases e : (i : Int) = x
  · subst e
    rw [WideAt.sameKey_self (K_key _), hx]
    simp [List.getD, show i < dl.length by omega]
  · have hs : (K i).sameKey (K x) = false := Maps.sameKey_ne (K_ne e)
    simp only [hs, Bool.not_false, Bool.and_true]
    rw [← hd i hi]
    have hn : x.toNat ≠ i := by omega
    simp [List.getD, hn]
theorem wat_done {s : Chip} {left : Lit → Bool} {dl : List Int} (hl : dl.length = s.data.length)
    (hd : ∀ i : Nat, i < s.data.length → dl.getD i 0 = if left (K i) then s.data.getD i 0 else (getL s.wait i).getD (s.data.getD i 0)) (h0 : ∀ kl, left kl = false) : dl = pairsL s.data s.wait := by
  refine ext_getD (by rw [pairsL_len, hl]) fun j hj => ?_
  rw [pairsL_getL _ _ _ (by omega), hd j (by omega), h0]
  rfl
/-- the map that waited is gone -/
theorem ChipIn.gone {w w' : World} {p d cap l : Nat} {cm wm : Option Nat} {F : Nat → Prop} {s : Chip} (h : ChipIn w p d cap l cm wm F s) (hk : Keeps (fun b => b = p) w w')
    (hb : Blk w' p 70 (cellsOf p (.slice (some ⟨d, 0, none⟩) s.data.length cap) l cm none { s with wait := [] })) : ChipIn w' p d cap l cm none F { s with wait := [] } := by
  have he : ∀ b, b < w.heap.size → b ≠ p → w'.heap[b]? = w.heap[b]? := fun b hb hn => hk.block b hb hn
  refine { h with blk := hb, data := ?_, line := ?_, coll := ?_, wait := MapIs.nil, apart := (fun _ b _ e => by cases e), tab := ?_, fw := (fun b e => by cases e), there := fun b hb => Nat.lt_of_lt_of_le (h.there b hb) hk.size }
  · exact h.data.same fun g hg => by
      simp [Value.ownBlock] at hg
      subst hg
      exact he _ (h.there _ h.fd) h.p_ne_d
  · exact Blk.of_eq h.line (he _ (h.there _ h.fl) (Blk.ne_ h.line h.blk (by decide)))
  · exact h.coll.keep fun b hb => he b (h.coll.lt hb) (by
      obtain ⟨es, clock, h1⟩ := h.coll.blk hb
      exact not_blk h.blk h1)
  · exact tab_keeps h.tab hk (fun e => h.ft (by rw [e]; exact h.fp))

set_option maxRecDepth 100000 in
set_option maxHeartbeats 4000000 in
theorem write_any (w : World) (p : Nat) (F : Nat → Prop) (s : Chip) (n : Int) (h : ChipAt w p F s) (hok : s.Ok n) :
    Calls Tryd.prog 41 #[.pointer (some ⟨p, 0, none⟩)] w (Did p F s.write w) := by
  have HT := Lib.hid h.tab
  have HW0 := Lib.hid h.went
  obtain ⟨d, cap, l, cm, wm, hin⟩ := h
  have HI := Lib.hid hin
  have HK := Lib.hid hok
  have f14 := hin.blk.frozen 14
  have c14 := hin.blk.cell 14
  simp only [cellsOf, List.getElem?_toArray, List.getElem?_cons_zero, List.getElem?_cons_succ] at c14
  obtain ⟨t, ht⟩ : ∃ t, s.left = t := ⟨_, rfl⟩
  have htb := hok.left
  rw [ht] at c14 htb
  obtain ⟨ht0, ht1⟩ := htb
  by_cases h0 : t = 0
  · subst h0
    have HR := Lib.hid (show s.write = s by unfold Chip.write; rw [if_pos ht])
    clear hin hok ht
    go_enter Tryd.func41, Tryd.ntmps41
    go_wp2_with fail
    go_end0
    rw [HR.out]
    exact ⟨rfl, HW0.out⟩
  · have h0' : (t == 0) = false := by simp [h0]
    by_cases h1 : t = 1
    · subst h1
      have HR := Lib.hid (show s.write = { s with left := 0, data := pairsL s.data s.wait, wait := [] } by unfold Chip.write; rw [if_neg (by omega), if_neg (by omega), ht]; rfl)
      obtain ⟨mb, D, rfl, hne, hown, hRd⟩ : ∃ b D, wm = some b ∧ s.wait ≠ [] ∧ w.ownsMap Tryd.prog 3 plainB b s.wait.length D ∧ Reads D s.wait := by
        rcases hin.wait with ⟨_, h⟩ | h
        · exact absurd h (hok.busy.1 (by omega))
        · exact h
      obtain ⟨hI1, hk1⟩ := hin.sets_in (cm' := cm) [(14, .int .i64 0)] { s with left := 0 } rfl rfl rfl rfl (.inl ⟨rfl, rfl, rfl⟩)
      simp only [List.foldl] at hI1 hk1
      have hmp : mb ≠ p := by obtain ⟨es, clock, e⟩ := hin.wait.blk rfl; exact not_blk hin.blk e
      have HOWN := Lib.hid (ownsMap_of_eq hown (hk1.block mb hown.lt hmp))
      have HI1 := Lib.hid hI1
      have HK1 := Lib.hid hk1
      have HRd := Lib.hid hRd
      have HWt := Lib.hid hok.wait
      have c13 := hin.blk.cell 13
      simp only [cellsOf, List.getElem?_toArray, List.getElem?_cons_zero, List.getElem?_cons_succ] at c13
      clear hin hok ht h0 h0' hne hown hI1 hk1 hRd hmp
      go_enter Tryd.func41, Tryd.ntmps41
      go_wp2_with (first
        | (at_range; refine wpList_range_own _ rfl _ 68 rfl 3 5 law3 Tryd.underlying68 _ mb s.wait.length D rfl HOWN.out ?_; intro w0 hrg0 hg0 hs0))
      go_frame
      have HST := Lib.hid (wat_start HI1.out HRd.out hrg0 hg0)
      have HS0 := Lib.hid (show (w.setCell ⟨p, 14, none⟩ (.int .i64 0)).heap.size ≤ (w.setCell ⟨p, 14, none⟩ (.int .i64 0)).heap.size from Nat.le_refl _)
      have HTW := Lib.hid HI1.out.tab
      have HTH := Lib.hid HI1.out.there
      clear hrg0 hg0 hs0 f14 c14 c13
      generalize w.setCell ⟨p, 14, none⟩ (.int .i64 0) = W at *
      obtain ⟨r0, hr0⟩ : ∃ r, W.heap.size = r := ⟨_, rfl⟩
      rw [hr0] at HST ⊢
      have HR0 := Lib.hid hr0
      clear hr0
      go_loopw [2, 3] (fun _ _ wr2 => WAt W p d cap l mb r0 s.wait.length cm F { s with left := 0 } D wr2) (fun _ _ wr2 => wr2.rangeLeft mb r0)
      case atStart => exact HST.out
      case round =>
        obtain ⟨left, cnt, dl, r1, r2, r3, r4, r5⟩ := hrel
        have R1 := Lib.hid r1
        have R2 := Lib.hid r2
        have R3 := Lib.hid r3
        have R4 := Lib.hid r4
        have R5 := Lib.hid r5
        clear r1 r2 r3 r4 r5
        go_wp2_with (first
          | (at_next; refine wpList_next_ranges_ii _ rfl _ rfl 3 5 .i64 .u8 law3 Tryd.underlying3 Tryd.underlying5 mb r0 s.wait.length _ _ _ rfl R1.out ?_ ?_))
        · intro hc0 hl0
          have HE := Lib.hid (wat_done R3.out R4.out hl0)
          have c13 := R2.out.blk.cell 13
          have f13 := R2.out.blk.frozen 13
          simp only [cellsOf, List.getElem?_toArray, List.getElem?_cons_zero, List.getElem?_cons_succ] at c13
          clear hl0
          go_wp2_with fail
          go_end0
          rw [HR.out]
          have hk2 : Keeps (fun b => b = p) wr (wr.setCell ⟨p, 13, none⟩ (.map none)) := (Keeps.refl (fun b => b = p) wr).set_ (p := ⟨p, 13, none⟩) (.inl rfl) _
          have hg := R2.out.gone hk2 (R2.out.blk.set_ 13 (.map none))
          have he := HE.out
          rw [show dl = pairsL s.data s.wait from he] at hg
          exact ⟨rfl, Went.of HT.out ⟨_, _, _, _, _, hg⟩ ((HK1.out.mono (T := F) fun b e => by rw [e]; exact HI.out.fp).trans (R5.out.trans (hk2.mono fun b e => by rw [e]; exact HI.out.fp)))⟩
        · intro x c w1 cnt1 hwx hwc hlx hat hrg1 hlt1 hg1 hs1 hen
          obtain ⟨hx0, hx1, h1, hwat, hrg2⟩ := wat_step (s := { s with left := 0 }) (fun b hb e => by have := HTH.out b hb; have := HR0.out; omega) HRd.out HWt.out R2.out R3.out R4.out R5.out hat hrg1 hg1 (by rw [HR0.out]; exact Nat.le_refl _) HTW.out
          have HA := Lib.hid hwat
          have HB := Lib.hid hrg2
          obtain ⟨z, hz⟩ : ∃ z, s.data.length = z := ⟨_, rfl⟩
          have hx1 : x < (s.data.length : Int) := hx1
          have hdz : dl.length = z := R3.out.trans hz
          have c1 := h1.blk.cell 1
          have cd := h1.byte_at x.toNat (by show x.toNat < dl.length; omega)
          obtain ⟨cur, hdb⟩ := h1.d_blk
          have fd := hdb.frozen x.toNat
          simp only [cellsOf, List.getElem?_toArray, List.getElem?_cons_zero, List.getElem?_cons_succ] at c1
          rw [hdz] at c1
          rw [hz] at hx1
          clear hwat hrg2 h1 hat hrg1 hg1 hs1 hwx hwc hlx hdz hdb hz
          go_wp2_with fail
          go_roundw
          case rel => exact HA.out
          case measure => rw [HB.out.left_eq, R1.out.left_eq]; exact hlt1
    · have HR := Lib.hid (show s.write = { s with left := t - 1 } by unfold Chip.write; rw [if_neg (by omega), if_pos (by omega), ht])
      have h2 : 0 < t - 1 := by omega
      clear hin hok ht h0 h1
      go_enter Tryd.func41, Tryd.ntmps41
      go_wp2_with fail
      go_end0
      rw [HR.out]
      exact ⟨rfl, HI.out.sets (cm' := cm) [(14, .int .i64 (t - 1))] { s with left := t - 1 } rfl rfl rfl rfl (.inl ⟨rfl, rfl, rfl⟩)⟩
end Go.Proofs.YtfcdlnpfneinlaaDoor
