/-
  THE WALKS OF THE REFERENCE's fails, Read, Write.
-/
import Derived.Test.YtconholnjhjhcaaRefOpen
import Derived.WalkSpells
namespace Go.Proofs.Ytconholnjhjhcaa
open Ks Go.RowKit

def _root_.Ks.RS.tick (s : RS) : RS := { s with ops := s.ops + 1 }
def _root_.Ks.RS.fails (s : RS) : Bool := decide (((s.ops : Int) + 1) ∈ s.plans)

def RTicked (q : Nat) (F : Nat → Prop) (s : RS) (w : World) (b : Bool) (e : Ending) (w' : World) : Prop :=
  e = .returned (.bool b) ∧ RefAt w' q F s ∧ Keeps F w w'

set_option maxRecDepth 100000 in
set_option maxHeartbeats 2000000 in
theorem refFails_any (w : World) (q : Nat) (F : Nat → Prop) (s : RS) (h : RefAt w q F s) (hops : s.ops < 1000000) (hpl : s.plans.length ≤ 1000000) :
    Calls Try.prog 50 #[.pointer (some ⟨q, 0, none⟩)] w (RTicked q F s.tick w s.fails) := by
  obtain ⟨lastV, lv, cachV, cv, planV, hin⟩ := h
  obtain ⟨AP, cP, rfl⟩ := row_slice hin.prow
  have c4 := hin.c4
  have f4 := hin.blk.frozen 4
  have hb1 : Blk (w.setCell ⟨q, 4, none⟩ (.int .i64 ((s.ops : Int) + 1))) q 43 #[.int .i64 s.size, lastV, cachV, .slice AP s.plans.length cP, .int .i64 ((s.ops : Int) + 1), .int .i64 s.wr] := hin.blk.set_ 4 _
  obtain ⟨w1, hw1⟩ : ∃ x, w.setCell ⟨q, 4, none⟩ (.int .i64 ((s.ops : Int) + 1)) = x := ⟨_, rfl⟩
  rw [hw1] at hb1
  have hk1 : Keeps (fun b => b = q) w w1 := by rw [← hw1]; exact set_keeps q 4 _
  have hin1 : RefIn w1 q F s.tick lastV lv cachV cv (.slice AP s.plans.length cP) := hin.counts hk1 (s.ops + 1) s.wr (by rw [show ((s.ops + 1 : Nat) : Int) = (s.ops : Int) + 1 by omega]; exact hb1)
  have z3 := hin1.c3
  have z4 : w1.cell? ⟨q, 4, none⟩ = some (.int .i64 ((s.ops : Int) + 1)) := hb1.cell 4
  have HIN := Lib.hid hin1
  have HK1 := Lib.hid (hk1.mono (T := F) fun b hb => hb ▸ hin.fq)
  have hwr : IntKind.i64.wrap ((s.ops : Int) + 1) = (s.ops : Int) + 1 := IntWalk.i64_in _ (by omega)
  clear hin hb1 hk1 hin1
  go_enter Try.func50, Try.ntmps50
  go_wp2_with fail
  try rw [hw1]
  clear hw1 c4 f4
  go_loopw [3] (fun i wr => ∃ k : Nat, k ≤ s.plans.length ∧ i = .int .i64 k ∧ (∀ j, j < k → s.plans.getD j 0 ≠ (s.ops : Int) + 1) ∧ ∃ n, wr = w1.drewN n) (fun i _ => s.plans.length - (intOf i).toNat)
  case atStart => exact ⟨0, Nat.zero_le _, rfl, fun j hj => absurd hj (by omega), 0, rfl⟩
  case round =>
    obtain ⟨k, hk, rfl, hno, n, rfl⟩ := hrel
    have HNO := Lib.hid hno
    have hkn : Keeps No w1 (w1.drewN n) := (Keeps.refl No w1).drewN n
    have y3 : (w1.drewN n).cell? ⟨q, 3, none⟩ = some (.slice AP s.plans.length cP) := z3
    have y4 : (w1.drewN n).cell? ⟨q, 4, none⟩ = some (.int .i64 ((s.ops : Int) + 1)) := z4
    have HKN := Lib.hid (HK1.out.trans hkn.no)
    have HRN := Lib.hid (show RefAt (w1.drewN n) q F s.tick from ⟨_, _, _, _, _, HIN.out.keep (fun b hb => hkn.block b (HIN.out.there b hb) (fun h => h)) hkn.size⟩)
    clear hno
    by_cases hlt : k < s.plans.length
    · have hk0 : (0 : Int) ≤ (k : Int) := by omega
      have hk1 : (k : Int) < (s.plans.length : Int) := by omega
      obtain ⟨g, c, cur, e, hc, hblk, hcell⟩ := row_cell_ (show w1.ownsRow 0 3 1 (.slice AP s.plans.length cP) s.plans.length (s.plans.map (Value.int .i64)) from HIN.out.prow) hlt
      simp only [Value.slice.injEq, true_and] at e
      obtain ⟨rfl, rfl⟩ := e
      obtain ⟨x, hx⟩ : ∃ x, s.plans.getD k 0 = x := ⟨_, rfl⟩
      have hcx : (w1.drewN n).cell? ⟨g, k, none⟩ = some (.int .i64 x) := by
        have : (s.plans.map (Value.int .i64)).getD k undef = .int .i64 x := by
          rw [← hx]
          simp [List.getD, hlt]
        rw [← this]
        exact hcell
      have HX := Lib.hid hx
      clear hcell hblk hx
      by_cases hxe : x = (s.ops : Int) + 1
      · have HR := Lib.hid (show s.fails = true by
          unfold RS.fails
          rw [decide_eq_true_eq, ← hxe, ← HX.out]
          simp [List.getD, hlt])
        have hbe : (x == (s.ops : Int) + 1) = true := by simpa using hxe
        clear hxe
        generalize w1.drewN n = w2 at *
        go_wp2_with fail
        go_quiet (fail)
        go_wp2_with fail
        go_ret
        rw [HR.out]
        have hkq : Keeps No w2 (w2.drewN nq) := (Keeps.refl No w2).drewN nq
        exact ⟨rfl, HRN.out.keeps hkq (fun _ _ h => h), HKN.out.trans hkq.no⟩
      · have hbe : (x == (s.ops : Int) + 1) = false := by simpa using hxe
        have R := Lib.hid (show ∀ j, j < k + 1 → s.plans.getD j 0 ≠ (s.ops : Int) + 1 from fun j hj => by
          by_cases e : j = k
          · subst e; rw [HX.out]; exact hxe
          · exact HNO.out j (by omega))
        clear hxe
        obtain ⟨w2, hw2⟩ : ∃ x, w1.drewN n = x := ⟨_, rfl⟩
        have HW2 := Lib.hid hw2
        rw [hw2] at y3 y4 hcx ⊢
        clear hw2 hkn
        go_wp2_with fail
        go_quiet (fail)
        go_wp2_with fail
        go_roundw
        case rel => exact ⟨k + 1, by omega, by go_num, R.out, n + nq, by rw [← HW2.out]; simp [World.drewN_drewN]⟩
        case measure => simp [intOf]; omega
    · obtain rfl : k = s.plans.length := by omega
      have HR := Lib.hid (show s.fails = false by
        unfold RS.fails
        rw [decide_eq_false_iff_not]
        intro hm
        obtain ⟨j, hj, he⟩ := List.getElem_of_mem hm
        exact HNO.out j hj (by simp [List.getD, hj, he]))
      generalize w1.drewN n = w2 at *
      go_wp2_with fail
      go_ret
      rw [HR.out]
      exact ⟨rfl, HRN.out, HKN.out⟩

def _root_.Ks.RS.read (s : RS) (i : Int) : List Int × Int :=
  if s.fails then ([], 3) else if i < 0 ∨ (s.last.length : Int) ≤ i then ([], 2) else ((s.cach.getD i.toNat none).getD (s.last.getD i.toNat []), 0)

/-- bytes in new memory, and an error's number; the reference's disk is as told -/
def RAnswers (q : Nat) (F : Nat → Prop) (s : RS) (w : World) (bs : List Int) (err : Int) (e : Ending) (w' : World) : Prop :=
  ∃ v, e = .returned (.tuple #[v, .int .i64 err]) ∧ Byt w' (From w.heap.size) v bs ∧ RefAt w' q F s ∧ Keeps F w w'

/-- a copy, its value written out -/
theorem clone_slice {w : World} {ty : Nat} {F : Nat → Prop} {u : Value} {bs : List Int} (hu : Bys w F u bs) (hlen : bs.length ≤ 1000000) :
    ∃ A c w', (Builtin.append_ #[31, 31] ty #[.slice (some ⟨w.heap.size, 0, none⟩) 0 0, u]).run Try.prog (w.alloc (.cells #[] 5)) = .ok (.slice A bs.length c) w' ∧ Cloned w bs (.slice A bs.length c) w' := by
  obtain ⟨v, w', hr, hc⟩ := clone1 (ty := ty) hu hlen (Nat.le_refl _) (heap_alloc_new w _) ((Keeps.refl No w).alloc _)
  obtain ⟨A, c, rfl⟩ := Bys.form hc.1
  exact ⟨A, c, w', hr, hc⟩

set_option maxRecDepth 100000 in
set_option maxHeartbeats 2000000 in
theorem refRead_any (w : World) (q : Nat) (F : Nat → Prop) (s : RS) (i : Int) (h : RefAt w q F s) (hops : s.ops < 1000000) (hpl : s.plans.length ≤ 1000000) (_hn : s.last.length ≤ 4096) (hs : s.size ≤ 4096) :
    Calls Try.prog 39 #[.pointer (some ⟨q, 0, none⟩), .int .i64 i] w (RAnswers q F s.tick w (s.read i).1 (s.read i).2) := by
  have q31 : ∀ (w : World) (a : Option Addr) (n c : Nat), (binOp .neq 31 (.slice a n c) (.slice none 0 0)).run Try.prog w = .ok (.bool (!a.isNone)) w := fun w a n c => run_neq_slice_nil_any w _ _ a n c 0 0 Try.underlying31
  have H := Lib.hid h
  clear h
  cases hf : s.fails
  · by_cases h0 : i < 0
    · have HR := Lib.hid (show s.read i = ([], 2) by simp [RS.read, hf, h0])
      have HF := Lib.hid hf
      clear hf
      go_enter Try.func39, Try.ntmps39
      go_wp2_with fail
      refine (refFails_any w q F s H.out hops hpl).mono ?_
      rintro e w1 ⟨rfl, hd, hk⟩
      rw [HF.out]
      have HD := Lib.hid hd
      have HK := Lib.hid hk
      clear hd hk
      go_wp2_with fail
      go_ret2
      rw [HR.out]
      exact ⟨_, rfl, Byt.nil _ _, HD.out, HK.out⟩
    by_cases h1 : (s.last.length : Int) ≤ i
    · have HR := Lib.hid (show s.read i = ([], 2) by simp [RS.read, hf, h1])
      have HF := Lib.hid hf
      have g0 : decide (i < 0) = false := by simp; omega
      clear hf h0
      go_enter Try.func39, Try.ntmps39
      go_wp2_with fail
      refine (refFails_any w q F s H.out hops hpl).mono ?_
      rintro e w1 ⟨rfl, hd, hk⟩
      rw [HF.out]
      obtain ⟨lastV, lv, cachV, cv, planV, hin⟩ := hd
      obtain ⟨AL, cL, rfl⟩ := row_slice hin.row
      have hll : s.tick.last.length = s.last.length := rfl
      have c1 := hin.c1
      rw [hll] at c1
      have HD := Lib.hid (show RefAt w1 q F s.tick from ⟨_, _, _, _, _, hin⟩)
      have HK := Lib.hid hk
      clear hk hin hll
      go_wp2_with fail
      go_ret2
      rw [HR.out]
      exact ⟨_, rfl, Byt.nil _ _, HD.out, HK.out⟩
    obtain ⟨k, rfl⟩ := Int.eq_ofNat_of_zero_le (show 0 ≤ i by omega)
    have hkn : k < s.last.length := by omega
    have HRD := Lib.hid (show s.read (k : Int) = ((s.cach.getD k none).getD (s.last.getD k []), 0) by
      unfold RS.read
      rw [hf, if_neg (by simp), if_neg (by omega)]
      rfl)
    have HF := Lib.hid hf
    have hk0 : (0 : Int) ≤ (k : Int) := by omega
    have hk1 : (k : Int) < (s.last.length : Int) := by omega
    have g0 : decide ((k : Int) < 0) = false := by simp
    clear hf h0 h1
    go_enter Try.func39, Try.ntmps39
    go_wp2_with fail
    refine (refFails_any w q F s H.out hops hpl).mono ?_
    rintro e w1 ⟨rfl, hd, hk⟩
    rw [HF.out]
    obtain ⟨lastV, lv, cachV, cv, planV, hin⟩ := hd
    have hrow : w1.ownsRow 0 31 1 lastV s.last.length lv := hin.row
    have hcrow : w1.ownsRow 0 31 1 cachV s.last.length cv := hin.crow
    obtain ⟨g1, d1, cur1, rfl, hl1, hb1, hc1⟩ := row_cell_ hrow hkn
    obtain ⟨g2, d2, cur2, rfl, hl2, hb2, hc2⟩ := row_cell_ hcrow hkn
    have c1 := hin.c1
    have c2 := hin.c2
    have b1 := hb1.lt
    have b2 := hb2.lt
    have bq := hin.blk.lt
    have hsect := hin.sect k hkn
    have hcac := hin.csect k hkn
    have hlen : (s.last.getD k []).length = s.size := hin.lens k hkn
    have hclen : ∀ bs, s.cach.getD k none = some bs → bs.length = s.size := fun bs h => hin.clens k bs h
    have HD := Lib.hid (show RefAt w1 q F s.tick from ⟨_, _, _, _, _, hin⟩)
    have HK := Lib.hid hk
    clear hk hin hrow hcrow hb1 hb2
    have hcac : Cac w1 F (cv.getD k undef) (s.cach.getD k none) := hcac
    have hsect : Byt w1 F (lv.getD k undef) (s.last.getD k []) := hsect
    cases ho : s.cach.getD k none with
    | none =>
      rw [ho] at hcac HRD
      rw [show cv.getD k undef = .slice none 0 0 from hcac] at hc2
      obtain ⟨x, hx⟩ : ∃ x, s.last.getD k [] = x := ⟨_, rfl⟩
      rw [hx] at hsect hlen HRD
      obtain ⟨Ax, cx, hvx⟩ := Bys.form hsect
      rw [hvx] at hc1 hsect
      obtain ⟨A3, c3, w3, hr3, hcl3⟩ := clone_slice (ty := 31) hsect.bys (by omega)
      have HR3 := Lib.hid hr3
      have R := Lib.hid (show RAnswers q F s.tick w x 0 (.returned (.tuple #[.slice A3 x.length c3, .int .i64 0])) w3 from
        ⟨_, rfl, hcl3.1.mono fun b hb => Nat.le_trans HK.out.size hb, HD.out.keeps hcl3.2 (fun _ _ h => h), HK.out.trans hcl3.2.no⟩)
      clear hcac hsect hvx hr3 hcl3 hx ho hclen hlen
      go_wp2_with (at_builtin; refine Lib.wpList_append_run _ rfl _ _ _ _ rfl _ _ rfl rfl _ _ HR3.out ?_)
      go_ret2
      rw [HRD.out]
      exact R.out
    | some x =>
      rw [ho] at hcac HRD
      have hlx := hclen x ho
      obtain ⟨hbx, hx0⟩ := hcac
      obtain ⟨Ax, cx, hvx, hcx, hax⟩ := hbx
      obtain ⟨b, o, rfl, hB, hcs⟩ := hax hx0
      rw [hvx] at hc2
      have hbx : Byt w1 F (.slice (some ⟨b, o, none⟩) x.length cx) x := ⟨_, _, rfl, hcx, fun _ => ⟨b, o, rfl, hB, hcs⟩⟩
      obtain ⟨A3, c3, w3, hr3, hcl3⟩ := clone_slice (ty := 31) hbx.bys (by omega)
      have HR3 := Lib.hid hr3
      have R := Lib.hid (show RAnswers q F s.tick w x 0 (.returned (.tuple #[.slice A3 x.length c3, .int .i64 0])) w3 from
        ⟨_, rfl, hcl3.1.mono fun b hb => Nat.le_trans HK.out.size hb, HD.out.keeps hcl3.2 (fun _ _ h => h), HK.out.trans hcl3.2.no⟩)
      clear hsect hvx hr3 hcl3 ho hclen hax hcs hB hbx hlen hlx
      go_wp2_with (at_builtin; refine Lib.wpList_append_run _ rfl _ _ _ _ rfl _ _ rfl rfl _ _ HR3.out ?_)
      go_ret2
      rw [HRD.out]
      exact R.out
  · have HR := Lib.hid (show s.read i = ([], 3) by simp [RS.read, hf])
    have HF := Lib.hid hf
    clear hf
    go_enter Try.func39, Try.ntmps39
    go_wp2_with fail
    refine (refFails_any w q F s H.out hops hpl).mono ?_
    rintro e w1 ⟨rfl, hd, hk⟩
    rw [HF.out]
    have HD := Lib.hid hd
    have HK := Lib.hid hk
    clear hd hk
    go_wp2_with fail
    go_ret2
    rw [HR.out]
    exact ⟨_, rfl, Byt.nil _ _, HD.out, HK.out⟩

/-- ..and one sector more is cached -/
def _root_.Ks.RS.put (s : RS) (i : Nat) (bs : List Int) : RS := { s.tick with cach := s.cach.set i (some bs), wr := s.wr + 1 }
def _root_.Ks.RS.write (s : RS) (i : Int) (bs : List Int) : RS × Int :=
  if s.fails then (s.tick, 3) else if i < 0 then (s.tick, 2) else if (s.last.length : Int) ≤ i then (s.tick, 4) else if bs.length ≠ s.size then (s.tick, 1) else (s.put i.toNat bs, 0)

def RTells (q : Nat) (F : Nat → Prop) (s : RS) (w : World) (err : Int) (e : Ending) (w' : World) : Prop :=
  e = .returned (.int .i64 err) ∧ RefAt w' q (Grow F w w') s ∧ Keeps F w w'
theorem _root_.Ks.RefAt.grow {w w' : World} {q : Nat} {F : Nat → Prop} {s : RS} (h : RefAt w' q F s) : RefAt w' q (Grow F w w') s :=
  h.mono (fun _ hb => .inl hb) (fun b hb => by
    rcases hb with hb | hb
    · exact h.there b hb
    · exact hb.2)
theorem _root_.Ks.RefIn.grow {w w' : World} {q : Nat} {F : Nat → Prop} {s : RS} {lastV cachV planV : Value} {lv cv : List Value} (h : RefIn w' q F s lastV lv cachV cv planV) : RefIn w' q (Grow F w w') s lastV lv cachV cv planV :=
  h.mono (fun _ hb => .inl hb) (fun b hb => by
    rcases hb with hb | hb
    · exact h.there b hb
    · exact hb.2)
theorem grow_grow {F : Nat → Prop} {w w1 w2 : World} (h : w.heap.size ≤ w1.heap.size) (h' : w1.heap.size ≤ w2.heap.size) : ∀ b, Grow (Grow F w w1) w1 w2 b → Grow F w w2 b := by
  rintro b ((hb | hb) | hb)
  · exact .inl hb
  · exact .inr ⟨hb.1, Nat.lt_of_lt_of_le hb.2 h'⟩
  · exact .inr ⟨Nat.le_trans h hb.1, hb.2⟩
theorem byt_from {F : Nat → Prop} {w w' : World} {v : Value} {bs : List Int} (h : Byt w' (From w.heap.size) v bs) : Byt w' (Grow F w w') v bs := by
  obtain ⟨A, c, e, hc, hx⟩ := h
  refine ⟨A, c, e, hc, fun h0 => ?_⟩
  obtain ⟨b, o, rfl, hb, hcs⟩ := hx h0
  exact ⟨b, o, rfl, ⟨.inr ⟨hb.1, hb.lt⟩, hb.2⟩, hcs⟩

section
variable {w w1 w2 : World} {q : Nat} {F : Nat → Prop} {s : RS} {lastV planV : Value} {lv cv : List Value}
theorem refWrite_in {g c k : Nat} {bs : List Int} {v : Value} (h : RefIn w1 q F s lastV lv (.slice (some ⟨g, 0, none⟩) s.last.length c) cv planV) (hc : Cloned w1 bs v w2) (hk : k < s.last.length) (hl : bs.length = s.size) :
    RefIn (w2.setCell ⟨g, k, none⟩ v) q (Grow F w1 w2) { s with cach := s.cach.set k (some bs) } lastV lv (.slice (some ⟨g, 0, none⟩) s.last.length c) (cv.set k v) planV := by
  have h2 : RefIn w2 q F s lastV lv (.slice (some ⟨g, 0, none⟩) s.last.length c) cv planV := h.keep (fun b hb => hc.2.block b (h.there b hb) (fun h => h)) hc.2.size
  exact ref_setC (h2.grow (w := w1)) k hk v (some bs) ⟨byt_from hc.1, by have := h.size1; omega⟩ (fun b hb => by injection hb with hb; rw [← hb]; exact hl)
theorem refCount_in {cachV : Value} (h : RefIn w1 q F s lastV lv cachV cv planV) : RefIn (w1.setCell ⟨q, 5, none⟩ (.int .i64 ((s.wr : Int) + 1))) q F { s with wr := s.wr + 1 } lastV lv cachV cv planV := by
  have hb := h.blk.set_ 5 (.int .i64 ((s.wr : Int) + 1))
  exact h.counts (set_keeps q 5 _) s.ops (s.wr + 1) (by rw [show ((s.wr + 1 : Nat) : Int) = (s.wr : Int) + 1 by omega]; exact hb)
end

set_option maxRecDepth 100000 in
set_option maxHeartbeats 2000000 in
theorem refWrite_any (w : World) (q : Nat) (F G : Nat → Prop) (s : RS) (i : Int) (v : Value) (bs : List Int) (h : RefAt w q F s) (hv : Bys w G v bs) (hG : ∀ b, G b → b < w.heap.size → ¬ F b) (hops : s.ops < 1000000) (hpl : s.plans.length ≤ 1000000) (hwr : s.wr < 1000000) (_hn : s.last.length ≤ 4096) (hs : s.size ≤ 4096) (hbl : bs.length ≤ maxLen) :
    Calls Try.prog 38 #[.pointer (some ⟨q, 0, none⟩), .int .i64 i, v] w (RTells q F (s.write i bs).1 w (s.write i bs).2) := by
  have H := Lib.hid h
  have HV := Lib.hid hv
  have HG := Lib.hid hG
  obtain ⟨A, c, rfl⟩ := hv.form
  clear h hv hG
  cases hf : s.fails
  · by_cases h0 : i < 0
    · have HR := Lib.hid (show s.write i bs = (s.tick, 2) by simp [RS.write, hf, h0])
      have HF := Lib.hid hf
      clear hf
      go_enter Try.func38, Try.ntmps38
      go_wp2_with fail
      refine (refFails_any w q F s H.out hops hpl).mono ?_
      rintro e w1 ⟨rfl, hd, hk⟩
      rw [HF.out]
      have HD := Lib.hid (hd.grow (w := w))
      have HK := Lib.hid hk
      clear hd hk
      go_wp2_with fail
      go_ret
      rw [HR.out]
      exact ⟨rfl, HD.out, HK.out⟩
    have hnn : ¬ i < 0 := h0
    by_cases h1 : (s.last.length : Int) ≤ i
    · have HR := Lib.hid (show s.write i bs = (s.tick, 4) by unfold RS.write; rw [hf, if_neg (by simp), if_neg h0, if_pos h1])
      have HF := Lib.hid hf
      clear hf
      go_enter Try.func38, Try.ntmps38
      go_wp2_with fail
      refine (refFails_any w q F s H.out hops hpl).mono ?_
      rintro e w1 ⟨rfl, hd, hk⟩
      rw [HF.out]
      obtain ⟨lastV, lv, cachV, cv, planV, hin⟩ := hd
      obtain ⟨AL, cL, rfl⟩ := row_slice hin.row
      have hll : s.tick.last.length = s.last.length := rfl
      have c1 := hin.c1
      rw [hll] at c1
      have HD := Lib.hid (show RefAt w1 q (Grow F w w1) s.tick from ⟨_, _, _, _, _, hin.grow⟩)
      have HK := Lib.hid hk
      clear hk hin hll
      go_wp2_with fail
      go_ret
      rw [HR.out]
      exact ⟨rfl, HD.out, HK.out⟩
    obtain ⟨k, rfl⟩ := Int.eq_ofNat_of_zero_le (show 0 ≤ i by omega)
    have hkn : k < s.last.length := by omega
    have hk0 : (0 : Int) ≤ (k : Int) := by omega
    have hk1 : (k : Int) < (s.last.length : Int) := by omega
    unfold maxLen at hbl
    by_cases h2 : bs.length = s.size
    · have HR := Lib.hid (show s.write (k : Int) bs = (s.put k bs, 0) by unfold RS.write; rw [hf, if_neg (by simp), if_neg h0, if_neg h1, if_neg (by simpa using h2)]; rfl)
      have HF := Lib.hid hf
      have HL := Lib.hid h2
      have hne : ((bs.length : Int) != (s.size : Int)) = false := by simp [h2]
      have hbs : bs.length ≤ 4096 := by omega
      clear hf h0 h1 h2 hnn
      go_enter Try.func38, Try.ntmps38
      go_wp2_with fail
      refine (refFails_any w q F s H.out hops hpl).mono ?_
      rintro e w1 ⟨rfl, hd, hk⟩
      rw [HF.out]
      obtain ⟨lastV, lv, cachV, cv, planV, hin⟩ := hd
      have hrow : w1.ownsRow 0 31 1 lastV s.last.length lv := hin.row
      have hcrow : w1.ownsRow 0 31 1 cachV s.last.length cv := hin.crow
      obtain ⟨g1, d1, cur1, rfl, hl1, hb1, hc1⟩ := row_cell_ hrow hkn
      obtain ⟨g2, d2, cur2, rfl, hl2, hb2, hc2⟩ := row_cell_ hcrow hkn
      have c0 := hin.c0
      have c1 := hin.c1
      have c2 := hin.c2
      have bq := hin.blk.lt
      have hs0 : s.tick.size = s.size := rfl
      rw [hs0] at c0
      have HB2 := Lib.hid hb2
      have HIN := Lib.hid hin
      have HK := Lib.hid hk
      have HV1 := Lib.hid (HV.out.keeps hk (fun b hb hlt hF => HG.out b hb hlt hF))
      clear hk hin hrow hcrow hb1 hb2 hc1 hc2 hs0
      go_wp2_with fail
      go_region_law (first
        | (refine step_append (by rfl) _ _ _ (by rfl) (.slice (some ⟨w1.heap.size, 0, none⟩) 0 0) (.slice A bs.length c) (by rfl) (by rfl) (Cloned w1 bs) (clone1 HV1.out (by omega) (Nat.le_refl _) (heap_alloc_new w1.drew _) ((Keeps.refl No w1).drew.alloc _)) ?_
           rintro v3 w3 hc3
           obtain ⟨A3, c3, rfl⟩ := Bys.form hc3.1
           have HC3 := Lib.hid hc3
           have hb3 : Blk w3 g2 31 cur2 := HB2.out.of_eq (hc3.2.block _ HB2.out.lt (fun h => h))
           have hq3 : Blk w3 q 43 _ := HIN.out.blk.of_eq (hc3.2.block _ HIN.out.blk.lt (fun h => h))
           have Y2 := hq3.cell 2
           have YF := hb3.frozen k
           obtain ⟨old, YC⟩ : ∃ old, w3.cell? ⟨g2, k, none⟩ = some old := (by
             obtain ⟨_, _, _, e, _, _, hcc⟩ := row_cell_ (w := w1) (show w1.ownsRow 0 31 1 (.slice (some ⟨g2, 0, none⟩) s.last.length d2) s.last.length cv from HIN.out.crow) hkn
             simp only [Value.slice.injEq, Option.some.injEq, Addr.mk.injEq, and_true, true_and] at e
             obtain ⟨rfl, rfl⟩ := e
             exact ⟨_, (hc3.2.cell HB2.out.lt (fun h => h)).trans hcc⟩)
           simp only [List.getElem?_toArray, List.getElem?_cons_succ, List.getElem?_cons_zero] at Y2
           clear hc3 hb3 hq3))
      all_goals
        have hin4 := refWrite_in HIN.out HC3.out hkn (show bs.length = s.tick.size from HL.out)
        have hks : Keeps (fun b => b = g2) w3 (w3.setCell ⟨g2, k, none⟩ (.slice A3 bs.length c3)) := set_keeps g2 k _
        have hk4 : Keeps F w (w3.setCell ⟨g2, k, none⟩ (.slice A3 bs.length c3)) := (HK.out.trans HC3.out.2.no).then hks (fun b hb => .inl (by rw [hb]; exact HIN.out.fcrow g2 rfl))
        have hsz : (w3.setCell ⟨g2, k, none⟩ (.slice A3 bs.length c3)).heap.size = w3.heap.size := by simp [World.setCell]
        obtain ⟨w4, hw4⟩ : ∃ x, w3.setCell ⟨g2, k, none⟩ (.slice A3 bs.length c3) = x := ⟨_, rfl⟩
        rw [hw4] at hin4 hk4 hsz ⊢
        have hin5 := refCount_in hin4
        have hk5 : Keeps F w (w4.setCell ⟨q, 5, none⟩ (.int .i64 ((s.wr : Int) + 1))) := hk4.then (set_keeps q 5 _) (fun b hb => .inl (by rw [hb]; exact HIN.out.fq))
        have R := Lib.hid (show RTells q F (s.put k bs) w 0 (.returned (.int .i64 0)) (w4.setCell ⟨q, 5, none⟩ (.int .i64 ((s.wr : Int) + 1))) from
          ⟨rfl, ⟨_, _, _, _, _, hin5.mono (fun b hb => by
            rcases hb with hb | hb
            · exact .inl hb
            · exact .inr ⟨Nat.le_trans HK.out.size hb.1, by simp [World.setCell]; omega⟩) (fun b hb => by
            rcases hb with hb | hb
            · have := HIN.out.there b hb
              have h2 := HC3.out.2.size
              simp [World.setCell]
              omega
            · exact hb.2)⟩, hk5⟩)
        have c5 : w4.cell? ⟨q, 5, none⟩ = some (.int .i64 s.wr) := hin4.c5
        have f5 := hin4.blk.frozen 5
        have hwp : IntKind.i64.wrap ((s.wr : Int) + 1) = (s.wr : Int) + 1 := IntWalk.i64_in _ (by omega)
        clear hin4 hks hk4 hsz hw4 hin5 hk5 c0 c1 c2 Y2 YF YC bq
        go_wp2_with fail
        go_ret
        rw [HR.out]
        exact R.out
    · have HR := Lib.hid (show s.write (k : Int) bs = (s.tick, 1) by unfold RS.write; rw [hf, if_neg (by simp), if_neg h0, if_neg h1, if_pos h2])
      have HF := Lib.hid hf
      have hne : ((bs.length : Int) != (s.size : Int)) = true := by simp; omega
      clear hf h0 h1 h2 hnn
      go_enter Try.func38, Try.ntmps38
      go_wp2_with fail
      refine (refFails_any w q F s H.out hops hpl).mono ?_
      rintro e w1 ⟨rfl, hd, hk⟩
      rw [HF.out]
      obtain ⟨lastV, lv, cachV, cv, planV, hin⟩ := hd
      obtain ⟨AL, cL, rfl⟩ := row_slice hin.row
      have hll : s.tick.last.length = s.last.length := rfl
      have hs0 : s.tick.size = s.size := rfl
      have c0 := hin.c0
      have c1 := hin.c1
      rw [hll] at c1
      rw [hs0] at c0
      have HD := Lib.hid (show RefAt w1 q (Grow F w w1) s.tick from ⟨_, _, _, _, _, hin.grow⟩)
      have HK := Lib.hid hk
      clear hk hin hll hs0
      go_wp2_with fail
      go_ret
      rw [HR.out]
      exact ⟨rfl, HD.out, HK.out⟩
  · have HR := Lib.hid (show s.write i bs = (s.tick, 3) by simp [RS.write, hf])
    have HF := Lib.hid hf
    clear hf
    go_enter Try.func38, Try.ntmps38
    go_wp2_with fail
    refine (refFails_any w q F s H.out hops hpl).mono ?_
    rintro e w1 ⟨rfl, hd, hk⟩
    rw [HF.out]
    have HD := Lib.hid (hd.grow (w := w))
    have HK := Lib.hid hk
    clear hd hk
    go_wp2_with fail
    go_ret
    rw [HR.out]
    exact ⟨rfl, HD.out, HK.out⟩
end Go.Proofs.Ytconholnjhjhcaa
