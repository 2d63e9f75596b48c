/-
  THE WALK OF told.
-/
import Derived.Test.YtconholnjhjhcaaRefRest
namespace Go.Proofs.Ytconholnjhjhcaa
open Ks Go.RowKit

/-- what an operation does to the reference's disk, and is told -/
def ract (s : RS) (o : OpD) : RS :=
  if o.kind = 0 then (s.write o.i o.b).1 else if o.kind = 1 then s.tick else if o.kind = 2 then s.sync.1 else if o.kind = 3 then s.crash o.tears
  else if o.kind = 4 then (if 0 < o.i ∧ o.i < 1000 then { s with plans := s.plans ++ [(s.ops : Int) + o.i] } else s) else s
def rsaid (s : RS) (o : OpD) : List Int × Int :=
  if o.kind = 0 then ([], (s.write o.i o.b).2) else if o.kind = 1 then s.read o.i else if o.kind = 2 then ([], s.sync.2) else ([], 0)
def _root_.Ks.RS.fits (s : RS) (N : Nat) : Prop := s.ops ≤ N ∧ s.wr ≤ N ∧ s.plans.length ≤ N ∧ s.last.length ≤ 4096 ∧ s.size ≤ 1000

def RDoPost (q : Nat) (F : Nat → Prop) (s : RS) (w : World) (bs : List Int) (err : Int) (e : Ending) (w' : World) : Prop :=
  ∃ v, e = .returned (.tuple #[v, .int .i64 err]) ∧ Byt w' (From w.heap.size) v bs ∧ RefAt w' q (Grow F w w') s ∧ Keeps F w w'
theorem ref_before {F : Nat → Prop} {w w1 w' : World} {q : Nat} {s : RS} (h : RefAt w' q (Grow F w1 w') s) (hk : w.heap.size ≤ w1.heap.size) : RefAt w' q (Grow F w w') s := by
  refine h.mono (fun b hb => ?_) (fun b hb => ?_)
  · rcases hb with hb | hb
    · exact .inl hb
    · exact .inr ⟨Nat.le_trans hk hb.1, hb.2⟩
  · rcases hb with hb | hb
    · exact h.there b (.inl hb)
    · exact hb.2

section
variable {w w1 w4 : World} {q : Nat} {F : Nat → Prop} {s : RS} {lastV cachV planV : Value} {lv cv : List Value}
/-- one plan more -/
def Planned (w : World) (v : Value) (ps : List Int) (x : Int) (v' : Value) (w' : World) : Prop :=
  (∃ g c, v' = .slice (some ⟨g, 0, none⟩) (ps.length + 1) c) ∧ w'.ownsRow 0 3 1 v' (ps.length + 1) ((ps ++ [x]).map (Value.int .i64)) ∧ w.grownBy w' v.ownBlock ∧ (v'.ownBlock = v.ownBlock ∨ v'.ownBlock = some w.heap.size)
theorem append_plan {ty g : Nat} {v : Value} {ps : List Int} {x : Int} (hown : w.ownsRow 0 3 1 v ps.length (ps.map (Value.int .i64))) (hb : w.heap[g]? = some (.cells #[.int .i64 x] 3 (0, 0))) (hk : ps.length ≤ 1000000) :
    ∃ v' w', (Builtin.append_ #[41, 41] ty #[v, .slice (some ⟨g, 0, none⟩) 1 1]).run Try.prog w = .ok v' w' ∧ Planned w v ps x v' w' := by
  obtain ⟨i0, hi, hz0, hz1, hz2⟩ := info_parts info3
  obtain ⟨v', w', hr, h2, h3, _, h5⟩ := run_append_own_at (P := Try.prog) w 0 41 ty 3 i0 _ 1 8 Try.underlying41 hi hz0 hz1 hz2 rfl (by omega) v _ _ hown ⟨g, 0, none⟩ 1 1 [.int .i64 x] rfl (World.news_of_block (cs := #[.int .i64 x]) (t := 3) (fr := (0, 0)) hb) (by simp [Value.oneCell']) (by unfold maxLen; omega) (by omega) (Nat.zero_le _)
  refine ⟨v', w', hr, ?_, by simpa using h2, h3, h5⟩
  rcases h2.2 with ⟨_, h0⟩ | ⟨g', cap, cur, rfl, _⟩
  · omega
  · exact ⟨g', cap, rfl⟩

theorem planned_blk {x : Int} {v : Value} (h : RefIn w1 q F s lastV lv cachV cv planV) (hp : Planned (w1.alloc (.cells #[.int .i64 x] 3)) planV s.plans x v w4) : Blk w4 q 43 #[.int .i64 s.size, lastV, cachV, planV, .int .i64 s.ops, .int .i64 s.wr] := by
  obtain ⟨_, _, hgrow, _⟩ := hp
  exact (h.blk.of_eq (Below.heap_alloc w1 (.cells #[.int .i64 x] 3) _ h.blk.lt)).of_eq (hgrow.block _ (by have := h.blk.lt; simp; omega) (fun e => h.q_row.2.2 e.symm))
theorem planned_in {x : Int} {v : Value} (h : RefIn w1 q F s lastV lv cachV cv planV) (hp : Planned (w1.alloc (.cells #[.int .i64 x] 3)) planV s.plans x v w4) :
    RefAt (w4.setCell ⟨q, 3, none⟩ v) q (Grow F w1 (w4.setCell ⟨q, 3, none⟩ v)) { s with plans := s.plans ++ [x] } ∧ Keeps F w1 (w4.setCell ⟨q, 3, none⟩ v) := by
  have hb4 := planned_blk h hp
  obtain ⟨⟨g, c, rfl⟩, hown, hgrow, hat⟩ := hp
  have hsz : (w4.setCell ⟨q, 3, none⟩ (.slice (some ⟨g, 0, none⟩) (s.plans.length + 1) c)).heap.size = w4.heap.size := by simp [World.setCell]
  have hs4 : w1.heap.size + 1 ≤ w4.heap.size := by have := hgrow.size; simpa using this
  have keep : ∀ x', x' < w1.heap.size → x' ≠ q → planV.ownBlock ≠ some x' → (w4.setCell ⟨q, 3, none⟩ (.slice (some ⟨g, 0, none⟩) (s.plans.length + 1) c)).heap[x']? = w1.heap[x']? := fun x' h1 h3 h4 => by
    rw [Below.heap_setCell _ _ _ _ h3, hgrow.block x' (by simp; omega) (fun e => h4 e.symm), Below.heap_alloc _ _ _ h1]
  have hgq : g ≠ q := by
    rintro rfl
    obtain ⟨cur, hc⟩ := row_of hown (g := g) rfl
    exact hb4.ne_ hc (by decide) rfl
  have hFg : ∀ b, F b → Grow F w1 (w4.setCell ⟨q, 3, none⟩ (.slice (some ⟨g, 0, none⟩) (s.plans.length + 1) c)) b := fun b hb => .inl hb
  have hrow : ∀ {u : Value} {xs : List Value}, w1.ownsRow 0 31 1 u s.last.length xs → u.ownBlock ≠ some q → (w4.setCell ⟨q, 3, none⟩ (.slice (some ⟨g, 0, none⟩) (s.plans.length + 1) c)).ownsRow 0 31 1 u s.last.length xs := fun hx hq =>
    ownsRow_of_eq hx fun b hb => by
      obtain ⟨cur, hc⟩ := row_of hx hb
      refine keep b hc.lt (fun e => hq (e ▸ hb)) (fun e => ?_)
      obtain ⟨cur', hc'⟩ := row_of h.prow e
      exact hc.ne_ hc' (by decide) rfl
  have hbyt : ∀ {v : Value} {bs : List Int}, Byt w1 F v bs → Byt (w4.setCell ⟨q, 3, none⟩ (.slice (some ⟨g, 0, none⟩) (s.plans.length + 1) c)) F v bs := fun hv => hv.keep fun b hb => by
    have hn := h.apart_bytes hb
    exact keep b hb.lt (fun e => hn (.inl e)) (fun e => hn (.inr (.inr (.inr e))))
  refine ⟨⟨lastV, lv, cachV, cv, .slice (some ⟨g, 0, none⟩) (s.plans.length + 1) c, ⟨hb4.set_ 3 _, hFg _ h.fq, hrow h.row h.q_row.1, fun b hb => hFg b (h.frow b hb), hrow h.crow h.q_row.2.1, fun b hb => hFg b (h.fcrow b hb), h.apart,
    fun i hi => (hbyt (h.sect i hi)).mono hFg, h.lens, h.clen, fun i hi => ?_, h.clens, h.size1, ?_, fun b hb => ?_, fun b hb => ?_⟩⟩, ?_⟩
  · have := h.csect i hi
    cases ho : s.cach.getD i none with
    | none => rw [ho] at this; exact this
    | some x => rw [ho] at this; exact ⟨(hbyt this.1).mono hFg, this.2⟩
  · simp only [List.length_append, List.length_cons, List.length_nil]
    exact ownsRow_of_eq hown fun b hb => Below.heap_setCell _ _ _ _ (by
      simp only [Value.ownBlock, Option.some.injEq] at hb
      show b ≠ q
      omega)
  · simp only [Value.ownBlock, Option.some.injEq] at hb
    subst hb
    rcases hat with e | e
    · exact .inl (h.fprow g e.symm)
    · simp only [Value.ownBlock, Option.some.injEq] at e
      simp at e
      obtain ⟨cur, hc⟩ := row_of hown (g := g) rfl
      have := hc.lt
      exact .inr ⟨by omega, by rw [hsz]; exact this⟩
  · rcases hb with hb | hb
    · have := h.there b hb
      rw [hsz]
      omega
    · exact hb.2
  · refine ⟨hgrow.os, hgrow.tape, hgrow.output, by rw [hsz]; omega, fun b hb hF => keep b hb (fun e => hF (e ▸ h.fq)) (fun e => hF (h.fprow b e))⟩
end

set_option maxRecDepth 100000 in
set_option maxHeartbeats 8000000 in
theorem told_any (w : World) (q : Nat) (F G : Nat → Prop) (s : RS) (o : OpD) (bv tv : Value) (h : RefAt w q F s) (hv : OpVals w G bv tv o) (hok : o.ok) (hG : ∀ b, G b → b < w.heap.size ∧ ¬ F b) (hf : s.fits 900000) (htl : o.tears.length ≤ 1000000) (htt : ∀ t ∈ o.tears, t.2.length ≤ 1000) :
    Calls Try.prog 16 #[.pointer (some ⟨q, 0, none⟩), .agg #[.int .u8 o.kind, .int .i64 o.i, bv, tv]] w (RDoPost q F (ract s o) w (rsaid s o).1 (rsaid s o).2) := by
  obtain ⟨hf1, hf2, hf3, hf4, hf5⟩ := hf
  obtain ⟨A1, c1, rfl⟩ := hv.1.form
  obtain ⟨A2, c2, rfl⟩ := hv.2.form
  have hkw : Keeps No w (w.alloc (.cells #[.int .u8 o.kind, .int .i64 o.i, .slice A1 o.b.length c1, .slice A2 o.tears.length c2] 36)) := (Keeps.refl No w).alloc _
  have HD := Lib.hid (h.keeps hkw (fun _ _ h => h))
  have HB := Lib.hid (hv.1.keeps hkw (fun _ _ _ h => h))
  have HT := Lib.hid (hv.2.keeps hkw (fun _ _ _ h => h))
  have HK := Lib.hid hkw
  have HG := Lib.hid hG
  have HTT := Lib.hid htt
  obtain ⟨ok1, ok2, ok3, ok4, ok5, ok6, ok7⟩ := hok
  clear h hv hkw hG ok7 htt
  obtain ⟨kind, i, bb, tt⟩ := o
  simp only at *
  by_cases k0 : kind = 0
  · subst k0
    have HA := Lib.hid (show ract s ⟨0, i, bb, tt⟩ = (s.write i bb).1 by simp [ract])
    have HE := Lib.hid (show rsaid s ⟨0, i, bb, tt⟩ = ([], (s.write i bb).2) by simp [rsaid])
    have HBL := Lib.hid ok5
    clear ok5
    go_enter Try.func16, Try.ntmps16
    go_wp2_with fail
    refine (refWrite_any _ q F G s i _ bb HD.out HB.out (fun b hb _ => (HG.out b hb).2) (by omega) (by omega) (by omega) hf4 (by omega) HBL.out).mono ?_
    rintro e w1 ⟨rfl, hd, hk⟩
    have HD1 := Lib.hid (ref_before hd HK.out.size)
    have HK1 := Lib.hid (keeps_before HK.out hk)
    clear hd hk
    go_wp2_with fail
    go_ret2
    rw [HA.out, HE.out]
    exact ⟨_, rfl, Byt.nil _ _, HD1.out, HK1.out⟩
  by_cases k1 : kind = 1
  · subst k1
    have HA := Lib.hid (show ract s ⟨1, i, bb, tt⟩ = s.tick by simp [ract])
    have HE := Lib.hid (show rsaid s ⟨1, i, bb, tt⟩ = s.read i by simp [rsaid])
    clear k0
    go_enter Try.func16, Try.ntmps16
    go_wp2_with fail
    refine (refRead_any _ q F s i HD.out (by omega) (by omega) hf4 (by omega)).mono ?_
    rintro e w1 ⟨v, rfl, hv, hd, hk⟩
    have HD1 := Lib.hid (show RefAt w1 q (Grow F w w1) s.tick from hd.grow)
    have HK1 := Lib.hid (keeps_before HK.out hk)
    have HV1 := Lib.hid (show Byt w1 (From w.heap.size) v (s.read i).1 from hv.mono fun b hb => Nat.le_trans HK.out.size hb)
    clear hd hk hv
    go_wp2_with fail
    go_ret2
    rw [HA.out, HE.out]
    exact ⟨_, rfl, HV1.out, HD1.out, HK1.out⟩
  by_cases k2 : kind = 2
  · subst k2
    have HA := Lib.hid (show ract s ⟨2, i, bb, tt⟩ = s.sync.1 by simp [ract])
    have HE := Lib.hid (show rsaid s ⟨2, i, bb, tt⟩ = ([], s.sync.2) by simp [rsaid])
    clear k0 k1
    go_enter Try.func16, Try.ntmps16
    go_wp2_with fail
    refine (refSync_any _ q F s HD.out (by omega) (by omega) hf4).mono ?_
    rintro e w1 ⟨rfl, hd, hk⟩
    have HD1 := Lib.hid (ref_before hd HK.out.size)
    have HK1 := Lib.hid (keeps_before HK.out hk)
    clear hd hk
    go_wp2_with fail
    go_ret2
    rw [HA.out, HE.out]
    exact ⟨_, rfl, Byt.nil _ _, HD1.out, HK1.out⟩
  by_cases k3 : kind = 3
  · subst k3
    have HA := Lib.hid (show ract s ⟨3, i, bb, tt⟩ = s.crash tt by simp [ract])
    have HE := Lib.hid (show rsaid s ⟨3, i, bb, tt⟩ = ([], 0) by simp [rsaid])
    clear k0 k1 k2
    go_enter Try.func16, Try.ntmps16
    go_wp2_with fail
    refine (refCrash_any _ q F G s _ tt HD.out HT.out (fun b hb => ⟨Nat.lt_of_lt_of_le (HG.out b hb).1 HK.out.size, (HG.out b hb).2⟩) hf4 hf5 htl HTT.out).mono ?_
    rintro e w1 ⟨rfl, hd, hk⟩
    have HD1 := Lib.hid (ref_before hd HK.out.size)
    have HK1 := Lib.hid (keeps_before HK.out hk)
    clear hd hk
    go_wp2_with fail
    go_ret2
    rw [HA.out, HE.out]
    exact ⟨_, rfl, Byt.nil _ _, HD1.out, HK1.out⟩
  by_cases k4 : kind = 4
  · subst k4
    have HE := Lib.hid (show rsaid s ⟨4, i, bb, tt⟩ = ([], 0) by simp [rsaid])
    clear k0 k1 k2 k3
    by_cases hi : 0 < i ∧ i < 1000
    · have HA := Lib.hid (show ract s ⟨4, i, bb, tt⟩ = { s with plans := s.plans ++ [(s.ops : Int) + i] } by simp [ract, hi])
      obtain ⟨hi0, hi1⟩ := hi
      obtain ⟨lastV, lv, cachV, cv, planV, hin⟩ := HD.out
      obtain ⟨W, hW⟩ : ∃ x, w.alloc (.cells #[.int .u8 4, .int .i64 i, .slice A1 bb.length c1, .slice A2 tt.length c2] 36) = x := ⟨_, rfl⟩
      have hbo : Blk W w.heap.size 36 #[.int .u8 4, .int .i64 i, .slice A1 bb.length c1, .slice A2 tt.length c2] := by rw [← hW]; exact Blk.new w 36 _
      rw [hW] at hin HK
      have HIN := Lib.hid hin
      have z3 := hin.c3
      have z4 := hin.c4
      have zq := hin.blk.lt
      have f3 := hin.blk.frozen 3
      have y1 : W.cell? ⟨w.heap.size, 1, none⟩ = some (.int .i64 i) := hbo.cell 1
      have y0 : W.cell? ⟨w.heap.size, 0, none⟩ = some (.int .u8 4) := hbo.cell 0
      have yl := hbo.lt
      have hwr : IntKind.i64.wrap ((s.ops : Int) + i) = (s.ops : Int) + i := IntWalk.i64_in _ (by omega)
      have HIN2 := Lib.hid (HIN.out.keep (w' := W.drew) (fun _ _ => rfl) (Nat.le_refl _))
      clear hin hbo HD HB HT
      go_enter Try.func16, Try.ntmps16
      go_wp2_with fail
      clear hW
      go_region_law (first
        | (refine step_append (by rfl) _ _ _ (by rfl) planV (.slice (some ⟨W.heap.size, 0, none⟩) 1 1) (by rfl) (by rfl) (Planned (W.drew.alloc (.cells #[.int .i64 ((s.ops : Int) + i)] 3)) planV s.plans ((s.ops : Int) + i))
             (append_plan (w := W.drew.alloc (.cells #[.int .i64 ((s.ops : Int) + i)] 3)) (HIN2.out.prow.alloc _) (heap_alloc_new W.drew _) (by omega)) ?_
           rintro v4 w4 hp4
           obtain ⟨g4, c4, rfl⟩ := hp4.1
           have HP4 := Lib.hid hp4
           have hb4 := planned_blk HIN2.out hp4
           have Z4 := hb4.cell 3
           have F4 := hb4.frozen 3
           simp only [List.getElem?_toArray, List.getElem?_cons_succ, List.getElem?_cons_zero] at Z4
           clear hp4 hb4))
      all_goals
        have R := planned_in HIN2.out HP4.out
        have R1 := Lib.hid (ref_before (w := w) R.1 (show w.heap.size ≤ W.drew.heap.size from HK.out.size))
        have R2 := Lib.hid (keeps_before HK.out (Keeps.of_drew R.2))
        clear R Z4 F4 z3 z4 zq f3 y1 y0 yl hwr
        generalize w4.setCell ⟨q, 3, none⟩ (.slice (some ⟨g4, 0, none⟩) (s.plans.length + 1) c4) = w5 at *
        go_wp2_with fail
        go_ret2
        rw [HA.out, HE.out]
        exact ⟨_, rfl, Byt.nil _ _, R1.out, R2.out⟩
    · have HA := Lib.hid (show ract s ⟨4, i, bb, tt⟩ = s by simp [ract, hi])
      have HD1 := Lib.hid (show RefAt _ q (Grow F w (w.alloc (.cells #[.int .u8 4, .int .i64 i, .slice A1 bb.length c1, .slice A2 tt.length c2] 36))) s from HD.out.grow)
      by_cases hi0 : 0 < i
      · have hi1 : decide (i < 1000) = false := by simp; omega
        clear hi
        go_enter Try.func16, Try.ntmps16
        go_wp2_with fail
        go_ret2
        rw [HA.out, HE.out]
        exact ⟨_, rfl, Byt.nil _ _, HD1.out, HK.out.no⟩
      · have hi1 : decide (0 < i) = false := by simp; omega
        clear hi hi0
        go_enter Try.func16, Try.ntmps16
        go_wp2_with fail
        go_ret2
        rw [HA.out, HE.out]
        exact ⟨_, rfl, Byt.nil _ _, HD1.out, HK.out.no⟩
  · have HA := Lib.hid (show ract s ⟨kind, i, bb, tt⟩ = s by simp [ract, k0, k1, k2, k3, k4])
    have HE := Lib.hid (show rsaid s ⟨kind, i, bb, tt⟩ = ([], 0) by simp [rsaid, k0, k1, k2])
    have HD1 := Lib.hid (show RefAt _ q (Grow F w (w.alloc (.cells #[.int .u8 kind, .int .i64 i, .slice A1 bb.length c1, .slice A2 tt.length c2] 36))) s from HD.out.grow)
    have b0 : (kind == 0) = false := by simpa using k0
    have b1 : (kind == 1) = false := by simpa using k1
    have b2 : (kind == 2) = false := by simpa using k2
    have b3 : (kind == 3) = false := by simpa using k3
    have b4 : (kind == 4) = false := by simpa using k4
    clear k0 k1 k2 k3 k4
    go_enter Try.func16, Try.ntmps16
    go_wp2_with fail
    go_ret2
    rw [HA.out, HE.out]
    exact ⟨_, rfl, Byt.nil _ _, HD1.out, HK.out.no⟩
end Go.Proofs.Ytconholnjhjhcaa
