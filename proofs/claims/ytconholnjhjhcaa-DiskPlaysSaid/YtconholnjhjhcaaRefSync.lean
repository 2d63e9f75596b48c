/-
  THE WALKS OF THE REFERENCE's Sync, Crash.
-/
import Derived.Test.YtconholnjhjhcaaRefOps
import Derived.Deep.RegionHeld3
namespace Go.Proofs.Ytconholnjhjhcaa
open Ks Go.RowKit

end Go.Proofs.Ytconholnjhjhcaa
namespace Ks
/-- sector i lasts as bs, and isn't cached -/
def RS.settled (s : RS) (i : Nat) (bs : List Int) : RS := { s with last := s.last.set i bs, cach := s.cach.set i none }
/-- the first k sectors are synced -/
def RS.syncTo (s : RS) : Nat → RS
  | 0 => s
  | k + 1 => match (RS.syncTo s k).cach.getD k none with
    | none => RS.syncTo s k
    | some bs => (RS.syncTo s k).settled k bs
/-- what is left of the first k sectors, and how many of them were cached -/
def RS.crashTo (L : List Int → List Int → Int → List Int → List Int) (s : RS) (ts : List (Int × List Int)) : Nat → RS × Nat
  | 0 => (s, 0)
  | k + 1 => match (RS.crashTo L s ts k).1.cach.getD k none with
    | none => RS.crashTo L s ts k
    | some bs => ((RS.crashTo L s ts k).1.settled k (L ((RS.crashTo L s ts k).1.last.getD k []) bs (ts.getD (RS.crashTo L s ts k).2 (0, [])).1 (ts.getD (RS.crashTo L s ts k).2 (0, [])).2), (RS.crashTo L s ts k).2 + 1)
def RS.sync (s : RS) : RS × Int := if s.fails then (s.tick, 3) else (s.tick.syncTo s.last.length, 0)
end Ks
namespace Go.Proofs.Ytconholnjhjhcaa
open Ks Go.RowKit

theorem settled_len (s : RS) (i : Nat) (bs : List Int) : (s.settled i bs).last.length = s.last.length := by simp [RS.settled]
theorem syncTo_len (s : RS) : ∀ k, (s.syncTo k).last.length = s.last.length
  | 0 => rfl
  | k + 1 => by
    rw [RS.syncTo]
    split
    · exact syncTo_len s k
    · rw [settled_len]; exact syncTo_len s k
theorem syncTo_none (s : RS) (k : Nat) (h : (s.syncTo k).cach.getD k none = none) : s.syncTo (k + 1) = s.syncTo k := by
  show (match (RS.syncTo s k).cach.getD k none with | none => RS.syncTo s k | some bs => (RS.syncTo s k).settled k bs) = _
  rw [h]
theorem syncTo_some (s : RS) (k : Nat) (bs : List Int) (h : (s.syncTo k).cach.getD k none = some bs) : s.syncTo (k + 1) = (s.syncTo k).settled k bs := by
  show (match (RS.syncTo s k).cach.getD k none with | none => RS.syncTo s k | some bs => (RS.syncTo s k).settled k bs) = _
  rw [h]

section
variable {w : World} {q : Nat} {F : Nat → Prop} {s : RS} {planV : Value} {lv cv : List Value}
/-- both rows turned: a sector is settled -/
theorem ref_settle {n g1 d1 g2 d2 k : Nat} {v : Value} {bs : List Int} (hn : s.last.length = n) (h : RefIn w q F s (.slice (some ⟨g1, 0, none⟩) n d1) lv (.slice (some ⟨g2, 0, none⟩) n d2) cv planV) (hk : k < n) (hv : Byt w F v bs) (hl : bs.length = s.size) :
    RefIn ((w.setCell ⟨g1, k, none⟩ v).setCell ⟨g2, k, none⟩ (.slice none 0 0)) q F (s.settled k bs) (.slice (some ⟨g1, 0, none⟩) n d1) (lv.set k v) (.slice (some ⟨g2, 0, none⟩) n d2) (cv.set k (.slice none 0 0)) planV := by
  subst hn
  have h1 := ref_setL h k hk v bs hv hl
  have hlen : (s.last.set k bs).length = s.last.length := by simp
  have h2 : RefIn (w.setCell ⟨g1, k, none⟩ v) q F { s with last := s.last.set k bs } (.slice (some ⟨g1, 0, none⟩) s.last.length d1) (lv.set k v) (.slice (some ⟨g2, 0, none⟩) (s.last.set k bs).length d2) cv planV := by rw [hlen]; exact h1
  have h3 := ref_setC h2 k (by rw [hlen]; exact hk) (.slice none 0 0) none rfl (fun bs h => by cases h)
  have e : (.slice (some ⟨g2, 0, none⟩) (s.last.set k bs).length d2 : Value) = .slice (some ⟨g2, 0, none⟩) s.last.length d2 := by rw [hlen]
  rw [← e]
  exact h3
theorem settle_keeps {g1 g2 k : Nat} {u v : Value} (h1 : F g1) (h2 : F g2) : Keeps F w ((w.setCell ⟨g1, k, none⟩ u).setCell ⟨g2, k, none⟩ v) :=
  ((set_keeps g1 k u).mono (T := F) fun _ hb => hb ▸ h1).trans ((set_keeps g2 k v).mono fun _ hb => hb ▸ h2)
end

set_option maxRecDepth 100000 in
set_option maxHeartbeats 4000000 in
theorem refSync_any (w : World) (q : Nat) (F : Nat → Prop) (s : RS) (h : RefAt w q F s) (hops : s.ops < 1000000) (hpl : s.plans.length ≤ 1000000) (hn : s.last.length ≤ 4096) :
    Calls Try.prog 40 #[.pointer (some ⟨q, 0, none⟩)] w (RTells q F s.sync.1 w s.sync.2) := by
  have q31 : ∀ (w : World) (a : Option Addr) (n c : Nat), (binOp .neq 31 (.slice a n c) (.slice none 0 0)).run Try.prog w = .ok (.bool (!a.isNone)) w := fun w a n c => run_neq_slice_nil_any w _ _ a n c 0 0 Try.underlying31
  have H := Lib.hid h
  clear h
  cases hf : s.fails
  · have HF := Lib.hid hf
    have HR := Lib.hid (show s.sync = (s.tick.syncTo s.last.length, 0) by simp [RS.sync, hf])
    clear hf
    go_enter Try.func40, Try.ntmps40
    go_wp2_with fail
    refine (refFails_any w q F s H.out hops hpl).mono ?_
    rintro e w1 ⟨rfl, hd, hk⟩
    rw [HF.out]
    obtain ⟨lastV, lv, cachV, cv, planV, hin⟩ := hd
    obtain ⟨AC, cC, rfl⟩ := row_slice (show w1.ownsRow 0 31 1 cachV s.last.length cv from hin.crow)
    have HIN := Lib.hid hin
    have HK := Lib.hid hk
    clear hk hin
    go_wp2_with fail
    go_loopw [4] (fun i wr => ∃ k : Nat, k ≤ s.last.length ∧ i = .int .i64 k ∧ (∃ lv cv, RefIn wr q F (s.tick.syncTo k) lastV lv (.slice AC s.last.length cC) cv planV) ∧ Keeps F w1 wr) (fun i _ => s.last.length - (intOf i).toNat)
    case atStart => exact ⟨0, Nat.zero_le _, rfl, ⟨_, _, HIN.out⟩, Keeps.refl _ _⟩
    case round =>
      obtain ⟨k, hk, rfl, ⟨lv', cv', hr⟩, hkk⟩ := hrel
      have hsl : (s.tick.syncTo k).last.length = s.last.length := syncTo_len s.tick k
      have c2 := hr.c2
      have HK2 := Lib.hid hkk
      clear hkk
      by_cases hlt : k < s.last.length
      · have hk0 : (0 : Int) ≤ (k : Int) := by omega
        have hk1 : (k : Int) < (s.last.length : Int) := by omega
        have hrow : wr.ownsRow 0 31 1 lastV s.last.length lv' := by have := hr.row; rwa [hsl] at this
        have hcrow : wr.ownsRow 0 31 1 (.slice AC s.last.length cC) s.last.length cv' := by have := hr.crow; rwa [hsl] at this
        obtain ⟨g1, d1, cur1, rfl, hl1, hb1, hc1⟩ := row_cell_ hrow hlt
        obtain ⟨g2, d2, cur2, e, hl2, hb2, hc2⟩ := row_cell_ hcrow hlt
        simp only [Value.slice.injEq, true_and] at e
        obtain ⟨rfl, rfl⟩ := e
        have hcac := hr.csect k (by rw [hsl]; exact hlt)
        have HRI := Lib.hid hr
        cases ho : (s.tick.syncTo k).cach.getD k none with
        | none =>
          rw [ho] at hcac
          rw [show cv'.getD k undef = .slice none 0 0 from hcac] at hc2
          have R := Lib.hid (show RefIn wr q F (s.tick.syncTo (k + 1)) (.slice (some ⟨g1, 0, none⟩) s.last.length d1) lv' (.slice (some ⟨g2, 0, none⟩) s.last.length cC) cv' planV by rw [syncTo_none _ _ ho]; exact hr)
          clear hcac hr hrow hcrow ho hb1 hb2 hc1 hsl
          go_wp2_with fail
          go_roundw
          case rel => exact ⟨k + 1, by omega, by go_num, ⟨_, _, R.out⟩, HK2.out⟩
          case measure => simp [intOf]; omega
        | some x =>
          rw [ho] at hcac
          obtain ⟨hbx, hx0⟩ := hcac
          obtain ⟨Ax, cx, hvx, hcx, hax⟩ := hbx
          obtain ⟨b, o, rfl, hB, hcs⟩ := hax hx0
          rw [hvx] at hc2
          have hbx : Byt wr F (.slice (some ⟨b, o, none⟩) x.length cx) x := ⟨_, _, rfl, hcx, fun _ => ⟨b, o, rfl, hB, hcs⟩⟩
          have R := Lib.hid (show RefIn ((wr.setCell ⟨g1, k, none⟩ (.slice (some ⟨b, o, none⟩) x.length cx)).setCell ⟨g2, k, none⟩ (.slice none 0 0)) q F (s.tick.syncTo (k + 1)) (.slice (some ⟨g1, 0, none⟩) s.last.length d1) (lv'.set k (.slice (some ⟨b, o, none⟩) x.length cx)) (.slice (some ⟨g2, 0, none⟩) s.last.length cC) (cv'.set k (.slice none 0 0)) planV by
            rw [syncTo_some _ _ _ ho]
            exact ref_settle hsl hr hlt hbx (hr.clens k x ho))
          have R2 := Lib.hid (HK2.out.trans (settle_keeps (k := k) (u := .slice (some ⟨b, o, none⟩) x.length cx) (v := .slice none 0 0) (hr.frow g1 rfl) (hr.fcrow g2 rfl)))
          have hne : g1 ≠ g2 := fun e => hr.apart g1 rfl (by rw [e]; rfl)
          have hq1 : g1 ≠ q := fun e => hr.q_row.1 (by rw [e]; rfl)
          have hq2 : g2 ≠ q := fun e => hr.q_row.2.1 (by rw [e]; rfl)
          have f1 := hb1.frozen k
          have f2 := hb2.frozen k
          have z1 := hr.c1
          have b1 := hb1.lt
          have b2 := hb2.lt
          have bq := hr.blk.lt
          clear hr hrow hcrow ho hb1 hb2 hsl hbx hcx hax hB hcs hvx hx0
          generalize lv'.getD k undef = old1 at *
          go_wp2_with fail
          go_region_held3 (fun w' => w'.cell? ⟨q, 1, none⟩ = some (.slice (some ⟨g1, 0, none⟩) s.last.length d1) ∧ w'.cell? ⟨q, 2, none⟩ = some (.slice (some ⟨g2, 0, none⟩) s.last.length cC) ∧ w'.cell? ⟨g2, k, none⟩ = some (.slice (some ⟨b, o, none⟩) x.length cx)) (go_keep) (first | fail)
          have R3 := Lib.hid (R.out.keep (w' := ((wr.setCell ⟨g1, k, none⟩ (.slice (some ⟨b, o, none⟩) x.length cx)).setCell ⟨g2, k, none⟩ (.slice none 0 0)).drew) (fun _ _ => rfl) (Nat.le_refl _))
          have R4 := Lib.hid (R2.out.drew)
          go_wp2_with fail
          go_roundw
          case rel => exact ⟨k + 1, by omega, by go_num, ⟨_, _, R3.out⟩, R4.out⟩
          case measure => simp [intOf]; omega
      · obtain rfl : k = s.last.length := by omega
        have R := Lib.hid (show RefAt wr q (Grow F w wr) (s.tick.syncTo s.last.length) from ⟨_, _, _, _, _, hr.grow⟩)
        have R2 := Lib.hid (HK.out.trans HK2.out)
        clear hr hsl
        go_wp2_with fail
        go_ret
        rw [HR.out]
        exact ⟨rfl, R.out, R2.out⟩
  · have HR := Lib.hid (show s.sync = (s.tick, 3) by simp [RS.sync, hf])
    have HF := Lib.hid hf
    clear hf
    go_enter Try.func40, Try.ntmps40
    go_wp2_with fail
    refine (refFails_any w q F s H.out hops hpl).mono ?_
    rintro e w1 ⟨rfl, hd, hk⟩
    rw [HF.out]
    have HD := Lib.hid (hd.grow (w := w))
    have HK := Lib.hid hk
    clear hd hk
    go_wp2_with fail
    go_ret
    rw [HR.out]
    exact ⟨rfl, HD.out, HK.out⟩

def _root_.Ks.RS.crash (s : RS) (ts : List (Int × List Int)) : RS := (s.crashTo refLeft ts s.last.length).1
theorem crashTo_len (s : RS) (ts : List (Int × List Int)) : ∀ k, (s.crashTo refLeft ts k).1.last.length = s.last.length ∧ (s.crashTo refLeft ts k).2 ≤ k ∧ (s.crashTo refLeft ts k).1.size = s.size
  | 0 => ⟨rfl, Nat.le_refl _, rfl⟩
  | k + 1 => by
    obtain ⟨h1, h2, h3⟩ := crashTo_len s ts k
    rw [RS.crashTo]
    split
    · exact ⟨h1, by omega, h3⟩
    · exact ⟨by rw [settled_len]; exact h1, by simp; exact h2, h3⟩
theorem crashTo_none (s : RS) (ts : List (Int × List Int)) (k : Nat) (h : (s.crashTo refLeft ts k).1.cach.getD k none = none) : s.crashTo refLeft ts (k + 1) = s.crashTo refLeft ts k := by
  rw [RS.crashTo, h]
theorem crashTo_some (s : RS) (ts : List (Int × List Int)) (k : Nat) (bs : List Int) (h : (s.crashTo refLeft ts k).1.cach.getD k none = some bs) : s.crashTo refLeft ts (k + 1) =
    ((s.crashTo refLeft ts k).1.settled k (refLeft ((s.crashTo refLeft ts k).1.last.getD k []) bs (ts.getD (s.crashTo refLeft ts k).2 (0, [])).1 (ts.getD (s.crashTo refLeft ts k).2 (0, [])).2), (s.crashTo refLeft ts k).2 + 1) := by
  rw [RS.crashTo, h]
theorem refLeft_length {old next tb : List Int} {kind : Int} {n : Nat} (h1 : old.length = n) (h2 : next.length = n) : (refLeft old next kind tb).length = n := by
  unfold refLeft
  split
  · exact h2
  · split
    · rw [junk_length]; exact h1
    · exact h1

def RLeaves (q : Nat) (F : Nat → Prop) (s : RS) (w : World) (e : Ending) (w' : World) : Prop := e = .returned (.tuple #[]) ∧ RefAt w' q (Grow F w w') s ∧ Keeps F w w'

section
variable {w wr w5 : World} {q : Nat} {F : Nat → Prop} {s : RS} {planV : Value} {lv cv : List Value}
theorem refCrash_step {n g1 d1 g2 d2 k : Nat} {v v0 v1 : Value} {bs y x : List Int} (hn : s.last.length = n) (h : RefIn wr q (Grow F w wr) s (.slice (some ⟨g1, 0, none⟩) n d1) lv (.slice (some ⟨g2, 0, none⟩) n d2) cv planV) (hk : k < n)
    (hF : ∀ b, F b → b < w.heap.size) (hw : Keeps F w wr) (h5 : Keeps No wr w5) (h0 : Byt wr (Grow F w wr) v0 y) (h1 : Byt wr (Grow F w wr) v1 x) (hl : bs.length = s.size)
    (hv : (v = v0 ∧ bs = y) ∨ (v = v1 ∧ bs = x) ∨ Byt w5 (From wr.heap.size) v bs) :
    RefIn ((w5.setCell ⟨g1, k, none⟩ v).setCell ⟨g2, k, none⟩ (.slice none 0 0)) q (Grow F w ((w5.setCell ⟨g1, k, none⟩ v).setCell ⟨g2, k, none⟩ (.slice none 0 0))) (s.settled k bs) (.slice (some ⟨g1, 0, none⟩) n d1) (lv.set k v) (.slice (some ⟨g2, 0, none⟩) n d2) (cv.set k (.slice none 0 0)) planV ∧
      Keeps F w ((w5.setCell ⟨g1, k, none⟩ v).setCell ⟨g2, k, none⟩ (.slice none 0 0)) := by
  have hsz : ((w5.setCell ⟨g1, k, none⟩ v).setCell ⟨g2, k, none⟩ (.slice none 0 0)).heap.size = w5.heap.size := by simp [World.setCell]
  have hg : ∀ b, Grow F w wr b → Grow F w w5 b := fun b hb => by
    rcases hb with hb | hb
    · exact .inl hb
    · exact .inr ⟨hb.1, Nat.lt_of_lt_of_le hb.2 h5.size⟩
  have hlt : ∀ b, Grow F w w5 b → b < w5.heap.size := fun b hb => by
    rcases hb with hb | hb
    · have := hF b hb
      have h2 := hw.size
      have h3 := h5.size
      omega
    · exact hb.2
  have h' : RefIn w5 q (Grow F w w5) s (.slice (some ⟨g1, 0, none⟩) n d1) lv (.slice (some ⟨g2, 0, none⟩) n d2) cv planV := (h.keep (fun b hb => h5.block b (h.there b hb) (fun h => h)) h5.size).mono hg hlt
  have hbv : Byt w5 (Grow F w w5) v bs := by
    rcases hv with ⟨rfl, rfl⟩ | ⟨rfl, rfl⟩ | hv
    · exact (h0.keeps h5 (fun _ _ h => h)).mono hg
    · exact (h1.keeps h5 (fun _ _ h => h)).mono hg
    · obtain ⟨A, c, e, hc, hx⟩ := hv
      refine ⟨A, c, e, hc, fun h0 => ?_⟩
      obtain ⟨b, o, rfl, hb, hcs⟩ := hx h0
      exact ⟨b, o, rfl, ⟨.inr ⟨Nat.le_trans hw.size hb.1, hb.lt⟩, hb.2⟩, hcs⟩
  refine ⟨?_, ?_⟩
  · have := ref_settle hn h' hk hbv hl
    refine this.mono (fun b hb => ?_) (fun b hb => ?_)
    · rcases hb with hb | hb
      · exact .inl hb
      · exact .inr ⟨hb.1, by rw [hsz]; exact hb.2⟩
    · rw [hsz]
      rcases hb with hb | hb
      · exact hlt b (.inl hb)
      · rw [hsz] at hb
        exact hb.2
  · refine (hw.trans h5.no).then (T := Grow F w wr) (settle_keeps (h.frow g1 rfl) (h.fcrow g2 rfl)) (fun b hb => ?_)
    rcases hb with hb | hb
    · exact .inl hb
    · exact .inr hb.1
end

/-- the tear at hand lies in a block of its own -/
theorem tear_at {w : World} {G : Nat → Prop} {A : Option Addr} {n c : Nat} {ts : List (Int × List Int)} (h : Tears w G (.slice A n c) ts) (k : Nat) :
    ∃ A1 c1, Bys w G (.slice A1 (ts.getD k (0, [])).2.length c1) (ts.getD k (0, [])).2 ∧ (k < ts.length → ∃ b o, A = some ⟨b, o, none⟩ ∧ n ≤ c ∧ w.cell? ⟨b, o + k * 2, none⟩ = some (.int .i64 (ts.getD k (0, [])).1) ∧ w.cell? ⟨b, o + k * 2 + 1, none⟩ = some (.slice A1 (ts.getD k (0, [])).2.length c1)) ∧ (ts.length ≤ k → A1 = none ∧ c1 = 0 ∧ ts.getD k (0, []) = (0, [])) := by
  by_cases hk : k < ts.length
  · have hx : ts[k]? = some ts[k] := List.getElem?_eq_getElem hk
    have e : ts.getD k (0, []) = ts[k] := by simp [List.getD, hk]
    obtain ⟨b, o, A1, c1, rfl, _, hc, h1, h2, h3⟩ := h.at_ hx
    rw [e]
    exact ⟨A1, c1, h3, fun _ => ⟨b, o, rfl, hc, h1, h2⟩, fun hge => absurd hge (by omega)⟩
  · have e : ts.getD k (0, []) = (0, []) := by simp [List.getD, show ts.length ≤ k by omega]
    rw [e]
    exact ⟨none, 0, Bys.nil _ _, fun h => absurd h hk, fun _ => ⟨rfl, rfl, rfl⟩⟩

set_option maxRecDepth 100000 in
set_option maxHeartbeats 8000000 in
set_option linter.unusedSimpArgs false in
theorem refCrash_any (w : World) (q : Nat) (F G : Nat → Prop) (s : RS) (tv : Value) (ts : List (Int × List Int)) (h : RefAt w q F s) (ht : Tears w G tv ts) (hG : ∀ b, G b → b < w.heap.size ∧ ¬ F b) (hn : s.last.length ≤ 4096) (hs : s.size ≤ 1000) (htl : ts.length ≤ 1000000) (htt : ∀ t ∈ ts, t.2.length ≤ 1000) :
    Calls Try.prog 41 #[.pointer (some ⟨q, 0, none⟩), tv] w (RLeaves q F (s.crash ts) w) := by
  have q31 : ∀ (w : World) (a : Option Addr) (n c : Nat), (binOp .eql 31 (.slice a n c) (.slice none 0 0)).run Try.prog w = .ok (.bool a.isNone) w := fun w a n c => Lib.run_eql_slice_nil w _ _ a n c 0 0 Try.underlying31
  obtain ⟨AT, cT, rfl⟩ := ht.form
  obtain ⟨lastV, lv, cachV, cv, planV, hin⟩ := h
  obtain ⟨AL, cL, rfl⟩ := row_slice hin.row
  obtain ⟨AC, cC, rfl⟩ := row_slice hin.crow
  have HIN := Lib.hid (hin.grow (w := w))
  have HFT := Lib.hid hin.there
  have HT := Lib.hid ht
  have HG := Lib.hid hG
  have HTT := Lib.hid htt
  clear hin ht hG htt
  go_enter Try.func41, Try.ntmps41
  go_wp2_with fail
  go_loopw [4, 5] (fun m i wr => ∃ k : Nat, k ≤ s.last.length ∧ i = .int .i64 k ∧ m = .int .i64 (s.crashTo refLeft ts k).2 ∧ (∃ lv cv, RefIn wr q (Grow F w wr) (s.crashTo refLeft ts k).1 (.slice AL s.last.length cL) lv (.slice AC s.last.length cC) cv planV) ∧ Keeps F w wr) (fun _ i _ => s.last.length - (intOf i).toNat)
  case atStart => exact ⟨0, Nat.zero_le _, rfl, rfl, ⟨_, _, HIN.out⟩, Keeps.refl _ _⟩
  case round =>
    obtain ⟨k, hk, rfl, rfl, ⟨lv', cv', hr⟩, hkk⟩ := hrel
    obtain ⟨hsl, hm, hsz⟩ := crashTo_len s ts k
    have HKK := Lib.hid hkk
    have c2 := hr.c2
    by_cases hlt : k < s.last.length
    · have hk0 : (0 : Int) ≤ (k : Int) := by omega
      have hk1 : (k : Int) < (s.last.length : Int) := by omega
      have hrow : wr.ownsRow 0 31 1 (.slice AL s.last.length cL) s.last.length lv' := by have := hr.row; rwa [hsl] at this
      have hcrow : wr.ownsRow 0 31 1 (.slice AC s.last.length cC) s.last.length cv' := by have := hr.crow; rwa [hsl] at this
      obtain ⟨g1, d1, cur1, e1, hl1, hb1, hc1⟩ := row_cell_ hrow hlt
      simp only [Value.slice.injEq, true_and] at e1
      obtain ⟨rfl, rfl⟩ := e1
      obtain ⟨g2, d2, cur2, e2, hl2, hb2, hc2⟩ := row_cell_ hcrow hlt
      simp only [Value.slice.injEq, true_and] at e2
      obtain ⟨rfl, rfl⟩ := e2
      have hcac := hr.csect k (by rw [hsl]; exact hlt)
      have hsect := hr.sect k (by rw [hsl]; exact hlt)
      have hlen := hr.lens k (by rw [hsl]; exact hlt)
      rw [hsz] at hlen
      cases ho : (s.crashTo refLeft ts k).1.cach.getD k none with
      | none =>
        rw [ho] at hcac
        rw [show cv'.getD k undef = .slice none 0 0 from hcac] at hc2
        have R := Lib.hid (show ∃ lv cv, RefIn wr q (Grow F w wr) (s.crashTo refLeft ts (k + 1)).1 (.slice (some ⟨g1, 0, none⟩) s.last.length cL) lv (.slice (some ⟨g2, 0, none⟩) s.last.length cC) cv planV by rw [crashTo_none _ _ _ ho]; exact ⟨_, _, hr⟩)
        have RM := Lib.hid (show (s.crashTo refLeft ts (k + 1)).2 = (s.crashTo refLeft ts k).2 by rw [crashTo_none _ _ _ ho])
        generalize (s.crashTo refLeft ts k).2 = m at *
        clear hcac hr hrow hcrow ho hb1 hb2 hc1 hsl hsect hlen hkk
        go_wp2_with fail
        go_roundw
        case rel => exact ⟨k + 1, by omega, by go_num, by rw [RM.out], R.out, HKK.out⟩
        case measure => simp [intOf]; omega
      | some x =>
        rw [ho] at hcac
        have hxl := hr.clens k x ho
        rw [hsz] at hxl
        obtain ⟨hbx, hx0⟩ := hcac
        obtain ⟨Ax, cx, hvx, hcx, hax⟩ := hbx
        obtain ⟨b, o, rfl, hB, hcs⟩ := hax hx0
        rw [hvx] at hc2
        have hbx : Byt wr (Grow F w wr) (.slice (some ⟨b, o, none⟩) x.length cx) x := ⟨_, _, rfl, hcx, fun _ => ⟨b, o, rfl, hB, hcs⟩⟩
        obtain ⟨y, hy⟩ : ∃ y, (s.crashTo refLeft ts k).1.last.getD k [] = y := ⟨_, rfl⟩
        rw [hy] at hsect hlen
        obtain ⟨Ay, cy, hvy⟩ := Bys.form hsect
        rw [hvy] at hc1 hsect
        have htw : Tears wr G (.slice AT ts.length cT) ts := HT.out.keeps hkk (fun b hb _ => (HG.out b hb).2)
        obtain ⟨A1, c1, htb, htin, htout⟩ := tear_at htw (s.crashTo refLeft ts k).2
        have htl2 : (ts.getD (s.crashTo refLeft ts k).2 (0, [])).2.length ≤ 1000 := by
          by_cases hj : (s.crashTo refLeft ts k).2 < ts.length
          · have e : ts.getD (s.crashTo refLeft ts k).2 (0, []) = ts[(s.crashTo refLeft ts k).2] := by simp [List.getD, hj]
            rw [e]
            exact HTT.out _ (List.getElem_mem hj)
          · rw [(htout (by omega)).2.2]; simp
        have hst := crashTo_some s ts k x ho
        rw [hy] at hst
        obtain ⟨m, hme⟩ : ∃ m, (s.crashTo refLeft ts k).2 = m := ⟨_, rfl⟩
        rw [hme] at hst htb htin htout htl2 hm ⊢
        obtain ⟨t, hte⟩ : ∃ t, ts.getD m (0, []) = t := ⟨_, rfl⟩
        rw [hte] at hst htb htin htout htl2
        obtain ⟨kind, tb⟩ := t
        simp only at hst htb htin htout htl2
        obtain ⟨bs, hbs⟩ : ∃ bs, refLeft y x kind tb = bs := ⟨_, rfl⟩
        rw [hbs] at hst
        have HBL := Lib.hid (show bs.length = s.size by rw [← hbs]; exact refLeft_length hlen hxl)
        have HBS := Lib.hid hbs
        have HST := Lib.hid hst
        have HR := Lib.hid hr
        have HBX := Lib.hid hbx
        have HBY := Lib.hid hsect
        have HTB := Lib.hid htb
        have hne : g1 ≠ g2 := fun e => hr.apart g1 rfl (by rw [e]; rfl)
        have hq1 : g1 ≠ q := fun e => hr.q_row.1 (by rw [e]; rfl)
        have hq2 : g2 ≠ q := fun e => hr.q_row.2.1 (by rw [e]; rfl)
        have z1 := hr.c1
        have b1 := hb1.lt
        have b2 := hb2.lt
        have bq := hr.blk.lt
        have HB1 := Lib.hid hb1
        have HB2 := Lib.hid hb2
        have hyl : y.length ≤ 1000 := by omega
        have HSL := Lib.hid hsl
        have HSZ := Lib.hid hsz
        clear hr hrow hcrow ho hb1 hb2 hsl hbx hcx hax hB hcs hvx hx0 hsect hlen hxl hvy hy hst hbs htb htw hsz hme hte hkk
        by_cases hj : m < ts.length
        · obtain ⟨bt, ot, rfl, hct, t1, t2⟩ := htin hj
          have hm0 : (0 : Int) ≤ (m : Int) := by omega
          have hm1 : (m : Int) < (ts.length : Int) := by omega
          have btl := block_lt_of_cell t1
          clear htin htout
          go_wp2_with fail
          obtain ⟨W, hW⟩ : ∃ x, wr.alloc (.cells #[.int .i64 kind, .slice A1 tb.length c1] 59) = x := ⟨_, rfl⟩
          have hkW : Keeps No wr W := by rw [← hW]; exact (Keeps.refl No wr).alloc _
          have hbW : Blk W wr.heap.size 59 #[.int .i64 kind, .slice A1 tb.length c1] := by rw [← hW]; exact Blk.new wr 59 _
          rw [hW]
          have y1 := (hkW.cell (o := 1) bq (fun h => h)).trans z1
          have y2 := (hkW.cell (o := 2) bq (fun h => h)).trans c2
          have y3 := (hkW.cell (o := k) b1 (fun h => h)).trans hc1
          have y4 := (hkW.cell (o := k) b2 (fun h => h)).trans hc2
          have y5 := hbW.cell 0
          have y6 := hbW.cell 1
          simp only [List.getElem?_toArray, List.getElem?_cons_succ, List.getElem?_cons_zero] at y5 y6
          have HBW := Lib.hid hbW
          have HKW := Lib.hid hkW
          have HX1 := Lib.hid (HBX.out.keeps hkW.drew (fun _ _ h => h))
          have HY1 := Lib.hid (HBY.out.keeps hkW.drew (fun _ _ h => h))
          have HT1 := Lib.hid (HTB.out.keeps hkW.drew (fun _ _ _ h => h))
          have f1 : W.frozen? ⟨g1, k, none⟩ = false := (HB1.out.of_eq (hkW.block _ b1 (fun h => h))).frozen k
          have b1' : g1 < W.heap.size := Nat.lt_of_lt_of_le b1 hkW.size
          have hnt : g1 ≠ wr.heap.size := by omega
          have HBG := Lib.hid (HB1.out.of_eq (hkW.block _ b1 (fun h => h)))
          generalize wr.heap.size = t0 at *
          clear hW hkW hbW z1 c2 hc1 hc2
          refine wp_region_held_drew (S := (fun w' => w'.cell? ⟨q, 1, none⟩ = some (.slice (some ⟨g1, 0, none⟩) s.last.length cL) ∧ w'.cell? ⟨q, 2, none⟩ = some (.slice (some ⟨g2, 0, none⟩) s.last.length cC) ∧ w'.cell? ⟨g2, k, none⟩ = some (.slice (some ⟨b, o, none⟩) x.length cx) ∧ w'.cell? ⟨t0, 0, none⟩ = some (.int .i64 kind) ∧ w'.cell? ⟨t0, 1, none⟩ = some (.slice A1 tb.length c1))) (by kernel_rfl) (by go_keep) (fun hHeld => ?_)
          refine wpAnyH_take (i := 0) (oi := { dst := some 35, op := Op.move (Operand.tmp 0), type := 29, pos := "ref.go:132", after := #[], guard := none }) (v := ?_) rfl (by kernel_rfl) (by kernel_rfl) (by kernel_rfl) (fun _ _ _ h => h) (Or.inl ⟨by rfl, ?_⟩) (by assumption) ?_
          rotate_left 1
          · intro w0 hSw
            go_simp
            with_reducible rfl
          simp only [Act.put, List.setIfInBounds_toArray, List.set_cons_zero, List.set_cons_succ]
          refine wpAnyH_take (i := 1) (oi := { dst := some 36, op := Op.nilCheck (Operand.tmp 35), type := 0, pos := "ref.go:132", after := #[{ on := 0, ground := Ground.data }], guard := none }) (v := ?_) rfl (by kernel_rfl) (by kernel_rfl) (by kernel_rfl) (fun _ _ _ h => h) (Or.inl ⟨by rfl, ?_⟩) (by assumption) ?_
          rotate_left 1
          · intro w0 hSw
            go_simp
            with_reducible rfl
          simp only [Act.put, List.setIfInBounds_toArray, List.set_cons_zero, List.set_cons_succ]
          refine wpAnyH_take (i := 2) (oi := { dst := some 37, op := Op.fieldAddr 43 (Operand.tmp 36) 1, type := 0, pos := "ref.go:132", after := #[{ on := 1, ground := Ground.data }], guard := none }) (v := ?_) rfl (by kernel_rfl) (by kernel_rfl) (by kernel_rfl) (fun _ _ _ h => h) (Or.inl ⟨by rfl, ?_⟩) (by assumption) ?_
          rotate_left 1
          · intro w0 hSw
            go_simp
            with_reducible rfl
          simp only [Act.put, List.setIfInBounds_toArray, List.set_cons_zero, List.set_cons_succ]
          refine wpAnyH_take (i := 3) (oi := { dst := some 38, op := Op.load 40 (Operand.tmp 37), type := 40, pos := "ref.go:132", after := #[{ on := 2, ground := Ground.data }], guard := none }) (v := ?_) rfl (by kernel_rfl) (by kernel_rfl) (by kernel_rfl) (fun _ _ _ h => h) (Or.inl ⟨by rfl, ?_⟩) (by assumption) ?_
          rotate_left 1
          · intro w0 hSw
            go_simp
            with_reducible rfl
          simp only [Act.put, List.setIfInBounds_toArray, List.set_cons_zero, List.set_cons_succ]
          refine wpAnyH_take (i := 4) (oi := { dst := some 39, op := Op.move (Operand.tmp 5), type := 3, pos := "ref.go:132", after := #[], guard := none }) (v := ?_) rfl (by kernel_rfl) (by kernel_rfl) (by kernel_rfl) (fun _ _ _ h => h) (Or.inl ⟨by rfl, ?_⟩) (by assumption) ?_
          rotate_left 1
          · intro w0 hSw
            go_simp
            with_reducible rfl
          simp only [Act.put, List.setIfInBounds_toArray, List.set_cons_zero, List.set_cons_succ]
          refine wpAnyH_take (i := 5) (oi := { dst := some 40, op := Op.move (Operand.tmp 0), type := 29, pos := "ref.go:132", after := #[], guard := none }) (v := ?_) rfl (by kernel_rfl) (by kernel_rfl) (by kernel_rfl) (fun _ _ _ h => h) (Or.inl ⟨by rfl, ?_⟩) (by assumption) ?_
          rotate_left 1
          · intro w0 hSw
            go_simp
            with_reducible rfl
          simp only [Act.put, List.setIfInBounds_toArray, List.set_cons_zero, List.set_cons_succ]
          refine wpAnyH_take (i := 6) (oi := { dst := some 41, op := Op.nilCheck (Operand.tmp 40), type := 0, pos := "ref.go:132", after := #[{ on := 5, ground := Ground.data }], guard := none }) (v := ?_) rfl (by kernel_rfl) (by kernel_rfl) (by kernel_rfl) (fun _ _ _ h => h) (Or.inl ⟨by rfl, ?_⟩) (by assumption) ?_
          rotate_left 1
          · intro w0 hSw
            go_simp
            with_reducible rfl
          simp only [Act.put, List.setIfInBounds_toArray, List.set_cons_zero, List.set_cons_succ]
          refine wpAnyH_take (i := 7) (oi := { dst := some 42, op := Op.fieldAddr 43 (Operand.tmp 41) 1, type := 0, pos := "ref.go:132", after := #[{ on := 6, ground := Ground.data }], guard := none }) (v := ?_) rfl (by kernel_rfl) (by kernel_rfl) (by kernel_rfl) (fun _ _ _ h => h) (Or.inl ⟨by rfl, ?_⟩) (by assumption) ?_
          rotate_left 1
          · intro w0 hSw
            go_simp
            with_reducible rfl
          simp only [Act.put, List.setIfInBounds_toArray, List.set_cons_zero, List.set_cons_succ]
          refine wpAnyH_take (i := 8) (oi := { dst := some 43, op := Op.load 40 (Operand.tmp 42), type := 40, pos := "ref.go:132", after := #[{ on := 7, ground := Ground.data }], guard := none }) (v := ?_) rfl (by kernel_rfl) (by kernel_rfl) (by kernel_rfl) (fun _ _ _ h => h) (Or.inl ⟨by rfl, ?_⟩) (by assumption) ?_
          rotate_left 1
          · intro w0 hSw
            go_simp
            with_reducible rfl
          simp only [Act.put, List.setIfInBounds_toArray, List.set_cons_zero, List.set_cons_succ]
          refine wpAnyH_take (i := 9) (oi := { dst := some 44, op := Op.move (Operand.tmp 5), type := 3, pos := "ref.go:132", after := #[], guard := none }) (v := ?_) rfl (by kernel_rfl) (by kernel_rfl) (by kernel_rfl) (fun _ _ _ h => h) (Or.inl ⟨by rfl, ?_⟩) (by assumption) ?_
          rotate_left 1
          · intro w0 hSw
            go_simp
            with_reducible rfl
          simp only [Act.put, List.setIfInBounds_toArray, List.set_cons_zero, List.set_cons_succ]
          refine wpAnyH_take (i := 10) (oi := { dst := some 45, op := Op.indexAddr 40 (Operand.tmp 43) (Operand.tmp 44), type := 0, pos := "ref.go:132", after := #[{ on := 8, ground := Ground.data }, { on := 9, ground := Ground.data }], guard := none }) (v := ?_) rfl (by kernel_rfl) (by kernel_rfl) (by kernel_rfl) (fun _ _ _ h => h) (Or.inl ⟨by rfl, ?_⟩) (by assumption) ?_
          rotate_left 1
          · intro w0 hSw
            go_simp
            with_reducible rfl
          simp only [Act.put, List.setIfInBounds_toArray, List.set_cons_zero, List.set_cons_succ]
          refine wpAnyH_take (i := 12) (oi := { dst := some 47, op := Op.move (Operand.tmp 0), type := 29, pos := "ref.go:132", after := #[], guard := none }) (v := ?_) rfl (by kernel_rfl) (by kernel_rfl) (by kernel_rfl) (fun _ _ _ h => h) (Or.inl ⟨by rfl, ?_⟩) (by assumption) ?_
          rotate_left 1
          · intro w0 hSw
            go_simp
            with_reducible rfl
          simp only [Act.put, List.setIfInBounds_toArray, List.set_cons_zero, List.set_cons_succ]
          refine wpAnyH_take (i := 13) (oi := { dst := some 48, op := Op.nilCheck (Operand.tmp 47), type := 0, pos := "ref.go:132", after := #[{ on := 12, ground := Ground.data }], guard := none }) (v := ?_) rfl (by kernel_rfl) (by kernel_rfl) (by kernel_rfl) (fun _ _ _ h => h) (Or.inl ⟨by rfl, ?_⟩) (by assumption) ?_
          rotate_left 1
          · intro w0 hSw
            go_simp
            with_reducible rfl
          simp only [Act.put, List.setIfInBounds_toArray, List.set_cons_zero, List.set_cons_succ]
          refine wpAnyH_take (i := 14) (oi := { dst := some 49, op := Op.fieldAddr 43 (Operand.tmp 48) 2, type := 0, pos := "ref.go:132", after := #[{ on := 13, ground := Ground.data }], guard := none }) (v := ?_) rfl (by kernel_rfl) (by kernel_rfl) (by kernel_rfl) (fun _ _ _ h => h) (Or.inl ⟨by rfl, ?_⟩) (by assumption) ?_
          rotate_left 1
          · intro w0 hSw
            go_simp
            with_reducible rfl
          simp only [Act.put, List.setIfInBounds_toArray, List.set_cons_zero, List.set_cons_succ]
          refine wpAnyH_take (i := 15) (oi := { dst := some 50, op := Op.load 40 (Operand.tmp 49), type := 40, pos := "ref.go:132", after := #[{ on := 14, ground := Ground.data }], guard := none }) (v := ?_) rfl (by kernel_rfl) (by kernel_rfl) (by kernel_rfl) (fun _ _ _ h => h) (Or.inl ⟨by rfl, ?_⟩) (by assumption) ?_
          rotate_left 1
          · intro w0 hSw
            go_simp
            with_reducible rfl
          simp only [Act.put, List.setIfInBounds_toArray, List.set_cons_zero, List.set_cons_succ]
          refine wpAnyH_take (i := 16) (oi := { dst := some 51, op := Op.move (Operand.tmp 5), type := 3, pos := "ref.go:132", after := #[], guard := none }) (v := ?_) rfl (by kernel_rfl) (by kernel_rfl) (by kernel_rfl) (fun _ _ _ h => h) (Or.inl ⟨by rfl, ?_⟩) (by assumption) ?_
          rotate_left 1
          · intro w0 hSw
            go_simp
            with_reducible rfl
          simp only [Act.put, List.setIfInBounds_toArray, List.set_cons_zero, List.set_cons_succ]
          refine wpAnyH_take (i := 17) (oi := { dst := some 52, op := Op.indexAddr 40 (Operand.tmp 50) (Operand.tmp 51), type := 0, pos := "ref.go:132", after := #[{ on := 15, ground := Ground.data }, { on := 16, ground := Ground.data }], guard := none }) (v := ?_) rfl (by kernel_rfl) (by kernel_rfl) (by kernel_rfl) (fun _ _ _ h => h) (Or.inl ⟨by rfl, ?_⟩) (by assumption) ?_
          rotate_left 1
          · intro w0 hSw
            go_simp
            with_reducible rfl
          simp only [Act.put, List.setIfInBounds_toArray, List.set_cons_zero, List.set_cons_succ]
          refine wpAnyH_take (i := 18) (oi := { dst := some 53, op := Op.load 31 (Operand.tmp 52), type := 31, pos := "ref.go:132", after := #[{ on := 17, ground := Ground.data }], guard := none }) (v := ?_) rfl (by kernel_rfl) (by kernel_rfl) (by kernel_rfl) (fun _ _ _ h => h) (Or.inl ⟨by rfl, ?_⟩) (by assumption) ?_
          rotate_left 1
          · intro w0 hSw
            go_simp
            with_reducible rfl
          simp only [Act.put, List.setIfInBounds_toArray, List.set_cons_zero, List.set_cons_succ]
          refine wpAnyH_take (i := 19) (oi := { dst := some 54, op := Op.load 59 (Operand.tmp 6), type := 59, pos := "ref.go:132", after := #[], guard := none }) (v := ?_) rfl (by kernel_rfl) (by kernel_rfl) (by kernel_rfl) (fun _ _ _ h => h) (Or.inl ⟨by rfl, ?_⟩) (by assumption) ?_
          rotate_left 1
          · intro w0 hSw
            go_simp
            with_reducible rfl
          simp only [Act.put, List.setIfInBounds_toArray, List.set_cons_zero, List.set_cons_succ]
          refine wpAnyH_ready (rs := [11]) (by kernel_rfl) (by simp) ?_
          refine AllReadyH.cons (o := { dst := some 46, op := Op.load 31 (Operand.tmp 45), type := 31, pos := "ref.go:132", after := #[{ on := 10, ground := Ground.data }], guard := none }) rfl (fun K hK => ?_) AllReadyH.nil
          go_simp
          refine hK.out _ _ (by assumption) (fun hHeld => ?_)
          clear hK K
          try simp only [Act.put, List.setIfInBounds_toArray, List.set_cons_zero, List.set_cons_succ]
          refine wpAnyH_ready (rs := [20]) (by kernel_rfl) (by simp) ?_
          refine AllReadyH.cons (o := { dst := some 55, op := Op.call { callee := Callee.value (Operand.func 34), args := #[Operand.tmp 46, Operand.tmp 53, Operand.tmp 54], argTypes := #[31, 31, 59] }, type := 31, pos := "ref.go:132", after := #[{ on := 11, ground := Ground.data }, { on := 18, ground := Ground.data }, { on := 19, ground := Ground.data }], guard := none }) rfl (fun K hK => ?_) AllReadyH.nil
          go_simp
          go_at_call 34; refine (refLeft_is W.drew _ _ _ _ _ _ y x tb kind HY1.out.bys HX1.out.bys HT1.out hyl htl2).mono ?_; rintro e w5 ⟨v5, rfl, hv5, hk5⟩
          rw [HBS.out] at hv5
          have HV5 := Lib.hid hv5
          have HK5 := Lib.hid hk5.of_drew
          obtain ⟨A5, c5, rfl⟩ : ∃ A c, v5 = .slice A bs.length c := (by
            rcases hv5 with ⟨rfl, e⟩ | ⟨rfl, e⟩ | h
            · exact ⟨_, _, by rw [e]⟩
            · exact ⟨_, _, by rw [e]⟩
            · exact Bys.form h)
          have ZS := Lib.hid (show w5.cell? ⟨q, 1, none⟩ = some (.slice (some ⟨g1, 0, none⟩) s.last.length cL) ∧ w5.cell? ⟨q, 2, none⟩ = some (.slice (some ⟨g2, 0, none⟩) s.last.length cC) ∧ w5.cell? ⟨g2, k, none⟩ = some (.slice (some ⟨b, o, none⟩) x.length cx) ∧ w5.cell? ⟨t0, 0, none⟩ = some (.int .i64 kind) ∧ w5.cell? ⟨t0, 1, none⟩ = some (.slice A1 tb.length c1) from
            ⟨(HK5.out.cell (block_lt_of_cell y1) (fun h => h)).trans y1, (HK5.out.cell (block_lt_of_cell y2) (fun h => h)).trans y2, (HK5.out.cell (block_lt_of_cell y4) (fun h => h)).trans y4, (HK5.out.cell (block_lt_of_cell y5) (fun h => h)).trans y5, (HK5.out.cell (block_lt_of_cell y6) (fun h => h)).trans y6⟩)
          have y35 := (HK5.out.cell (block_lt_of_cell y3) (fun h => h)).trans y3
          have f5 : w5.frozen? ⟨g1, k, none⟩ = false := (HBG.out.of_eq (HK5.out.block _ b1' (fun h => h))).frozen k
          clear hv5 hk5
          go_wp2_with fail
          refine hK.out _ _ ZS.out (fun hHeld => ?_)
          clear hK K
          try simp only [Act.put, List.setIfInBounds_toArray, List.set_cons_zero, List.set_cons_succ]
          refine wpAnyH_take (i := 21) (oi := { dst := some 56, op := Op.indexAddr 40 (Operand.tmp 38) (Operand.tmp 39), type := 0, pos := "ref.go:132", after := #[{ on := 3, ground := Ground.data }, { on := 4, ground := Ground.data }, { on := 0, ground := Ground.phase }, { on := 1, ground := Ground.phase }, { on := 2, ground := Ground.phase }, { on := 3, ground := Ground.phase }, { on := 4, ground := Ground.phase }, { on := 5, ground := Ground.phase }, { on := 6, ground := Ground.phase }, { on := 7, ground := Ground.phase }, { on := 8, ground := Ground.phase }, { on := 9, ground := Ground.phase }, { on := 10, ground := Ground.phase }, { on := 11, ground := Ground.phase }, { on := 12, ground := Ground.phase }, { on := 13, ground := Ground.phase }, { on := 14, ground := Ground.phase }, { on := 15, ground := Ground.phase }, { on := 16, ground := Ground.phase }, { on := 17, ground := Ground.phase }, { on := 18, ground := Ground.phase }, { on := 19, ground := Ground.phase }, { on := 20, ground := Ground.phase }], guard := none }) (v := ?_) rfl (by kernel_rfl) (by kernel_rfl) (by kernel_rfl) (fun _ _ _ h => h) (Or.inl ⟨by rfl, ?_⟩) (by assumption) ?_
          rotate_left 1
          · intro w0 hSw
            go_simp
            with_reducible rfl
          simp only [Act.put, List.setIfInBounds_toArray, List.set_cons_zero, List.set_cons_succ]
          refine wpAnyH_ready (rs := [22]) (by kernel_rfl) (by simp) ?_
          refine AllReadyH.cons (o := { dst := none, op := Op.store 31 (Operand.tmp 56) (Operand.tmp 55), type := 0, pos := "ref.go:132", after := #[{ on := 21, ground := Ground.data }, { on := 20, ground := Ground.data }, { on := 20, ground := Ground.chain }, { on := 0, ground := Ground.phase }, { on := 1, ground := Ground.phase }, { on := 2, ground := Ground.phase }, { on := 3, ground := Ground.phase }, { on := 4, ground := Ground.phase }, { on := 5, ground := Ground.phase }, { on := 6, ground := Ground.phase }, { on := 7, ground := Ground.phase }, { on := 8, ground := Ground.phase }, { on := 9, ground := Ground.phase }, { on := 10, ground := Ground.phase }, { on := 11, ground := Ground.phase }, { on := 12, ground := Ground.phase }, { on := 13, ground := Ground.phase }, { on := 14, ground := Ground.phase }, { on := 15, ground := Ground.phase }, { on := 16, ground := Ground.phase }, { on := 17, ground := Ground.phase }, { on := 18, ground := Ground.phase }, { on := 19, ground := Ground.phase }, { on := 20, ground := Ground.phase }], guard := none }) rfl (fun K hK => ?_) AllReadyH.nil
          go_simp
          refine hK.out _ _ (by go_keep) (fun hHeld => ?_)
          clear hK K
          refine wpAnyH_done (by kernel_rfl) ?_ _
          have R := refCrash_step HSL.out HR.out hlt HFT.out HKK.out (HKW.out.trans HK5.out) HBY.out HBX.out (by rw [HSZ.out]; exact HBL.out) (by
            rcases HV5.out with h | h | h
            · exact .inl h
            · exact .inr (.inl h)
            · exact .inr (.inr (h.mono fun b hb => Nat.le_trans HKW.out.size hb)))
          have HR1 := Lib.hid R.1
          have HR2 := Lib.hid R.2
          have RS1 := Lib.hid (congrArg Prod.fst HST.out)
          have RM := Lib.hid (congrArg Prod.snd HST.out)
          have z2 := ZS.out.2.1
          have z3 : w5.cell? ⟨g2, k, none⟩ = some (.slice (some ⟨b, o, none⟩) x.length cx) := ZS.out.2.2.1
          have z4 : w5.frozen? ⟨g2, k, none⟩ = false := (HB2.out.of_eq ((HKW.out.trans HK5.out).block _ HB2.out.lt (fun h => h))).frozen k
          clear R y1 y2 y3 y4 y5 y6 y35 f1 f5 hnt
          go_wp2_with fail
          go_roundw
          case rel => exact ⟨k + 1, by omega, by go_num, by rw [RM.out]; go_num, ⟨_, _, by rw [RS1.out]; exact HR1.out⟩, HR2.out⟩
          case measure => simp [intOf]; omega
        · obtain ⟨rfl, rfl, et⟩ := htout (by omega)
          simp only [Prod.mk.injEq] at et
          obtain ⟨rfl, rfl⟩ := et
          clear htin htout
          have hm1 : (ts.length : Int) ≤ (m : Int) := by omega
          go_wp2_with fail
          obtain ⟨W, hW⟩ : ∃ x, wr.alloc (.cells #[.int .i64 0, .slice none 0 0] 59) = x := ⟨_, rfl⟩
          have hkW : Keeps No wr W := by rw [← hW]; exact (Keeps.refl No wr).alloc _
          have hbW : Blk W wr.heap.size 59 #[.int .i64 0, .slice none 0 0] := by rw [← hW]; exact Blk.new wr 59 _
          rw [hW]
          have y1 := (hkW.cell (o := 1) bq (fun h => h)).trans z1
          have y2 := (hkW.cell (o := 2) bq (fun h => h)).trans c2
          have y3 := (hkW.cell (o := k) b1 (fun h => h)).trans hc1
          have y4 := (hkW.cell (o := k) b2 (fun h => h)).trans hc2
          have y5 := hbW.cell 0
          have y6 := hbW.cell 1
          simp only [List.getElem?_toArray, List.getElem?_cons_succ, List.getElem?_cons_zero] at y5 y6
          have HBW := Lib.hid hbW
          have HKW := Lib.hid hkW
          have HX1 := Lib.hid (HBX.out.keeps hkW.drew (fun _ _ h => h))
          have HY1 := Lib.hid (HBY.out.keeps hkW.drew (fun _ _ h => h))
          have HT1 := Lib.hid (HTB.out.keeps hkW.drew (fun _ _ _ h => h))
          have f1 : W.frozen? ⟨g1, k, none⟩ = false := (HB1.out.of_eq (hkW.block _ b1 (fun h => h))).frozen k
          have b1' : g1 < W.heap.size := Nat.lt_of_lt_of_le b1 hkW.size
          have hnt : g1 ≠ wr.heap.size := by omega
          have HBG := Lib.hid (HB1.out.of_eq (hkW.block _ b1 (fun h => h)))
          generalize wr.heap.size = t0 at *
          clear hW hkW hbW z1 c2 hc1 hc2
          refine wp_region_held_drew (S := (fun w' => w'.cell? ⟨q, 1, none⟩ = some (.slice (some ⟨g1, 0, none⟩) s.last.length cL) ∧ w'.cell? ⟨q, 2, none⟩ = some (.slice (some ⟨g2, 0, none⟩) s.last.length cC) ∧ w'.cell? ⟨g2, k, none⟩ = some (.slice (some ⟨b, o, none⟩) x.length cx) ∧ w'.cell? ⟨t0, 0, none⟩ = some (.int .i64 0) ∧ w'.cell? ⟨t0, 1, none⟩ = some (.slice none 0 0))) (by kernel_rfl) (by go_keep) (fun hHeld => ?_)
          refine wpAnyH_take (i := 0) (oi := { dst := some 35, op := Op.move (Operand.tmp 0), type := 29, pos := "ref.go:132", after := #[], guard := none }) (v := ?_) rfl (by kernel_rfl) (by kernel_rfl) (by kernel_rfl) (fun _ _ _ h => h) (Or.inl ⟨by rfl, ?_⟩) (by assumption) ?_
          rotate_left 1
          · intro w0 hSw
            go_simp
            with_reducible rfl
          simp only [Act.put, List.setIfInBounds_toArray, List.set_cons_zero, List.set_cons_succ]
          refine wpAnyH_take (i := 1) (oi := { dst := some 36, op := Op.nilCheck (Operand.tmp 35), type := 0, pos := "ref.go:132", after := #[{ on := 0, ground := Ground.data }], guard := none }) (v := ?_) rfl (by kernel_rfl) (by kernel_rfl) (by kernel_rfl) (fun _ _ _ h => h) (Or.inl ⟨by rfl, ?_⟩) (by assumption) ?_
          rotate_left 1
          · intro w0 hSw
            go_simp
            with_reducible rfl
          simp only [Act.put, List.setIfInBounds_toArray, List.set_cons_zero, List.set_cons_succ]
          refine wpAnyH_take (i := 2) (oi := { dst := some 37, op := Op.fieldAddr 43 (Operand.tmp 36) 1, type := 0, pos := "ref.go:132", after := #[{ on := 1, ground := Ground.data }], guard := none }) (v := ?_) rfl (by kernel_rfl) (by kernel_rfl) (by kernel_rfl) (fun _ _ _ h => h) (Or.inl ⟨by rfl, ?_⟩) (by assumption) ?_
          rotate_left 1
          · intro w0 hSw
            go_simp
            with_reducible rfl
          simp only [Act.put, List.setIfInBounds_toArray, List.set_cons_zero, List.set_cons_succ]
          refine wpAnyH_take (i := 3) (oi := { dst := some 38, op := Op.load 40 (Operand.tmp 37), type := 40, pos := "ref.go:132", after := #[{ on := 2, ground := Ground.data }], guard := none }) (v := ?_) rfl (by kernel_rfl) (by kernel_rfl) (by kernel_rfl) (fun _ _ _ h => h) (Or.inl ⟨by rfl, ?_⟩) (by assumption) ?_
          rotate_left 1
          · intro w0 hSw
            go_simp
            with_reducible rfl
          simp only [Act.put, List.setIfInBounds_toArray, List.set_cons_zero, List.set_cons_succ]
          refine wpAnyH_take (i := 4) (oi := { dst := some 39, op := Op.move (Operand.tmp 5), type := 3, pos := "ref.go:132", after := #[], guard := none }) (v := ?_) rfl (by kernel_rfl) (by kernel_rfl) (by kernel_rfl) (fun _ _ _ h => h) (Or.inl ⟨by rfl, ?_⟩) (by assumption) ?_
          rotate_left 1
          · intro w0 hSw
            go_simp
            with_reducible rfl
          simp only [Act.put, List.setIfInBounds_toArray, List.set_cons_zero, List.set_cons_succ]
          refine wpAnyH_take (i := 5) (oi := { dst := some 40, op := Op.move (Operand.tmp 0), type := 29, pos := "ref.go:132", after := #[], guard := none }) (v := ?_) rfl (by kernel_rfl) (by kernel_rfl) (by kernel_rfl) (fun _ _ _ h => h) (Or.inl ⟨by rfl, ?_⟩) (by assumption) ?_
          rotate_left 1
          · intro w0 hSw
            go_simp
            with_reducible rfl
          simp only [Act.put, List.setIfInBounds_toArray, List.set_cons_zero, List.set_cons_succ]
          refine wpAnyH_take (i := 6) (oi := { dst := some 41, op := Op.nilCheck (Operand.tmp 40), type := 0, pos := "ref.go:132", after := #[{ on := 5, ground := Ground.data }], guard := none }) (v := ?_) rfl (by kernel_rfl) (by kernel_rfl) (by kernel_rfl) (fun _ _ _ h => h) (Or.inl ⟨by rfl, ?_⟩) (by assumption) ?_
          rotate_left 1
          · intro w0 hSw
            go_simp
            with_reducible rfl
          simp only [Act.put, List.setIfInBounds_toArray, List.set_cons_zero, List.set_cons_succ]
          refine wpAnyH_take (i := 7) (oi := { dst := some 42, op := Op.fieldAddr 43 (Operand.tmp 41) 1, type := 0, pos := "ref.go:132", after := #[{ on := 6, ground := Ground.data }], guard := none }) (v := ?_) rfl (by kernel_rfl) (by kernel_rfl) (by kernel_rfl) (fun _ _ _ h => h) (Or.inl ⟨by rfl, ?_⟩) (by assumption) ?_
          rotate_left 1
          · intro w0 hSw
            go_simp
            with_reducible rfl
          simp only [Act.put, List.setIfInBounds_toArray, List.set_cons_zero, List.set_cons_succ]
          refine wpAnyH_take (i := 8) (oi := { dst := some 43, op := Op.load 40 (Operand.tmp 42), type := 40, pos := "ref.go:132", after := #[{ on := 7, ground := Ground.data }], guard := none }) (v := ?_) rfl (by kernel_rfl) (by kernel_rfl) (by kernel_rfl) (fun _ _ _ h => h) (Or.inl ⟨by rfl, ?_⟩) (by assumption) ?_
          rotate_left 1
          · intro w0 hSw
            go_simp
            with_reducible rfl
          simp only [Act.put, List.setIfInBounds_toArray, List.set_cons_zero, List.set_cons_succ]
          refine wpAnyH_take (i := 9) (oi := { dst := some 44, op := Op.move (Operand.tmp 5), type := 3, pos := "ref.go:132", after := #[], guard := none }) (v := ?_) rfl (by kernel_rfl) (by kernel_rfl) (by kernel_rfl) (fun _ _ _ h => h) (Or.inl ⟨by rfl, ?_⟩) (by assumption) ?_
          rotate_left 1
          · intro w0 hSw
            go_simp
            with_reducible rfl
          simp only [Act.put, List.setIfInBounds_toArray, List.set_cons_zero, List.set_cons_succ]
          refine wpAnyH_take (i := 10) (oi := { dst := some 45, op := Op.indexAddr 40 (Operand.tmp 43) (Operand.tmp 44), type := 0, pos := "ref.go:132", after := #[{ on := 8, ground := Ground.data }, { on := 9, ground := Ground.data }], guard := none }) (v := ?_) rfl (by kernel_rfl) (by kernel_rfl) (by kernel_rfl) (fun _ _ _ h => h) (Or.inl ⟨by rfl, ?_⟩) (by assumption) ?_
          rotate_left 1
          · intro w0 hSw
            go_simp
            with_reducible rfl
          simp only [Act.put, List.setIfInBounds_toArray, List.set_cons_zero, List.set_cons_succ]
          refine wpAnyH_take (i := 12) (oi := { dst := some 47, op := Op.move (Operand.tmp 0), type := 29, pos := "ref.go:132", after := #[], guard := none }) (v := ?_) rfl (by kernel_rfl) (by kernel_rfl) (by kernel_rfl) (fun _ _ _ h => h) (Or.inl ⟨by rfl, ?_⟩) (by assumption) ?_
          rotate_left 1
          · intro w0 hSw
            go_simp
            with_reducible rfl
          simp only [Act.put, List.setIfInBounds_toArray, List.set_cons_zero, List.set_cons_succ]
          refine wpAnyH_take (i := 13) (oi := { dst := some 48, op := Op.nilCheck (Operand.tmp 47), type := 0, pos := "ref.go:132", after := #[{ on := 12, ground := Ground.data }], guard := none }) (v := ?_) rfl (by kernel_rfl) (by kernel_rfl) (by kernel_rfl) (fun _ _ _ h => h) (Or.inl ⟨by rfl, ?_⟩) (by assumption) ?_
          rotate_left 1
          · intro w0 hSw
            go_simp
            with_reducible rfl
          simp only [Act.put, List.setIfInBounds_toArray, List.set_cons_zero, List.set_cons_succ]
          refine wpAnyH_take (i := 14) (oi := { dst := some 49, op := Op.fieldAddr 43 (Operand.tmp 48) 2, type := 0, pos := "ref.go:132", after := #[{ on := 13, ground := Ground.data }], guard := none }) (v := ?_) rfl (by kernel_rfl) (by kernel_rfl) (by kernel_rfl) (fun _ _ _ h => h) (Or.inl ⟨by rfl, ?_⟩) (by assumption) ?_
          rotate_left 1
          · intro w0 hSw
            go_simp
            with_reducible rfl
          simp only [Act.put, List.setIfInBounds_toArray, List.set_cons_zero, List.set_cons_succ]
          refine wpAnyH_take (i := 15) (oi := { dst := some 50, op := Op.load 40 (Operand.tmp 49), type := 40, pos := "ref.go:132", after := #[{ on := 14, ground := Ground.data }], guard := none }) (v := ?_) rfl (by kernel_rfl) (by kernel_rfl) (by kernel_rfl) (fun _ _ _ h => h) (Or.inl ⟨by rfl, ?_⟩) (by assumption) ?_
          rotate_left 1
          · intro w0 hSw
            go_simp
            with_reducible rfl
          simp only [Act.put, List.setIfInBounds_toArray, List.set_cons_zero, List.set_cons_succ]
          refine wpAnyH_take (i := 16) (oi := { dst := some 51, op := Op.move (Operand.tmp 5), type := 3, pos := "ref.go:132", after := #[], guard := none }) (v := ?_) rfl (by kernel_rfl) (by kernel_rfl) (by kernel_rfl) (fun _ _ _ h => h) (Or.inl ⟨by rfl, ?_⟩) (by assumption) ?_
          rotate_left 1
          · intro w0 hSw
            go_simp
            with_reducible rfl
          simp only [Act.put, List.setIfInBounds_toArray, List.set_cons_zero, List.set_cons_succ]
          refine wpAnyH_take (i := 17) (oi := { dst := some 52, op := Op.indexAddr 40 (Operand.tmp 50) (Operand.tmp 51), type := 0, pos := "ref.go:132", after := #[{ on := 15, ground := Ground.data }, { on := 16, ground := Ground.data }], guard := none }) (v := ?_) rfl (by kernel_rfl) (by kernel_rfl) (by kernel_rfl) (fun _ _ _ h => h) (Or.inl ⟨by rfl, ?_⟩) (by assumption) ?_
          rotate_left 1
          · intro w0 hSw
            go_simp
            with_reducible rfl
          simp only [Act.put, List.setIfInBounds_toArray, List.set_cons_zero, List.set_cons_succ]
          refine wpAnyH_take (i := 18) (oi := { dst := some 53, op := Op.load 31 (Operand.tmp 52), type := 31, pos := "ref.go:132", after := #[{ on := 17, ground := Ground.data }], guard := none }) (v := ?_) rfl (by kernel_rfl) (by kernel_rfl) (by kernel_rfl) (fun _ _ _ h => h) (Or.inl ⟨by rfl, ?_⟩) (by assumption) ?_
          rotate_left 1
          · intro w0 hSw
            go_simp
            with_reducible rfl
          simp only [Act.put, List.setIfInBounds_toArray, List.set_cons_zero, List.set_cons_succ]
          refine wpAnyH_take (i := 19) (oi := { dst := some 54, op := Op.load 59 (Operand.tmp 6), type := 59, pos := "ref.go:132", after := #[], guard := none }) (v := ?_) rfl (by kernel_rfl) (by kernel_rfl) (by kernel_rfl) (fun _ _ _ h => h) (Or.inl ⟨by rfl, ?_⟩) (by assumption) ?_
          rotate_left 1
          · intro w0 hSw
            go_simp
            with_reducible rfl
          simp only [Act.put, List.setIfInBounds_toArray, List.set_cons_zero, List.set_cons_succ]
          refine wpAnyH_ready (rs := [11]) (by kernel_rfl) (by simp) ?_
          refine AllReadyH.cons (o := { dst := some 46, op := Op.load 31 (Operand.tmp 45), type := 31, pos := "ref.go:132", after := #[{ on := 10, ground := Ground.data }], guard := none }) rfl (fun K hK => ?_) AllReadyH.nil
          go_simp
          refine hK.out _ _ (by assumption) (fun hHeld => ?_)
          clear hK K
          try simp only [Act.put, List.setIfInBounds_toArray, List.set_cons_zero, List.set_cons_succ]
          refine wpAnyH_ready (rs := [20]) (by kernel_rfl) (by simp) ?_
          refine AllReadyH.cons (o := { dst := some 55, op := Op.call { callee := Callee.value (Operand.func 34), args := #[Operand.tmp 46, Operand.tmp 53, Operand.tmp 54], argTypes := #[31, 31, 59] }, type := 31, pos := "ref.go:132", after := #[{ on := 11, ground := Ground.data }, { on := 18, ground := Ground.data }, { on := 19, ground := Ground.data }], guard := none }) rfl (fun K hK => ?_) AllReadyH.nil
          go_simp
          go_at_call 34; refine (refLeft_is W.drew _ _ _ _ _ _ y x [] 0 HY1.out.bys HX1.out.bys HT1.out hyl htl2).mono ?_; rintro e w5 ⟨v5, rfl, hv5, hk5⟩
          rw [HBS.out] at hv5
          have HV5 := Lib.hid hv5
          have HK5 := Lib.hid hk5.of_drew
          obtain ⟨A5, c5, rfl⟩ : ∃ A c, v5 = .slice A bs.length c := (by
            rcases hv5 with ⟨rfl, e⟩ | ⟨rfl, e⟩ | h
            · exact ⟨_, _, by rw [e]⟩
            · exact ⟨_, _, by rw [e]⟩
            · exact Bys.form h)
          have ZS := Lib.hid (show w5.cell? ⟨q, 1, none⟩ = some (.slice (some ⟨g1, 0, none⟩) s.last.length cL) ∧ w5.cell? ⟨q, 2, none⟩ = some (.slice (some ⟨g2, 0, none⟩) s.last.length cC) ∧ w5.cell? ⟨g2, k, none⟩ = some (.slice (some ⟨b, o, none⟩) x.length cx) ∧ w5.cell? ⟨t0, 0, none⟩ = some (.int .i64 0) ∧ w5.cell? ⟨t0, 1, none⟩ = some (.slice none 0 0) from
            ⟨(HK5.out.cell (block_lt_of_cell y1) (fun h => h)).trans y1, (HK5.out.cell (block_lt_of_cell y2) (fun h => h)).trans y2, (HK5.out.cell (block_lt_of_cell y4) (fun h => h)).trans y4, (HK5.out.cell (block_lt_of_cell y5) (fun h => h)).trans y5, (HK5.out.cell (block_lt_of_cell y6) (fun h => h)).trans y6⟩)
          have y35 := (HK5.out.cell (block_lt_of_cell y3) (fun h => h)).trans y3
          have f5 : w5.frozen? ⟨g1, k, none⟩ = false := (HBG.out.of_eq (HK5.out.block _ b1' (fun h => h))).frozen k
          clear hv5 hk5
          go_wp2_with fail
          refine hK.out _ _ ZS.out (fun hHeld => ?_)
          clear hK K
          try simp only [Act.put, List.setIfInBounds_toArray, List.set_cons_zero, List.set_cons_succ]
          refine wpAnyH_take (i := 21) (oi := { dst := some 56, op := Op.indexAddr 40 (Operand.tmp 38) (Operand.tmp 39), type := 0, pos := "ref.go:132", after := #[{ on := 3, ground := Ground.data }, { on := 4, ground := Ground.data }, { on := 0, ground := Ground.phase }, { on := 1, ground := Ground.phase }, { on := 2, ground := Ground.phase }, { on := 3, ground := Ground.phase }, { on := 4, ground := Ground.phase }, { on := 5, ground := Ground.phase }, { on := 6, ground := Ground.phase }, { on := 7, ground := Ground.phase }, { on := 8, ground := Ground.phase }, { on := 9, ground := Ground.phase }, { on := 10, ground := Ground.phase }, { on := 11, ground := Ground.phase }, { on := 12, ground := Ground.phase }, { on := 13, ground := Ground.phase }, { on := 14, ground := Ground.phase }, { on := 15, ground := Ground.phase }, { on := 16, ground := Ground.phase }, { on := 17, ground := Ground.phase }, { on := 18, ground := Ground.phase }, { on := 19, ground := Ground.phase }, { on := 20, ground := Ground.phase }], guard := none }) (v := ?_) rfl (by kernel_rfl) (by kernel_rfl) (by kernel_rfl) (fun _ _ _ h => h) (Or.inl ⟨by rfl, ?_⟩) (by assumption) ?_
          rotate_left 1
          · intro w0 hSw
            go_simp
            with_reducible rfl
          simp only [Act.put, List.setIfInBounds_toArray, List.set_cons_zero, List.set_cons_succ]
          refine wpAnyH_ready (rs := [22]) (by kernel_rfl) (by simp) ?_
          refine AllReadyH.cons (o := { dst := none, op := Op.store 31 (Operand.tmp 56) (Operand.tmp 55), type := 0, pos := "ref.go:132", after := #[{ on := 21, ground := Ground.data }, { on := 20, ground := Ground.data }, { on := 20, ground := Ground.chain }, { on := 0, ground := Ground.phase }, { on := 1, ground := Ground.phase }, { on := 2, ground := Ground.phase }, { on := 3, ground := Ground.phase }, { on := 4, ground := Ground.phase }, { on := 5, ground := Ground.phase }, { on := 6, ground := Ground.phase }, { on := 7, ground := Ground.phase }, { on := 8, ground := Ground.phase }, { on := 9, ground := Ground.phase }, { on := 10, ground := Ground.phase }, { on := 11, ground := Ground.phase }, { on := 12, ground := Ground.phase }, { on := 13, ground := Ground.phase }, { on := 14, ground := Ground.phase }, { on := 15, ground := Ground.phase }, { on := 16, ground := Ground.phase }, { on := 17, ground := Ground.phase }, { on := 18, ground := Ground.phase }, { on := 19, ground := Ground.phase }, { on := 20, ground := Ground.phase }], guard := none }) rfl (fun K hK => ?_) AllReadyH.nil
          go_simp
          refine hK.out _ _ (by go_keep) (fun hHeld => ?_)
          clear hK K
          refine wpAnyH_done (by kernel_rfl) ?_ _
          have R := refCrash_step HSL.out HR.out hlt HFT.out HKK.out (HKW.out.trans HK5.out) HBY.out HBX.out (by rw [HSZ.out]; exact HBL.out) (by
            rcases HV5.out with h | h | h
            · exact .inl h
            · exact .inr (.inl h)
            · exact .inr (.inr (h.mono fun b hb => Nat.le_trans HKW.out.size hb)))
          have HR1 := Lib.hid R.1
          have HR2 := Lib.hid R.2
          have RS1 := Lib.hid (congrArg Prod.fst HST.out)
          have RM := Lib.hid (congrArg Prod.snd HST.out)
          have z2 := ZS.out.2.1
          have z3 : w5.cell? ⟨g2, k, none⟩ = some (.slice (some ⟨b, o, none⟩) x.length cx) := ZS.out.2.2.1
          have z4 : w5.frozen? ⟨g2, k, none⟩ = false := (HB2.out.of_eq ((HKW.out.trans HK5.out).block _ HB2.out.lt (fun h => h))).frozen k
          clear R y1 y2 y3 y4 y5 y6 y35 f1 f5 hnt
          go_wp2_with fail
          go_roundw
          case rel => exact ⟨k + 1, by omega, by go_num, by rw [RM.out]; go_num, ⟨_, _, by rw [RS1.out]; exact HR1.out⟩, HR2.out⟩
          case measure => simp [intOf]; omega
    · obtain rfl : k = s.last.length := by omega
      have R := Lib.hid (show RefAt wr q (Grow F w wr) (s.crash ts) from ⟨_, _, _, _, _, hr⟩)
      clear hr hsl hkk hm hsz
      generalize (s.crashTo refLeft ts s.last.length).2 = m at *
      go_wp2_with fail
      go_end0
      exact ⟨rfl, R.out, HKK.out⟩
end Go.Proofs.Ytconholnjhjhcaa
