/-
  THE WALKS OF Write, Fail.
-/
import Derived.Test.YthlemcnbebfliaaGreatDoorDLeft
namespace Go.Proofs.YthlemcnbebfliaaGreatDoor.Dsk
open Ks Go.RowKit
set_option maxRecDepth 20000

/-- F, and what is new since -/
def Grow (F : Nat → Prop) (w w' : World) : Nat → Prop := fun b => F b ∨ (w.heap.size ≤ b ∧ b < w'.heap.size)

/-- what a Write does, and tells -/
def _root_.Ks.St.put (s : St) (i : Int) (bs : List Int) : St := { s.tick with cach := fun k => if k = i then some bs else s.cach k, wr := s.wr + 1, cn := s.cn + 1 }
def _root_.Ks.St.write (s : St) (i : Int) (bs : List Int) : St × Int :=
  if s.fails then (s.tick, 3) else if i < 0 then (s.tick, 2) else if (s.last.length : Int) ≤ i then (s.tick, 4) else if bs.length ≠ s.size then (s.tick, 1) else (s.put i bs, 0)

def Tells (p : Nat) (F : Nat → Prop) (s : St) (w : World) (err : Int) (e : Ending) (w' : World) : Prop :=
  e = .returned (.int .i64 err) ∧ DiskAt Tryz.prog w' p (Grow F w w') s ∧ Keeps F w w'

theorem DiskAt.grow {w w' : World} {p : Nat} {F : Nat → Prop} {s : St} (h : DiskAt Tryz.prog w' p F s) : DiskAt Tryz.prog w' p (Grow F w w') s :=
  h.mono (fun b hb => .inl hb) (fun b hb => by rcases hb with hb | hb; exact h.there b hb; exact hb.2)

theorem put_in {w w1 w2 w3 : World} {p : Nat} {F : Nat → Prop} {s : St} {lastV : Value} {lv : List Value} {cb : Nat} {pm : Option Nat} {D : DataW Value} {i : Int} {v : Value} {bs : List Int}
    (h : DiskIn Tryz.prog w1 p F s.tick lastV lv cb pm D) (hk1 : Keeps F w w1) (hk2 : Keeps No w1 w2) (hv : Byt w2 (From w1.heap.size) v bs) (hlen : bs.length = s.size) (hi0 : 0 ≤ i) (hi1 : i < s.last.length)
    (hown : w3.ownsMap Tryz.prog 3 heldR cb (s.cn + 1) (D.put (K i) (.held v))) (hturn : w2.mapTurned w3 cb) :
    DiskAt Tryz.prog (w3.setCell ⟨p, 5, none⟩ (.int .i64 ((s.wr : Int) + 1))) p (Grow F w (w3.setCell ⟨p, 5, none⟩ (.int .i64 ((s.wr : Int) + 1)))) (s.put i bs) ∧ Keeps F w (w3.setCell ⟨p, 5, none⟩ (.int .i64 ((s.wr : Int) + 1))) := by
  have hin2 : DiskIn Tryz.prog w2 p F s.tick lastV lv cb pm D := h.keep (fun b hb => hk2.block b (h.there b hb) (fun h => h)) hk2.size
  have hsz : (w3.setCell ⟨p, 5, none⟩ (.int .i64 ((s.wr : Int) + 1))).heap.size = w3.heap.size := by simp [World.setCell]
  have hk3 : Keeps (Muts p lastV cb pm) w2 (w3.setCell ⟨p, 5, none⟩ (.int .i64 ((s.wr : Int) + 1))) :=
    ((Keeps.refl _ w2).grown hturn.grown (fun b hb => by simp at hb; exact .inl (.inr (.inr (.inl hb.symm))))).set_ (p := ⟨p, 5, none⟩) (.inl (.inl rfl)) _
  have hg : ∀ b, b < w2.heap.size → b ≠ p → b ≠ cb → (w3.setCell ⟨p, 5, none⟩ (.int .i64 ((s.wr : Int) + 1))).heap[b]? = w2.heap[b]? := fun b hb h1 h2 =>
    (Below.heap_setCell _ _ _ _ h1).trans (hturn.grown.block b hb (fun e => h2 (by simpa using e)))
  have hfrom : ∀ b, From w1.heap.size b → b < w2.heap.size → Grow F w (w3.setCell ⟨p, 5, none⟩ (.int .i64 ((s.wr : Int) + 1))) b := fun b hb hl => .inr ⟨Nat.le_trans hk1.size hb, by rw [hsz]; exact Nat.lt_of_lt_of_le hl hturn.grown.size⟩
  have hF : ∀ b, F b → Grow F w (w3.setCell ⟨p, 5, none⟩ (.int .i64 ((s.wr : Int) + 1))) b := fun b hb => .inl hb
  refine ⟨⟨lastV, lv, cb, pm, D.put (K i) (.held v), ⟨?_, hF _ h.fp, ownsRow_of_eq hin2.row fun g hg' => ?_, fun g hg' => hF _ (h.frow g hg'), fun k hk' => (hin2.bytes hk3 (hin2.sect k hk')).mono hF, h.lens, hF _ h.fcb, ?_, fun k => ?_, fun k b hb => ?_, (hin2.plan.mono hF).of_eq fun b hb => ?_, fun b hb => ?_⟩⟩, ?_⟩
  · have : Blk w3 p 101 _ := hin2.blk.of_eq (hturn.grown.block p hin2.blk.lt (fun e => hin2.p_ne_cb (by simpa using e.symm)))
    exact this.set_ 5 _
  · obtain ⟨cur, hc⟩ := hin2.row_blk hg'
    exact hg g hc.lt (fun e => hin2.p_ne_row (e ▸ hg')) (fun e => hin2.row_ne_cb (e ▸ hg'))
  · exact hown.setCell hin2.p_ne_cb _
  · simp only [St.put]
    by_cases e : k = i
    · subst e
      rw [if_pos rfl]
      refine ⟨v, fun z => Maps.atKey_put_same hin2.own.isMap (K_key k) _ z, ?_⟩
      have hv' : Byt w2 (fun b => From w1.heap.size b ∧ b < w2.heap.size) v bs := by
        obtain ⟨A, c, rfl, hc, hx⟩ := hv
        refine ⟨A, c, rfl, hc, fun h0 => ?_⟩
        obtain ⟨b, o, rfl, hb, hcs⟩ := hx h0
        exact ⟨b, o, rfl, ⟨⟨hb.1, hb.lt⟩, hb.2⟩, hcs⟩
      exact (hin2.bytes hk3 hv').mono fun b hb => hfrom b hb.1 hb.2
    · rw [if_neg e]
      have := (hin2.cache' hk3 (hin2.cache k)).mono hF
      have e1 : s.tick.cach k = s.cach k := rfl
      rw [e1] at this
      cases hc : s.cach k with
      | none =>
        rw [hc] at this
        exact (Maps.has_put_other (K_ne e) _).trans this
      | some bs =>
        rw [hc] at this
        obtain ⟨v', h1, h2⟩ := this
        exact ⟨v', fun z => (Maps.atKey_put_other (K_ne e) _ z).trans (h1 z), h2⟩
  · simp only [St.put] at hb
    split at hb
    · rename_i e
      subst e
      simp at hb
      subst hb
      exact ⟨hi0, hi1, hlen⟩
    · exact h.keys k b hb
  · have hne := hin2.plan_ne hb
    exact hg b (lt_of_heap (hin2.plan_map hb).2.2.choose_spec.choose_spec) hne.1 hne.2.2
  · rcases hb with hb | hb
    · rw [hsz]
      exact Nat.lt_of_lt_of_le (hin2.there b hb) hturn.grown.size
    · exact hb.2
  · exact (hk1.then hk2 (fun b hb => hb.elim)).then hk3 (fun b hb => .inl (h.muts hb))

set_option maxRecDepth 100000 in
set_option maxHeartbeats 2000000 in
theorem write_ok (w : World) (p : Nat) (F G : Nat → Prop) (s : St) (i : Int) (v : Value) (bs : List Int) (h : DiskAt Tryz.prog w p F s) (hv : Bys w G v bs) (hG : ∀ b, G b → b < w.heap.size → ¬ F b) (hops : s.ops < 1000000) (hwr : s.wr < 1000000) (hcn : s.cn < 1000000)
    (hn : s.last.length ≤ 4096) (hs : s.size ≤ 4096) (hf : s.fails = false) (h0 : 0 ≤ i) (h1 : i < s.last.length) (hl : bs.length = s.size) :
    Calls Tryz.prog 113 #[.pointer (some ⟨p, 0, none⟩), .int .i64 i, v] w (Tells p F (s.put i bs) w 0) := by
  have H := Lib.hid h
  have HF := Lib.hid hf
  have HG := Lib.hid hG
  obtain ⟨A, c, rfl, hvc, hvx⟩ := hv
  have HV := Lib.hid (show Bys w G (.slice A bs.length c) bs from ⟨A, c, rfl, hvc, hvx⟩)
  have HL := Lib.hid hl
  have hne : ((bs.length : Int) != (s.size : Int)) = false := by simp [hl]
  clear h hf hvx hl hG
  go_enter Tryz.func113, Tryz.ntmps113
  go_wp2_with fail
  refine (nextFails_any w p F s H.out hops).mono ?_
  rintro e w1 ⟨rfl, hd, hk⟩
  rw [HF.out]
  obtain ⟨lastV, lv, cb, pm, D, hin⟩ := hd
  have HK := Lib.hid hk
  have HD := Lib.hid hin
  have c0 := hin.c0
  have c1 := hin.c1
  have c2 := hin.c2
  have c5 := hin.c5
  have f5 := hin.blk.frozen 5
  obtain ⟨A', c', rfl⟩ := row_slice hin.row
  have hlast : s.tick.last.length = s.last.length := rfl
  have hsize : s.tick.size = s.size := rfl
  have hwrr : s.tick.wr = s.wr := rfl
  rw [hlast] at c1
  rw [hsize] at c0
  rw [hwrr] at c5
  have HV1 := Lib.hid (HV.out.keeps hk HG.out)
  clear hk hin hlast hsize hwrr
  go_wp2_with fail
  have Hc2 := Lib.hid c2
  have hkey := Lib.hid (key3 i (by omega) (by omega))
  go_region_held3 (fun w' => w'.cell? ⟨p, 2, none⟩ = some (.map (some cb))) (first | exact Z3.out | exact Z2.out | go_keep)
    (first | (go_at_call 57; refine (clone_any w1.drew G _ bs HV1.out (by have := HL.out; omega)).mono ?_; rintro e w2 ⟨v2, rfl, hb2, hk2⟩
              have Z2 := Lib.hid ((hk2.cell HD.out.blk.lt (fun h => h)).trans Hc2.out)
              obtain ⟨w3, hupd, hown3, hturn⟩ := (ownsMap_of_eq HD.out.own (hk2.block cb HD.out.own.lt (fun h => h))).store law3 Tryz.underlying98 (by unfold maxLen; have : s.tick.cn = s.cn := rfl; omega) hkey.out (show heldR v2 = some (.held v2, []) from rfl)
              have Z3 := Lib.hid (((Keeps.of_grown hturn.grown).cell (b := p) (o := 2) (Nat.lt_of_lt_of_le HD.out.blk.lt hk2.size) (fun e => HD.out.p_ne_cb (by simpa using e))).trans Z2.out)
              have HB2 := Lib.hid hb2
              have HK2 := Lib.hid hk2
              have HO3 := Lib.hid hown3
              have HT3 := Lib.hid hturn
              clear hb2 hk2 hown3 hturn))
  all_goals
    have hB3 : Blk w3 p 101 _ := ((HD.out.blk.of_eq (HK2.out.block p HD.out.blk.lt (fun h => h))).of_eq (HT3.out.grown.block p (Nat.lt_of_lt_of_le HD.out.blk.lt HK2.out.size) (fun e => HD.out.p_ne_cb (by simpa using e.symm))))
    have d5 : w3.cell? ⟨p, 5, none⟩ = some (.int .i64 (s.wr : Int)) := hB3.cell 5
    have g5 := hB3.frozen 5
    clear c0 c1 c2 c5 f5 hB3
    go_wp2_with fail
    go_ret
    have hp := put_in HD.out HK.out HK2.out.of_drew (show Byt w2 (From w1.heap.size) v2 bs from HB2.out) HL.out h0 h1 HO3.out HT3.out
    exact ⟨rfl, hp.1, hp.2⟩

set_option maxRecDepth 100000 in
set_option maxHeartbeats 2000000 in
theorem write_no (w : World) (p : Nat) (F : Nat → Prop) (s : St) (i : Int) (A : Option Addr) (n c : Nat) (h : DiskAt Tryz.prog w p F s) (hops : s.ops < 1000000)
    (err : Int)
    (he : err = if s.fails then 3 else if i < 0 then 2 else if (s.last.length : Int) ≤ i then 4 else 1) (hno : s.fails = true ∨ i < 0 ∨ (s.last.length : Int) ≤ i ∨ n ≠ s.size) :
    Calls Tryz.prog 113 #[.pointer (some ⟨p, 0, none⟩), .int .i64 i, .slice A n c] w (Tells p F s.tick w err) := by
  have H := Lib.hid h
  clear h
  cases hf : s.fails
  · rw [hf] at he hno
    have HF := Lib.hid hf
    have HE := Lib.hid he
    have HNO := Lib.hid hno
    clear he hno
    go_enter Tryz.func113, Tryz.ntmps113
    go_wp2_with fail
    refine (nextFails_any w p F s H.out hops).mono ?_
    rintro e w1 ⟨rfl, hd, hk⟩
    rw [HF.out]
    obtain ⟨lastV, lv, cb, pm, D, hin⟩ := hd
    have HK := Lib.hid hk
    have HD := Lib.hid hin
    have c0 := hin.c0
    have c1 := hin.c1
    obtain ⟨A', c', rfl⟩ := row_slice hin.row
    have hlast : s.tick.last.length = s.last.length := rfl
    have hsize : s.tick.size = s.size := rfl
    rw [hlast] at c1
    rw [hsize] at c0
    have HG := Lib.hid (show DiskAt Tryz.prog w1 p (Grow F w w1) s.tick from DiskAt.grow ⟨_, _, _, _, _, hin⟩)
    clear hk hin hlast hsize hf
    by_cases h0 : i < 0
    · obtain rfl : err = 2 := by simpa [h0] using HE.out
      clear HE HNO
      go_wp2_with fail
      go_ret
      exact ⟨rfl, HG.out, HK.out⟩
    have g0 : decide (i < 0) = false := by simp; omega
    by_cases h1 : (s.last.length : Int) ≤ i
    · obtain rfl : err = 4 := by simpa [h0, h1] using HE.out
      clear HE HNO h0
      go_wp2_with fail
      go_ret
      exact ⟨rfl, HG.out, HK.out⟩
    have h2 : n ≠ s.size := by
      rcases HNO.out with h | h | h | h
      · cases h
      · exact absurd h h0
      · exact absurd h h1
      · exact h
    have hb2 : ((n : Int) != (s.size : Int)) = true := by rw [bne_iff_ne]; omega
    have g1 : decide ((s.last.length : Int) ≤ i) = false := by simp; omega
    obtain rfl : err = 1 := by simpa [h0, h1] using HE.out
    clear HE HNO h2 h0 h1
    go_wp2_with fail
    go_ret
    exact ⟨rfl, HG.out, HK.out⟩
  · have HF := Lib.hid hf
    obtain rfl : err = 3 := by simpa [hf] using he
    clear hf he hno
    go_enter Tryz.func113, Tryz.ntmps113
    go_wp2_with fail
    refine (nextFails_any w p F s H.out hops).mono ?_
    rintro e w1 ⟨rfl, hd, hk⟩
    rw [HF.out]
    have HG := Lib.hid (show DiskAt Tryz.prog w1 p (Grow F w w1) s.tick from DiskAt.grow hd)
    have HK := Lib.hid hk
    clear hd hk
    go_wp2_with fail
    go_ret
    exact ⟨rfl, HG.out, HK.out⟩

theorem write_any (w : World) (p : Nat) (F G : Nat → Prop) (s : St) (i : Int) (v : Value) (bs : List Int) (h : DiskAt Tryz.prog w p F s) (hv : Bys w G v bs) (hG : ∀ b, G b → b < w.heap.size → ¬ F b) (hops : s.ops < 1000000) (hwr : s.wr < 1000000) (hcn : s.cn < 1000000)
    (hn : s.last.length ≤ 4096) (hs : s.size ≤ 4096) :
    Calls Tryz.prog 113 #[.pointer (some ⟨p, 0, none⟩), .int .i64 i, v] w (Tells p F (s.write i bs).1 w (s.write i bs).2) := by
  by_cases hno : s.fails = true ∨ i < 0 ∨ (s.last.length : Int) ≤ i ∨ bs.length ≠ s.size
  · have e : s.write i bs = (s.tick, if s.fails then 3 else if i < 0 then 2 else if (s.last.length : Int) ≤ i then 4 else 1) := by
      unfold Ks.St.write
      split
      · rfl
      · split
        · rfl
        · split
          · rfl
          · rename_i h1 h2 h3
            rw [if_pos (by rcases hno with h | h | h | h; exact absurd h h1; exact absurd h h2; exact absurd h h3; exact h)]
    rw [e]
    obtain ⟨A, c, rfl, _, _⟩ := hv
    exact write_no w p F s i A _ c h hops _ rfl hno
  · have hf : s.fails = false := by
      cases hf : s.fails
      · rfl
      · exact absurd (.inl hf) hno
    have h0 : ¬ i < 0 := fun h => hno (.inr (.inl h))
    have h1 : ¬ (s.last.length : Int) ≤ i := fun h => hno (.inr (.inr (.inl h)))
    have h2 : bs.length = s.size := Decidable.byContradiction fun h => hno (.inr (.inr (.inr h)))
    have e : s.write i bs = (s.put i bs, 0) := by
      unfold Ks.St.write
      simp [hf, h0, h1, h2]
    rw [e]
    exact write_ok w p F G s i v bs h hv hG hops hwr hcn hn hs hf (by omega) (by omega) h2
end Go.Proofs.YthlemcnbebfliaaGreatDoor.Dsk
