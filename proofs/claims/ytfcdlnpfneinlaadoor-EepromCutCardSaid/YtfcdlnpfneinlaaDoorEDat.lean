/-
  THE WALK OF (*Chip).hearData.
-/
import Derived.Test.YtfcdlnpfneinlaaDoorEColl
namespace Go.Proofs.YtfcdlnpfneinlaaDoor
open Go.RowKit
set_option maxRecDepth 20000

theorem getL_last {l : List (Int × Int)} (h : l ≠ []) : ∃ k c, getL l k = some c := by
  obtain ⟨a, x, rfl⟩ : ∃ a x, l = a ++ [x] := by
    induction l using snoc_rec with
    | h0 => exact absurd rfl h
    | h1 l x _ => exact ⟨l, x, rfl⟩
  exact ⟨x.1, x.2, by rw [getL_snoc, if_pos rfl]⟩
/-- what was collected waits -/
theorem stop_in {w w' : World} {p d cap l : Nat} {cm wm : Option Nat} {F : Nat → Prop} {s : Chip} (h : ChipIn w p d cap l cm wm F s) (hk : Keeps (fun b => b = p) w w')
    (hb : Blk w' p 70 (cellsOf p (.slice (some ⟨d, 0, none⟩) s.data.length cap) l cm cm { s with wait := s.coll, left := 50, join := true })) : ChipIn w' p d cap l cm cm F { s with wait := s.coll, left := 50, join := true } := by
  have he : ∀ b, b < w.heap.size → b ≠ p → w'.heap[b]? = w.heap[b]? := fun b hb hn => hk.block b hb hn
  have hm : MapIs w' cm s.coll := h.coll.keep fun b hb => he b (h.coll.lt hb) (by
    obtain ⟨es, clock, h1⟩ := h.coll.blk hb
    exact not_blk h.blk h1)
  refine { h with blk := hb, data := ?_, line := ?_, coll := hm, wait := hm, apart := (fun e => by cases e), tab := ?_, fw := h.fc, there := fun b hb => Nat.lt_of_lt_of_le (h.there b hb) hk.size }
  · exact h.data.same fun g hg => by
      simp [Value.ownBlock] at hg
      subst hg
      exact he _ (h.there _ h.fd) h.p_ne_d
  · exact Blk.of_eq h.line (he _ (h.there _ h.fl) (Blk.ne_ h.line h.blk (by decide)))
  · exact tab_keeps h.tab hk (fun e => h.ft (by rw [e]; exact h.fp))
theorem Reads.size {D : DataW Unit} {l : List (Int × Int)} (h : Reads D l) (hm : Maps.IsMap D) (hl : l ≠ []) : 0 < Maps.size D := by
  obtain ⟨k, c, hk⟩ := getL_last hl
  have := h.has k
  rw [hk] at this
  obtain ⟨es, rfl⟩ := hm
  rw [Maps.has_eq] at this
  rw [Maps.size_eq]
  cases es with
  | nil => simp at this
  | cons e es => simp
/-- how many places the map has -/
theorem MapIs.len {w : World} {m : Option Nat} {l : List (Int × Int)} (h : MapIs w m l) : ∃ k : Nat, (∀ ty, (Builtin.len_ #[68] ty #[.map m]).run Tryd.prog w = .ok (.int .i64 k) w) ∧ (0 < k ↔ l ≠ []) ∧ k ≤ l.length := by
  rcases h with ⟨rfl, rfl⟩ | ⟨b, D, rfl, h1, h2, h3⟩
  · exact ⟨0, fun ty => Maps.len_nil Tryd.underlying68 ty, by simp, Nat.le_refl _⟩
  · exact ⟨Maps.size D, fun ty => h2.len Tryd.underlying68 ty, ⟨fun _ => h1, fun _ => h3.size h2.isMap h1⟩, h2.size_le⟩
set_option maxRecDepth 100000 in
set_option maxHeartbeats 4000000 in
theorem dat_any (w : World) (p : Nat) (F : Nat → Prop) (s : Chip) (n e : Int) (line wp : Bool) (h : ChipAt w p F s) (hok : s.Ok n) (hj : s.join = false) (hn : n ≤ 1000000) (he : e = 2 ∨ e = 3 ∨ e = 4) :
    Calls Tryd.prog 80 #[.pointer (some ⟨p, 0, none⟩), nowV e line wp] w (Did p F (s.dat e line wp) w) := by
  have HT := Lib.hid h.tab
  have HB := Lib.hid (h.went.box h.tab (.cells #[.int .i64 e, .bool line, .bool wp] 72))
  obtain ⟨d, cap, l, cm, wm, hin⟩ := h
  have HI := Lib.hid hin
  have HK := Lib.hid hok
  have HJ := Lib.hid hj
  have HE := Lib.hid he
  have hct : 0 ≤ s.count ∧ s.count ≤ 1000000 := by have := hok.count; omega
  have HC := Lib.hid hct
  have HS := Lib.hid hok.shift
  have hlt := hin.blk.lt
  have hne : w.heap.size ≠ p := by omega
  obtain ⟨k, hlen, hk0, hk1⟩ := (hin.coll.keep (w' := w.alloc (.cells #[.int .i64 e, .bool line, .bool wp] 72)) fun b hb => Below.heap_alloc _ _ _ (hin.coll.lt hb)).len
  have f13 := hin.blk.frozen 13
  have f14 := hin.blk.frozen 14
  have c7 := hin.blk.cell 7
  have c12 := hin.blk.cell 12
  have c13 := hin.blk.cell 13
  have c14 := hin.blk.cell 14
  simp only [cellsOf, List.getElem?_toArray, List.getElem?_cons_zero, List.getElem?_cons_succ] at c7 c12 c13 c14
  unfold nowV
  by_cases hs : s.stops e wp = true
  · have hs' := hs
    simp only [Chip.stops, Bool.and_eq_true, decide_eq_true_eq, Bool.not_eq_true', List.isEmpty_eq_false_iff] at hs
    obtain ⟨rfl, h1, h2, rfl⟩ := hs
    have HR := Lib.hid (show s.dat 2 line false = { s with wait := s.coll, left := 50, join := true } by unfold Chip.dat; rw [if_pos hs'])
    have h1' : (s.count == 1) = true := by simp [h1]
    have hkp : 0 < k := hk0.2 h2
    clear hok hj he hct hin hs' h1 h2 hk0
    go_enter Tryd.func80, Tryd.ntmps80
    go_wp2_with fail
    go_end0
    rw [HR.out]
    have hk : Keeps (fun b => b = p) w ((w.setCell ⟨p, 13, none⟩ (.map cm)).setCell ⟨p, 14, none⟩ (.int .i64 50)) := ((Keeps.refl (fun b => b = p) w).set_ (p := ⟨p, 13, none⟩) (.inl rfl) _).set_ (p := ⟨p, 14, none⟩) (.inl rfl) _
    exact ⟨rfl, (Went.own HT.out HI.out.fp ⟨_, _, _, _, _, stop_in HI.out hk ((HI.out.blk.set_ 13 (.map cm)).set_ 14 (.int .i64 50))⟩ hk).box HT.out _⟩
  · have hs0 : s.stops e wp = false := by simpa using hs
    clear hs
    by_cases hw : s.whole e = true
    · have he4 : e = 4 ∧ s.count = 8 := by simpa [Chip.whole] using hw
      obtain ⟨rfl, h8⟩ := he4
      have HW := Lib.hid hw
      obtain ⟨b, hb⟩ : ∃ b, s.shift = b := ⟨_, rfl⟩
      have HD := Lib.hid hb
      have hb01 := HS.out
      rw [hb] at hb01
      have HR := Lib.hid (show s.dat 4 line wp = (({ s with count := 0 } : Chip).collect b).ack 3 by unfold Chip.dat; rw [hs0, hw, hb]; rfl)
      have HH := Lib.hid (show s.hear 4 line = { s with count := 0 } by unfold Chip.hear; rw [if_neg (by omega), if_pos ⟨rfl, h8⟩])
      have HO := Lib.hid (hok.whole0 hw)
      have hmf : ∀ (fn : Fn) (first cap : Array Value) (w : World), (Instr.makeFunc fn first cap).run Tryd.prog w = .ok (.func fn first cap) w := fun _ _ _ _ => rfl
      clear hok hj he hct hin hs0 hk0 hw h8 hb
      go_enter Tryd.func80, Tryd.ntmps80
      go_wp2_with fail
      refine (hear_any _ p _ s _ line _ HB.out.1 (by first | exact HE.out | decide) HS.out HC.out).mono ?_
      rintro e' w1 ⟨rfl, hz⟩
      rw [HH.out] at hz
      have Z := Lib.hid (HB.out.then_ hz HT.out)
      clear hz
      rw [HW.out, HD.out]
      go_wp2_with fail
      refine (collect_any _ p _ _ n b Z.out.1 HO.out HJ.out hn hb01).mono ?_
      rintro e' w2 ⟨rfl, hz⟩
      have Z2 := Lib.hid (Z.out.then_ hz HT.out)
      clear hz
      go_wp2_with fail
      refine (ack_any _ p _ _ 3 (by decide) Z2.out.1).mono ?_
      rintro e' w3 ⟨rfl, hz⟩
      have Z3 := Lib.hid (Z2.out.then_ hz HT.out)
      clear hz
      go_wp2_with fail
      go_end0
      rw [HR.out]
      exact ⟨rfl, Z3.out⟩
    · have hw0 : s.whole e = false := by simpa using hw
      have HW := Lib.hid hw0
      have HR := Lib.hid (show s.dat e line wp = s.hear e line by unfold Chip.dat; rw [hs0, hw0]; rfl)
      by_cases he2 : e = 2
      · subst he2
        by_cases h1 : s.count = 1
        · have h1' : (s.count == 1) = true := by simp [h1]
          by_cases h2 : s.coll = []
          · obtain rfl : k = 0 := by
              rcases Nat.eq_zero_or_pos k with h | h
              · exact h
              · exact absurd h2 (hk0.1 h)
            clear hok hj he hct hin hs0 hk0 hw hw0 h1 h2 hk1
            go_enter Tryd.func80, Tryd.ntmps80
            go_wp2_with fail
            refine (hear_any _ p _ s _ line _ HB.out.1 (by first | exact HE.out | decide) HS.out HC.out).mono ?_
            rintro e' w1 ⟨rfl, hz⟩
            have Z := Lib.hid (HB.out.then_ hz HT.out)
            clear hz
            rw [HW.out]
            go_wp2_with fail
            go_end0
            rw [HR.out]
            exact ⟨rfl, Z.out⟩
          · have hkp : 0 < k := hk0.2 h2
            obtain rfl : wp = true := by
              cases wp
              · simp [Chip.stops, h1, h2] at hs0
              · rfl
            clear hok hj he hct hin hs0 hk0 hw hw0 h1 h2
            go_enter Tryd.func80, Tryd.ntmps80
            go_wp2_with fail
            refine (hear_any _ p _ s _ line _ HB.out.1 (by first | exact HE.out | decide) HS.out HC.out).mono ?_
            rintro e' w1 ⟨rfl, hz⟩
            have Z := Lib.hid (HB.out.then_ hz HT.out)
            clear hz
            rw [HW.out]
            go_wp2_with fail
            go_end0
            rw [HR.out]
            exact ⟨rfl, Z.out⟩
        · have h1' : (s.count == 1) = false := by simp [h1]
          clear hok hj he hct hin hs0 hk0 hw hw0 h1
          go_enter Tryd.func80, Tryd.ntmps80
          go_wp2_with fail
          refine (hear_any _ p _ s _ line _ HB.out.1 (by first | exact HE.out | decide) HS.out HC.out).mono ?_
          rintro e' w1 ⟨rfl, hz⟩
          have Z := Lib.hid (HB.out.then_ hz HT.out)
          clear hz
          rw [HW.out]
          go_wp2_with fail
          go_end0
          rw [HR.out]
          exact ⟨rfl, Z.out⟩
      · have he2' : (e == 2) = false := by simp [he2]
        clear hok hj he hct hin hs0 hk0 hw hw0 he2
        go_enter Tryd.func80, Tryd.ntmps80
        go_wp2_with fail
        refine (hear_any _ p _ s _ line _ HB.out.1 (by first | exact HE.out | decide) HS.out HC.out).mono ?_
        rintro e' w1 ⟨rfl, hz⟩
        have Z := Lib.hid (HB.out.then_ hz HT.out)
        clear hz
        rw [HW.out]
        go_wp2_with fail
        go_end0
        rw [HR.out]
        exact ⟨rfl, Z.out⟩
end Go.Proofs.YtfcdlnpfneinlaaDoor
