/-
  THE WALK OF DiskPlays.
-/
import Derived.Test.YtconholnjhjhcaaSim
import Derived.Test.YtconholnjhjhcaaCopies
namespace Go.Proofs.Ytconholnjhjhcaa
open Ks Go.RowKit

theorem ract_plans {s : St} {r : RS} (h : Sim s r) (o : OpD) : (ract r o).plans.length ≤ r.plans.length + 1 := by
  unfold ract
  split
  · unfold RS.write
    repeat' split
    all_goals simp [RS.tick, RS.put]
  split
  · simp [RS.tick]
  split
  · unfold RS.sync
    split
    · simp [RS.tick]
    · have := (syncTo_at r.tick h.tick.clen r.last.length (Nat.le_refl _)).2.2.2.2.1
      show (r.tick.syncTo r.last.length).plans.length ≤ _
      rw [this]
      simp [RS.tick]
  split
  · have := (crashTo_at r o.tears h.clen r.last.length (Nat.le_refl _)).2.2.2.2.1
    show (r.crashTo refLeft o.tears r.last.length).1.plans.length ≤ _
    rw [this]
    omega
  split
  · split
    · simp
    · omega
  · omega

theorem rsaid_len {s : St} {r : RS} (h : Sim s r) (o : OpD) : (rsaid r o).1.length ≤ r.size := by
  unfold rsaid
  split
  · simp
  split
  · unfold RS.read
    split
    · simp
    split
    · simp
    · rename_i h1
      have hi : o.i.toNat < r.last.length := by omega
      exact Nat.le_of_eq (lens_or h o.i.toNat hi)
  split
  · simp
  · simp

/-- where both disks stand behind k operations -/
structure Two (w : World) (N n m p q k : Nat) (wr : World) (s : St) (r : RS) (F G : Nat → Prop) : Prop where
  disk : DiskAt Try.prog wr p F s
  ref : RefAt wr q G r
  sim : Sim s r
  fits : s.fits k
  plans : r.plans.length ≤ k
  size : s.size = n
  len : s.last.length = m
  fN : ∀ b, F b → N ≤ b
  gN : ∀ b, G b → N ≤ b
  apart : ∀ b, G b → ¬ F b
  keep : Keeps No w wr
  hN : N ≤ wr.heap.size

section
variable {w wr w1 w2 : World} {N n m p q k : Nat} {s : St} {r : RS} {F G : Nat → Prop}
theorem Two.rfits (h : Two w N n m p q k wr s r F G) (hk : k ≤ 1000) (hn : n ≤ 1000) : r.fits 900000 := by
  obtain ⟨f1, f2, f3, f4, f5, f6⟩ := h.fits
  refine ⟨by rw [← h.sim.ops]; omega, by rw [← h.sim.wr]; omega, by have := h.plans; omega, by rw [← h.sim.last]; exact f5, by rw [← h.sim.size, h.size]; omega⟩
theorem Two.keeps (h : Two w N n m p q k wr s r F G) (hk : Keeps No wr w2) : Two w N n m p q k w2 s r F G :=
  ⟨h.disk.keeps hk (fun _ _ h => h), h.ref.keeps hk (fun _ _ h => h), h.sim, h.fits, h.plans, h.size, h.len, h.fN, h.gN, h.apart, h.keep.trans hk, Nat.le_trans h.hN hk.size⟩
theorem Two.step (h : Two w N n m p q k wr s r F G) (o : OpD) (ho : o.ok) (hw : w.heap.size ≤ N) (hd : DiskAt Try.prog w1 p (Grow F wr w1) (act s o)) (hk1 : Keeps F wr w1)
    (hr : RefAt w2 q (Grow G w1 w2) (ract r o)) (hk2 : Keeps G w1 w2) : Two w N n m p q (k + 1) w2 (act s o) (ract r o) (Grow F wr w1) (Grow G w1 w2) := by
  have hg : ∀ b, G b → b < wr.heap.size := h.ref.there
  have ha : ∀ b, Grow F wr w1 b → ¬ G b := fun b hb hG => by
    rcases hb with hb | hb
    · exact h.apart b hG hb
    · have := hg b hG; omega
  have hsz := act_size s o
  refine ⟨hd.keeps hk2 ha, hr, (h.sim.act o).1, act_fits h.fits o ho.1, by have := ract_plans h.sim o; have := h.plans; omega, by rw [hsz.1]; exact h.size, by rw [hsz.2]; exact h.len, ?_, ?_, ?_, ?_, Nat.le_trans h.hN (Nat.le_trans hk1.size hk2.size)⟩
  · intro b hb
    rcases hb with hb | hb
    · exact h.fN b hb
    · have := h.hN; omega
  · intro b hb
    rcases hb with hb | hb
    · exact h.gN b hb
    · have := hk1.size; have := h.hN; omega
  · intro b hb hF
    rcases hb with hb | hb
    · exact ha b hF hb
    · have := hd.there b hF
      omega
  · refine (h.keep.then hk1 (fun b hb => .inr (by have := h.fN b hb; omega))).then hk2 (fun b hb => .inr (by have := h.gN b hb; omega))
end

set_option maxRecDepth 100000 in
set_option maxHeartbeats 8000000 in
theorem plays_early (w : World) (m n : Int) (v : Value) (l : List OpD) (h : OpsAt w (Lower w.heap.size) v l) (hl : l.length ≤ maxLen) (hok : ∀ o ∈ l, o.ok) (hc : few l = false ∨ (20 < m ∧ m ≤ 4096) ∨ (30 < n ∧ n ≤ 4096)) :
    Calls Try.prog 3 #[.int .i64 m, .int .i64 n, v] w (Holds w) := by
  have H := Lib.hid h
  have HLM := Lib.hid hl
  have HOK := Lib.hid hok
  obtain ⟨A, c, rfl⟩ := h.form
  have HC := Lib.hid hc
  clear h hl hok hc
  cases hf : few l
  · have HFEW := Lib.hid hf
    clear hf
    go_enter Try.func3, Try.ntmps3
    go_wp2_with fail
    refine (awake_any w).mono ?_
    rintro e w1 ⟨rfl, hk1⟩
    have HK1 := Lib.hid hk1
    have H1 := Lib.hid (H.out.keeps hk1 (fun _ _ _ h => h))
    clear hk1
    go_wp2_with fail
    refine (few_any w1 _ _ l H1.out HLM.out HOK.out).mono ?_
    rintro e w' ⟨rfl, rfl⟩
    rw [HFEW.out]
    go_wp2_with fail
    go_ret
    exact ⟨rfl, HK1.out.all⟩

  by_cases h20 : 20 < m
  · by_cases h40 : m ≤ 4096
    · have HFEW := Lib.hid hf
      clear hf
      go_enter Try.func3, Try.ntmps3
      go_wp2_with fail
      refine (awake_any w).mono ?_
      rintro e w1 ⟨rfl, hk1⟩
      have HK1 := Lib.hid hk1
      have H1 := Lib.hid (H.out.keeps hk1 (fun _ _ _ h => h))
      clear hk1
      go_wp2_with fail
      refine (few_any w1 _ _ l H1.out HLM.out HOK.out).mono ?_
      rintro e w' ⟨rfl, rfl⟩
      rw [HFEW.out]
      go_wp2_with fail
      go_ret
      exact ⟨rfl, HK1.out.all⟩

    have g1 : decide (m ≤ 4096) = false := by simp; omega
    have h30 : 30 < n := by rcases HC.out with h | h | h; (rw [hf] at h; cases h); omega; omega
    have h31 : n ≤ 4096 := by rcases HC.out with h | h | h; (rw [hf] at h; cases h); omega; omega
    have HFEW := Lib.hid hf
    clear hf h40
    go_enter Try.func3, Try.ntmps3
    go_wp2_with fail
    refine (awake_any w).mono ?_
    rintro e w1 ⟨rfl, hk1⟩
    have HK1 := Lib.hid hk1
    have H1 := Lib.hid (H.out.keeps hk1 (fun _ _ _ h => h))
    clear hk1
    go_wp2_with fail
    refine (few_any w1 _ _ l H1.out HLM.out HOK.out).mono ?_
    rintro e w' ⟨rfl, rfl⟩
    rw [HFEW.out]
    go_wp2_with fail
    go_ret
    exact ⟨rfl, HK1.out.all⟩

  have g1 : decide (20 < m) = false := by simp; omega
  have h30 : 30 < n := by rcases HC.out with h | h | h; (rw [hf] at h; cases h); omega; omega
  have h31 : n ≤ 4096 := by rcases HC.out with h | h | h; (rw [hf] at h; cases h); omega; omega
  have HFEW := Lib.hid hf
  clear hf h20
  go_enter Try.func3, Try.ntmps3
  go_wp2_with fail
  refine (awake_any w).mono ?_
  rintro e w1 ⟨rfl, hk1⟩
  have HK1 := Lib.hid hk1
  have H1 := Lib.hid (H.out.keeps hk1 (fun _ _ _ h => h))
  clear hk1
  go_wp2_with fail
  refine (few_any w1 _ _ l H1.out HLM.out HOK.out).mono ?_
  rintro e w' ⟨rfl, rfl⟩
  rw [HFEW.out]
  go_wp2_with fail
  go_ret
  exact ⟨rfl, HK1.out.all⟩


set_option maxRecDepth 100000 in
set_option maxHeartbeats 8000000 in
theorem plays_no (w : World) (m n : Int) (v : Value) (l : List OpD) (h : OpsAt w (Lower w.heap.size) v l) (hl : l.length ≤ maxLen) (hok : ∀ o ∈ l, o.ok) (hf : few l = true) (hm : m ≤ 20 ∨ 4096 < m) (hn : n ≤ 30 ∨ 4096 < n) (hb : m < 0 ∨ 4096 < m ∨ n < 1 ∨ 4096 < n) :
    Calls Try.prog 3 #[.int .i64 m, .int .i64 n, v] w (Holds w) := by
  have H := Lib.hid h
  have HLM := Lib.hid hl
  have HOK := Lib.hid hok
  have HFEW := Lib.hid hf
  have HB := Lib.hid hb
  obtain ⟨A, c, rfl⟩ := h.form
  clear h hl hok hf hb
  rcases hm with hm | hm <;> rcases hn with hn | hn
  · have g1 : decide (20 < m) = false := by simp; omega
    have g2 : decide (30 < n) = false := by simp; omega
    clear hm hn
    go_enter Try.func3, Try.ntmps3
    go_wp2_with fail
    refine (awake_any w).mono ?_
    rintro e w1 ⟨rfl, hk1⟩
    have HK1 := Lib.hid hk1
    have H1 := Lib.hid (H.out.keeps hk1 (fun _ _ _ h => h))
    clear hk1
    go_wp2_with fail
    refine (few_any w1 _ _ l H1.out HLM.out HOK.out).mono ?_
    rintro e w' ⟨rfl, rfl⟩
    rw [HFEW.out]
    go_wp2_with fail
    refine (new_no w1 m n HB.out).mono ?_
    rintro e w2 ⟨rfl, hk2⟩
    have HK2 := Lib.hid (HK1.out.trans hk2)
    clear hk2
    go_wp2_with fail
    refine (refNew_no w2 m n HB.out).mono ?_
    rintro e w3 ⟨rfl, rfl⟩
    go_wp2_with fail
    go_ret
    exact ⟨rfl, HK2.out.all⟩
  · have g1 : decide (20 < m) = false := by simp; omega
    have g2 : decide (30 < n) = true := by simp; omega
    have g3 : decide (n ≤ 4096) = false := by simp; omega
    clear hm hn
    go_enter Try.func3, Try.ntmps3
    go_wp2_with fail
    refine (awake_any w).mono ?_
    rintro e w1 ⟨rfl, hk1⟩
    have HK1 := Lib.hid hk1
    have H1 := Lib.hid (H.out.keeps hk1 (fun _ _ _ h => h))
    clear hk1
    go_wp2_with fail
    refine (few_any w1 _ _ l H1.out HLM.out HOK.out).mono ?_
    rintro e w' ⟨rfl, rfl⟩
    rw [HFEW.out]
    go_wp2_with fail
    refine (new_no w1 m n HB.out).mono ?_
    rintro e w2 ⟨rfl, hk2⟩
    have HK2 := Lib.hid (HK1.out.trans hk2)
    clear hk2
    go_wp2_with fail
    refine (refNew_no w2 m n HB.out).mono ?_
    rintro e w3 ⟨rfl, rfl⟩
    go_wp2_with fail
    go_ret
    exact ⟨rfl, HK2.out.all⟩
  · have g1 : decide (20 < m) = true := by simp; omega
    have g2 : decide (m ≤ 4096) = false := by simp; omega
    have g3 : decide (30 < n) = false := by simp; omega
    clear hm hn
    go_enter Try.func3, Try.ntmps3
    go_wp2_with fail
    refine (awake_any w).mono ?_
    rintro e w1 ⟨rfl, hk1⟩
    have HK1 := Lib.hid hk1
    have H1 := Lib.hid (H.out.keeps hk1 (fun _ _ _ h => h))
    clear hk1
    go_wp2_with fail
    refine (few_any w1 _ _ l H1.out HLM.out HOK.out).mono ?_
    rintro e w' ⟨rfl, rfl⟩
    rw [HFEW.out]
    go_wp2_with fail
    refine (new_no w1 m n HB.out).mono ?_
    rintro e w2 ⟨rfl, hk2⟩
    have HK2 := Lib.hid (HK1.out.trans hk2)
    clear hk2
    go_wp2_with fail
    refine (refNew_no w2 m n HB.out).mono ?_
    rintro e w3 ⟨rfl, rfl⟩
    go_wp2_with fail
    go_ret
    exact ⟨rfl, HK2.out.all⟩
  · have g1 : decide (20 < m) = true := by simp; omega
    have g2 : decide (m ≤ 4096) = false := by simp; omega
    have g3 : decide (30 < n) = true := by simp; omega
    have g4 : decide (n ≤ 4096) = false := by simp; omega
    clear hm hn
    go_enter Try.func3, Try.ntmps3
    go_wp2_with fail
    refine (awake_any w).mono ?_
    rintro e w1 ⟨rfl, hk1⟩
    have HK1 := Lib.hid hk1
    have H1 := Lib.hid (H.out.keeps hk1 (fun _ _ _ h => h))
    clear hk1
    go_wp2_with fail
    refine (few_any w1 _ _ l H1.out HLM.out HOK.out).mono ?_
    rintro e w' ⟨rfl, rfl⟩
    rw [HFEW.out]
    go_wp2_with fail
    refine (new_no w1 m n HB.out).mono ?_
    rintro e w2 ⟨rfl, hk2⟩
    have HK2 := Lib.hid (HK1.out.trans hk2)
    clear hk2
    go_wp2_with fail
    refine (refNew_no w2 m n HB.out).mono ?_
    rintro e w3 ⟨rfl, rfl⟩
    go_wp2_with fail
    go_ret
    exact ⟨rfl, HK2.out.all⟩

set_option maxRecDepth 100000 in
set_option maxHeartbeats 16000000 in
theorem plays_ok (w : World) (m n : Nat) (v : Value) (l : List OpD) (h : OpsAt w (Lower w.heap.size) v l) (hl : l.length ≤ maxLen) (hok : ∀ o ∈ l, o.ok) (hf : few l = true) (hm : m ≤ 20) (hn0 : 1 ≤ n) (hn : n ≤ 30) :
    Calls Try.prog 3 #[.int .i64 m, .int .i64 n, v] w (Holds w) := by
  have H := Lib.hid h
  have HLM := Lib.hid hl
  have HOK := Lib.hid hok
  have HFEW := Lib.hid hf
  have hl40 := few_len hf
  obtain ⟨A, c, rfl⟩ := h.form
  clear h hl hok hf
  have g1 : decide ((20 : Int) < (m : Int)) = false := by simp; omega
  have g2 : decide ((30 : Int) < (n : Int)) = false := by simp; omega
  go_enter Try.func3, Try.ntmps3
  go_wp2_with fail
  refine (awake_any w).mono ?_
  rintro e w1 ⟨rfl, hk1⟩
  have HK1 := Lib.hid hk1
  have H1 := Lib.hid (H.out.keeps hk1 (fun _ _ _ h => h))
  clear hk1
  go_wp2_with fail
  refine (few_any w1 _ _ l H1.out HLM.out HOK.out).mono ?_
  rintro e w' ⟨rfl, rfl⟩
  rw [HFEW.out]
  go_wp2_with fail
  refine (new_ok w1 m n hn0 (by omega) (by omega)).mono ?_
  rintro e w2 ⟨p, rfl, hd2, hk2⟩
  have HD2 := Lib.hid hd2
  have HK12 := Lib.hid hk2
  clear hd2 hk2
  go_wp2_with fail
  refine (refNew_ok w2 m n hn0 (by omega) (by omega)).mono ?_
  rintro e w3 ⟨q, rfl, hr3, hk3⟩
  have HT := Lib.hid (show ∃ s r F G, Two w w1.heap.size n m p q 0 w3 s r F G from
    ⟨_, _, _, _, ⟨HD2.out.keeps hk3 (fun _ _ h => h), hr3, sim_fresh n m, ⟨Nat.le_refl _, Nat.le_refl _, Nat.le_refl _, Nat.le_refl _, by simp [fresh]; omega, by simp [fresh]; omega⟩, by simp [rfresh], rfl, by simp [fresh],
      fun b hb => by
        rcases hb with hb | hb
        · exact hb.elim
        · exact hb.1,
      fun b hb => by
        rcases hb with hb | hb
        · exact hb.elim
        · exact Nat.le_trans HK12.out.size hb.1,
      fun b hb hF => by
        rcases hb with hb | hb
        · exact hb.elim
        · have := HD2.out.there b hF; omega,
      (HK1.out.trans HK12.out).trans hk3, Nat.le_trans HK12.out.size hk3.size⟩⟩)
  clear hr3 hk3
  go_wp2_with fail
  go_loopw [12] (fun i wr => ∃ k : Nat, k ≤ l.length ∧ i = .int .i64 k ∧ ∃ s r F G, Two w w1.heap.size n m p q k wr s r F G) (fun i _ => l.length - (intOf i).toNat)
  case atStart => exact ⟨0, Nat.zero_le _, rfl, HT.out⟩
  case round =>
    obtain ⟨k, hk, rfl, s, r, F, G, ht⟩ := hrel
    have HT := Lib.hid ht
    have HNW := Lib.hid ht.hN
    by_cases hlt : k < l.length
    · have hx : l[k]? = some l[k] := List.getElem?_eq_getElem hlt
      have hox := HOK.out _ (List.getElem_mem hlt)
      have hst := few_tears HFEW.out (List.getElem_mem hlt)
      obtain ⟨x, hxx⟩ : ∃ x, l[k] = x := ⟨_, rfl⟩
      rw [hxx] at hx hox hst
      obtain ⟨b, o, A1, c1, A2, c2, rfl, hG, hcap, hc1, hc2, hc3, hc4, hv⟩ := (H.out.keeps ht.keep (fun _ _ _ h => h)).at_ hx
      have HV := Lib.hid hv
      have HOX := Lib.hid hox
      have HST := Lib.hid hst
      have HW0 := Lib.hid (show w.heap.size ≤ w1.heap.size from HK1.out.size)
      have hk0 : (0 : Int) ≤ (k : Int) := by omega
      have hk1 : (k : Int) < (l.length : Int) := by omega
      clear hx hxx hox hst hv ht
      go_wp2_with fail
      refine (do_any wr p F (Lower w.heap.size) s x _ _ HT.out.disk HV.out HOX.out (fun b hb => ⟨Nat.lt_of_lt_of_le hb (Nat.le_trans HW0.out HNW.out), fun hF => by have := HT.out.fN b hF; have := HW0.out; unfold Lower at hb; omega⟩) (fits_mono HT.out.fits (by omega)) (by have := HST.out.1; omega)).mono ?_
      rintro e w4 ⟨v4, rfl, hv4, hd4, hk4⟩
      have HSA := Lib.hid (HT.out.sim.act x).2
      obtain ⟨bs, err, hbe⟩ : ∃ bs err, rsaid r x = (bs, err) := ⟨_, _, rfl⟩
      rw [HSA.out, hbe] at hv4 ⊢
      obtain ⟨A4, c4, rfl⟩ := Bys.form hv4
      have HV4 := Lib.hid hv4
      have HD4 := Lib.hid hd4
      have HK4 := Lib.hid hk4
      have HVO := Lib.hid (HV.out.keeps hk4 (fun b hb _ hF => by have := HT.out.fN b hF; have := HW0.out; unfold Lower at hb; omega))
      have HR4 := Lib.hid (HT.out.ref.keeps hk4 (fun b hb => HT.out.apart b hb))
      have e1 := (hk4.cell (b := b) (o := o + k * 4) (block_lt_of_cell hc1) (fun hF => by have := HT.out.fN b hF; have := HW0.out; unfold Lower at hG; omega)).trans hc1
      have e2 := (hk4.cell (b := b) (o := o + k * 4 + 1) (block_lt_of_cell hc2) (fun hF => by have := HT.out.fN b hF; have := HW0.out; unfold Lower at hG; omega)).trans hc2
      have e3 := (hk4.cell (b := b) (o := o + k * 4 + 2) (block_lt_of_cell hc3) (fun hF => by have := HT.out.fN b hF; have := HW0.out; unfold Lower at hG; omega)).trans hc3
      have e4 := (hk4.cell (b := b) (o := o + k * 4 + 3) (block_lt_of_cell hc4) (fun hF => by have := HT.out.fN b hF; have := HW0.out; unfold Lower at hG; omega)).trans hc4
      clear hc1 hc2 hc3 hc4 hv4 hd4 hk4
      go_wp2_with fail
      refine (told_any w4 q G (Lower w.heap.size) r x _ _ HR4.out HVO.out HOX.out (fun b hb => ⟨Nat.lt_of_lt_of_le hb (Nat.le_trans (Nat.le_trans HW0.out HNW.out) HK4.out.size), fun hF => by have := HT.out.gN b hF; have := HW0.out; unfold Lower at hb; omega⟩) (HT.out.rfits (by omega) (by omega)) (by have := HST.out.1; omega) (fun t ht => by have := HST.out.2.2 t ht; omega)).mono ?_
      rintro e w5 ⟨v5, rfl, hv5, hr5, hk5⟩
      rw [hbe] at hv5 ⊢
      obtain ⟨A5, c5, rfl⟩ := Bys.form hv5
      have HV5 := Lib.hid hv5
      have hg4 : ∀ b, G b → b < wr.heap.size := HT.out.ref.there
      have HV45 := Lib.hid (HV4.out.keeps hk5 (fun b hb hG => by have := hg4 b hG; have : wr.heap.size ≤ b := hb.1; omega))
      have HT5 := Lib.hid (HT.out.step x HOX.out HW0.out HD4.out HK4.out hr5 hk5)
      have HBL := Lib.hid (show bs.length ≤ 4096 by
        have h1 := rsaid_len HT.out.sim x
        rw [hbe] at h1
        have h2 := HT.out.sim.size
        have h3 := HT.out.size
        have h4 : bs.length ≤ r.size := h1
        omega)
      obtain ⟨s5, hs5⟩ : ∃ s5, act s x = s5 := ⟨_, rfl⟩
      obtain ⟨r5, hr5'⟩ : ∃ r5, ract r x = r5 := ⟨_, rfl⟩
      obtain ⟨F5, hF5⟩ : ∃ F5, Grow F wr w4 = F5 := ⟨_, rfl⟩
      obtain ⟨G5, hG5⟩ : ∃ G5, Grow G w4 w5 = G5 := ⟨_, rfl⟩
      rw [hs5, hr5', hF5, hG5] at HT5
      clear hv5 hr5 hk5 hg4 e1 e2 e3 e4 hbe hs5 hr5' hF5 hG5 HT HV HD4 HK4 HVO HR4 HV4 HSA
      go_wp2_with fail
      obtain ⟨lastV, lv, cachV, cv, planV, hin⟩ := HT5.out.ref
      have z4 := hin.c4
      have z5 := hin.c5
      have ZQ := Lib.hid hin.blk.lt
      have Z45 := Lib.hid (show w5.cell? ⟨q, 4, none⟩ = some (.int .i64 r5.ops) ∧ w5.cell? ⟨q, 5, none⟩ = some (.int .i64 r5.wr) from ⟨z4, z5⟩)
      have HOP := Lib.hid (show (s5.ops : Int) = (r5.ops : Int) by rw [HT5.out.sim.ops])
      have HWRT := Lib.hid (show (s5.wr : Int) = (r5.wr : Int) by rw [HT5.out.sim.wr])
      have HUN := Lib.hid HT5.out.sim.uns
      have HCN := Lib.hid (show s5.cn < 1000000 by have := HT5.out.fits.2.2.1; omega)
      have HL4 := Lib.hid (show s5.last.length ≤ 4096 from HT5.out.fits.2.2.2.2.1)
      have HRL := Lib.hid (show r5.last.length ≤ 4096 by rw [← HT5.out.sim.last]; exact HL4.out)
      obtain ⟨us, hus⟩ : ∃ us, r5.uns = us := ⟨_, rfl⟩
      have HUS := Lib.hid hus
      have HUL := Lib.hid (show us.length ≤ 100000000 by rw [← hus, ← HUN.out]; exact uns_len s5 HL4.out)
      clear hin hus
      go_region_held3 (fun w' => w'.cell? ⟨q, 4, none⟩ = some (.int .i64 r5.ops) ∧ w'.cell? ⟨q, 5, none⟩ = some (.int .i64 r5.wr)) (first | exact Z9.out | exact Z8.out | exact Z7.out | exact Z6.out | go_keep)
        (first
          | (go_at_call 17; refine (same_any w5.drew _ _ _ _ bs bs HV45.out.bys HV5.out.bys (by have := HBL.out; omega) (by have := HBL.out; omega)).mono ?_; rintro e w6 ⟨rfl, n6, hw6⟩
             rw [show decide (bs = bs) = true by simp]
             have hk6 : Keeps No w5 w6 := (by rw [hw6]; exact ((Keeps.refl No w5).drew).drewN n6)
             have HT6 := Lib.hid (HT5.out.keeps hk6)
             have Z6 := Lib.hid (show w6.cell? ⟨q, 4, none⟩ = some (.int .i64 r5.ops) ∧ w6.cell? ⟨q, 5, none⟩ = some (.int .i64 r5.wr) from ⟨(hk6.cell ZQ.out (fun h => h)).trans Z45.out.1, (hk6.cell ZQ.out (fun h => h)).trans Z45.out.2⟩)
             have ZQ6 := Lib.hid (Nat.lt_of_lt_of_le ZQ.out hk6.size)
             clear hk6 hw6)
          | (go_at_call 18; refine (ops_any w6 p F5 s5 HT6.out.disk).mono ?_; rintro e w' ⟨rfl, rfl⟩; rw [HOP.out])
          | (go_at_call 19; refine (writes_any w6 p F5 s5 HT6.out.disk).mono ?_; rintro e w' ⟨rfl, rfl⟩; rw [HWRT.out])
          | (go_at_call 21; refine (uns_any w6 p F5 s5 HT6.out.disk HCN.out).mono ?_; rintro e w7 ⟨v7, rfl, hv7, hk7⟩
             rw [HUN.out, HUS.out] at hv7
             obtain ⟨A7, c7, rfl⟩ : ∃ A c, v7 = .slice A us.length c := (by obtain ⟨A, c, e, _⟩ := hv7; exact ⟨A, c, e⟩)
             have HV7 := Lib.hid hv7
             have HT7 := Lib.hid (HT6.out.keeps hk7)
             have Z7 := Lib.hid (show w7.cell? ⟨q, 4, none⟩ = some (.int .i64 r5.ops) ∧ w7.cell? ⟨q, 5, none⟩ = some (.int .i64 r5.wr) from ⟨(hk7.cell ZQ6.out (fun h => h)).trans Z6.out.1, (hk7.cell ZQ6.out (fun h => h)).trans Z6.out.2⟩)
             have ZQ7 := Lib.hid (Nat.lt_of_lt_of_le ZQ6.out hk7.size)
             clear hv7 hk7)
          | (go_at_call 22; refine (refUns_any w7 q G5 r5 HT7.out.ref HRL.out).mono ?_; rintro e w8 ⟨v8, rfl, hv8, hk8⟩
             rw [HUS.out] at hv8
             obtain ⟨A8, c8, rfl⟩ : ∃ A c, v8 = .slice A us.length c := (by obtain ⟨A, c, e, _⟩ := hv8; exact ⟨A, c, e⟩)
             have HV8 := Lib.hid hv8
             have HV78 := Lib.hid (HV7.out.keeps hk8 (fun _ _ _ h => h))
             have HT8 := Lib.hid (HT7.out.keeps hk8)
             have Z8 := Lib.hid (show w8.cell? ⟨q, 4, none⟩ = some (.int .i64 r5.ops) ∧ w8.cell? ⟨q, 5, none⟩ = some (.int .i64 r5.wr) from ⟨(hk8.cell ZQ7.out (fun h => h)).trans Z7.out.1, (hk8.cell ZQ7.out (fun h => h)).trans Z7.out.2⟩)
             have ZQ8 := Lib.hid (Nat.lt_of_lt_of_le ZQ7.out hk8.size)
             clear hv8 hk8)
          | (go_at_call 20; refine (ints_any w8 _ _ _ _ us us HV78.out HV8.out HUL.out HUL.out).mono ?_; rintro e w9 ⟨rfl, n9, hw9⟩
             rw [show decide (us = us) = true by simp]
             have hk9 : Keeps No w8 w9 := (by rw [hw9]; exact (Keeps.refl No w8).drewN n9)
             have HT9 := Lib.hid (HT8.out.keeps hk9)
             have Z9 := Lib.hid (show w9.cell? ⟨q, 4, none⟩ = some (.int .i64 r5.ops) ∧ w9.cell? ⟨q, 5, none⟩ = some (.int .i64 r5.wr) from ⟨(hk9.cell ZQ8.out (fun h => h)).trans Z8.out.1, (hk9.cell ZQ8.out (fun h => h)).trans Z8.out.2⟩)
             clear hk9 hw9))
      have R := Lib.hid HT9.out
      clear z4 z5
      go_wp2_with fail
      go_roundw
      case rel => exact ⟨k + 1, by omega, by go_num, _, _, _, _, R.out⟩
      case measure => simp [intOf]; omega
    · obtain rfl : k = l.length := by omega
      have hsz : s.size = n := ht.size
      have hln : s.last.length = m := ht.len
      have HSL := Lib.hid ht.sim.last
      have HSS := Lib.hid ht.sim.size
      have HSZ := Lib.hid hsz
      have HLN := Lib.hid hln
      obtain ⟨fl, hfl⟩ : ∃ f, s.last.flatten = f := ⟨_, rfl⟩
      have HFL := Lib.hid hfl
      have HFLEN := Lib.hid (show fl.length ≤ 100000000 by rw [← hfl]; exact flat_len ht.disk (by omega) (by omega))
      clear ht hsz hln hfl
      go_wp2_with fail
      refine (bytes_any wr p F s HT.out.disk (by rw [HLN.out]; omega) (by rw [HSZ.out]; omega)).mono ?_
      rintro e w4 ⟨v4, rfl, hv4, hk4⟩
      rw [HFL.out] at hv4
      obtain ⟨A4, c4, rfl⟩ := Bys.form hv4
      have HV4 := Lib.hid hv4
      have HT4 := Lib.hid (HT.out.keeps hk4)
      clear hv4 hk4
      go_wp2_with fail
      refine (refBytes_any w4 q G r HT4.out.ref (by rw [← HSL.out, HLN.out]; omega) (by rw [← HSS.out, HSZ.out]; omega)).mono ?_
      rintro e w5 ⟨v5, rfl, hv5, hk5⟩
      rw [← HSL.out, HFL.out] at hv5
      obtain ⟨A5, c5, rfl⟩ := Bys.form hv5
      have HV5 := Lib.hid hv5
      have HV45 := Lib.hid (HV4.out.keeps hk5 (fun _ _ h => h))
      have HT5 := Lib.hid (HT4.out.keeps hk5)
      clear hv5 hk5
      go_wp2_with fail
      refine (same_any w5 _ _ _ _ fl fl HV45.out.bys HV5.out.bys HFLEN.out HFLEN.out).mono ?_
      rintro e w6 ⟨rfl, n6, hw6⟩
      rw [show decide (fl = fl) = true by simp]
      have hk6 : Keeps No w5 w6 := by rw [hw6]; exact (Keeps.refl No w5).drewN n6
      have HT6 := Lib.hid (HT5.out.keeps hk6)
      clear hk6 hw6
      go_wp2_with fail
      refine (sectors_any w6 p F s HT6.out.disk).mono ?_
      rintro e w7 ⟨rfl, rfl⟩
      rw [HLN.out]
      go_wp2_with fail
      refine (size_any w6 p F s HT6.out.disk).mono ?_
      rintro e w7 ⟨rfl, rfl⟩
      rw [HSZ.out]
      go_wp2_with fail
      go_ret
      exact ⟨rfl, HT6.out.keep.all⟩

theorem diskPlays_walk (w : World) (m n : Int) (v : Value) (l : List OpD) (h : OpsAt w (Lower w.heap.size) v l) (hl : l.length ≤ maxLen) (hok : ∀ o ∈ l, o.ok) :
    Calls Try.prog 3 #[.int .i64 m, .int .i64 n, v] w (Holds w) := by
  by_cases hc : few l = false ∨ (20 < m ∧ m ≤ 4096) ∨ (30 < n ∧ n ≤ 4096)
  · exact plays_early w m n v l h hl hok hc
  · have hf : few l = true := by
      cases e : few l
      · exact absurd (.inl e) hc
      · rfl
    have hm : m ≤ 20 ∨ 4096 < m := by
      rcases Int.lt_or_le 20 m with h1 | h1
      · rcases Int.lt_or_le 4096 m with h2 | h2
        · exact .inr h2
        · exact absurd (.inr (.inl ⟨h1, h2⟩)) hc
      · exact .inl h1
    have hn : n ≤ 30 ∨ 4096 < n := by
      rcases Int.lt_or_le 30 n with h1 | h1
      · rcases Int.lt_or_le 4096 n with h2 | h2
        · exact .inr h2
        · exact absurd (.inr (.inr ⟨h1, h2⟩)) hc
      · exact .inl h1
    by_cases hb : m < 0 ∨ 4096 < m ∨ n < 1 ∨ 4096 < n
    · exact plays_no w m n v l h hl hok hf hm hn hb
    · obtain ⟨M, rfl⟩ := Int.eq_ofNat_of_zero_le (show 0 ≤ m by omega)
      obtain ⟨N, rfl⟩ := Int.eq_ofNat_of_zero_le (show 0 ≤ n by omega)
      exact plays_ok w M N v l h hl hok hf (by omega) (by omega) (by omega)
end Go.Proofs.Ytconholnjhjhcaa
