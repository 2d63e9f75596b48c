/-
  THE WALK OF DiskCopies.
-/
import Derived.Test.YtconholnjhjhcaaMade
import Derived.Test.YtconholnjhjhcaaCopy
namespace Go.Proofs.Ytconholnjhjhcaa
open Ks Go.RowKit

/-- three disks that share no memory, and bytes that none of the latter two has -/
def Three (w : World) (pd pc pe : Nat) (sd sc se : St) (wv : Value) (bs : List Int) (wr : World) : Prop :=
  ∃ Fd Fc Fe G, DiskAt Try.prog wr pd Fd sd ∧ DiskAt Try.prog wr pc Fc sc ∧ DiskAt Try.prog wr pe Fe se ∧ (∀ b, Fd b → w.heap.size ≤ b ∧ ¬ Fc b ∧ ¬ Fe b) ∧ (∀ b, Fc b → w.heap.size ≤ b ∧ ¬ Fe b) ∧ (∀ b, Fe b → w.heap.size ≤ b) ∧
    Bys wr G wv bs ∧ (∀ b, G b → b < wr.heap.size ∧ ¬ Fc b ∧ ¬ Fe b) ∧ Keeps No w wr

theorem three_e {w wr w' : World} {pd pc pe : Nat} {sd sc se' : St} {wv : Value} {bs : List Int} {Fd Fc Fe G : Nat → Prop} (h1 : DiskAt Try.prog wr pd Fd sd) (h2 : DiskAt Try.prog wr pc Fc sc) (h4 : ∀ b, Fd b → w.heap.size ≤ b ∧ ¬ Fc b ∧ ¬ Fe b)
    (h5 : ∀ b, Fc b → w.heap.size ≤ b ∧ ¬ Fe b) (h6 : ∀ b, Fe b → w.heap.size ≤ b) (h7 : Bys wr G wv bs) (h8 : ∀ b, G b → b < wr.heap.size ∧ ¬ Fc b ∧ ¬ Fe b) (h9 : Keeps No w wr)
    (hd : DiskAt Try.prog w' pe (Grow Fe wr w') se') (hk : Keeps Fe wr w') : Three w pd pc pe sd sc se' wv bs w' := by
  refine ⟨Fd, Fc, _, G, h1.keeps hk (fun b hb => (h4 b hb).2.2), h2.keeps hk (fun b hb hc => (h5 b hb).2 hc), hd, fun b hb => ⟨(h4 b hb).1, (h4 b hb).2.1, ?_⟩, fun b hb => ⟨(h5 b hb).1, ?_⟩, fun b hb => ?_, h7.keeps hk (fun b hb _ hc => (h8 b hb).2.2 hc), fun b hb => ⟨Nat.lt_of_lt_of_le (h8 b hb).1 hk.size, (h8 b hb).2.1, ?_⟩, h9.then hk (fun b hb => .inr (h6 b hb))⟩
  · rintro (hc | hc)
    · exact (h4 b hb).2.2 hc
    · have := h1.there b hb
      omega
  · rintro (hc | hc)
    · exact (h5 b hb).2 hc
    · have := h2.there b hb
      omega
  · rcases hb with hb | hb
    · exact h6 b hb
    · exact Nat.le_trans h9.size hb.1
  · rintro (hc | hc)
    · exact (h8 b hb).2.2 hc
    · have := (h8 b hb).1
      omega
/-- behind both -/
theorem three_e' {w wr w6 w7 : World} {pd pc pe : Nat} {sd sc' se se' : St} {wv : Value} {bs : List Int} {Fd Fc Fe G : Nat → Prop} (h1 : DiskAt Try.prog wr pd Fd sd) (h3 : DiskAt Try.prog wr pe Fe se) (h4 : ∀ b, Fd b → w.heap.size ≤ b ∧ ¬ Fc b ∧ ¬ Fe b)
    (h5 : ∀ b, Fc b → w.heap.size ≤ b ∧ ¬ Fe b) (h6 : ∀ b, Fe b → w.heap.size ≤ b) (h7 : Bys wr G wv bs) (h8 : ∀ b, G b → b < wr.heap.size ∧ ¬ Fc b ∧ ¬ Fe b) (h9 : Keeps No w wr)
    (hk6 : Keeps Fc wr w6) (hd6 : DiskAt Try.prog w6 pc (Grow Fc wr w6) sc') (hd : DiskAt Try.prog w7 pe (Grow Fe w6 w7) se') (hk : Keeps Fe w6 w7) : Three w pd pc pe sd sc' se' wv bs w7 := by
  have q1 := h1.keeps hk6 (fun b hb => (h4 b hb).2.1)
  refine three_e (w := w) (Fd := Fd) (Fc := Grow Fc wr w6) (Fe := Fe) (G := G) q1 hd6 (fun b hb => ⟨(h4 b hb).1, ?_, (h4 b hb).2.2⟩) (fun b hb => ?_) h6 (h7.keeps hk6 (fun b hb _ hc => (h8 b hb).2.1 hc)) (fun b hb => ⟨Nat.lt_of_lt_of_le (h8 b hb).1 hk6.size, ?_, (h8 b hb).2.2⟩) (h9.then hk6 (fun b hb => .inr (h5 b hb).1)) hd hk
  · rintro (hc | hc)
    · exact (h4 b hb).2.1 hc
    · have := h1.there b hb
      omega
  · rcases hb with hb | hb
    · exact h5 b hb
    · exact ⟨Nat.le_trans h9.size hb.1, fun he => by have := h3.there b he; omega⟩
  · rintro (hc | hc)
    · exact (h8 b hb).2.1 hc
    · have := (h8 b hb).1
      omega
theorem three_keep {w wr w' : World} {pd pc pe : Nat} {sd sc se : St} {wv : Value} {bs : List Int} (h : Three w pd pc pe sd sc se wv bs wr) (hk : Keeps No wr w') : Three w pd pc pe sd sc se wv bs w' := by
  obtain ⟨Fd, Fc, Fe, G, h1, h2, h3, h4, h5, h6, h7, h8, h9⟩ := h
  exact ⟨Fd, Fc, Fe, G, h1.keeps hk (fun _ _ h => h), h2.keeps hk (fun _ _ h => h), h3.keeps hk (fun _ _ h => h), h4, h5, h6, h7.keeps hk (fun _ _ _ h => h), fun b hb => ⟨Nat.lt_of_lt_of_le (h8 b hb).1 hk.size, (h8 b hb).2⟩, h9.trans hk⟩

/-- what lasts of a disk that fits is not too much -/
theorem flat_len {w : World} {p : Nat} {F : Nat → Prop} {s : St} (h : DiskAt Try.prog w p F s) (hn : s.last.length ≤ 4096) (hs : s.size ≤ 4096) : s.last.flatten.length ≤ 100000000 := by
  obtain ⟨_, _, _, _, _, h⟩ := h
  have := flat_le h.lens s.last.length (Nat.le_refl _)
  rw [List.take_length] at this
  rw [this]
  exact Nat.le_trans (Nat.mul_le_mul hn hs) (by omega)
theorem read_len {w : World} {p : Nat} {F : Nat → Prop} {s : St} (h : DiskAt Try.prog w p F s) (hs : s.size ≤ 4096) (i : Int) : (St.read s i).1.length ≤ 100000000 := by
  obtain ⟨_, _, _, _, _, h⟩ := h
  unfold St.read
  split
  · exact Nat.zero_le _
  · split
    · exact Nat.zero_le _
    · rename_i h1 h2
      cases hc : s.cach i with
      | some bs =>
        have := (h.keys i bs hc).2.2
        show bs.length ≤ _
        omega
      | none =>
        have := h.lens i.toNat (by omega)
        show (s.last.getD i.toNat []).length ≤ _
        omega
theorem said_len {w : World} {p : Nat} {F : Nat → Prop} {s : St} (h : DiskAt Try.prog w p F s) (hs : s.size ≤ 4096) (o : OpD) : (said s o).1.length ≤ 100000000 := by
  unfold said
  split
  · exact Nat.zero_le _
  · split
    · exact read_len h hs _
    · split <;> exact Nat.zero_le _
theorem uns_len (s : St) (hn : s.last.length ≤ 4096) : s.uns.length ≤ 100000000 := by
  unfold Ks.St.uns
  rw [List.length_map]
  have := List.length_filter_le (fun i : Nat => (s.cach (i : Int)).isSome) (List.range s.last.length)
  simp at this
  omega

set_option maxRecDepth 100000 in
set_option maxHeartbeats 8000000 in
theorem diskCopies_walk (w : World) (v1 v2 : Value) (l m : List OpD) (h : OpsAt w (Lower w.heap.size) v1 l) (hl : l.length ≤ maxLen) (hok : ∀ o ∈ l, o.ok) (h' : OpsAt w (Lower w.heap.size) v2 m) (hl' : m.length ≤ maxLen) (hok' : ∀ o ∈ m, o.ok) :
    Calls Try.prog 8 #[v1, v2] w (Holds w) := by
  have H := Lib.hid h
  have HOK := Lib.hid hok
  have HLM := Lib.hid hl
  have H' := Lib.hid h'
  have HOK' := Lib.hid hok'
  have HLM' := Lib.hid hl'
  obtain ⟨A, c, rfl⟩ := h.form
  obtain ⟨A', c', rfl⟩ := h'.form
  clear h hok hl h' hok' hl'
  go_enter Try.func8, Try.ntmps8
  go_wp2_with fail
  refine (awake_any w).mono ?_
  rintro e w1 ⟨rfl, hk1⟩
  have HK1 := Lib.hid hk1
  have H1 := Lib.hid (H.out.keeps hk1 (fun _ _ _ h => h))
  have H1' := Lib.hid (H'.out.keeps hk1 (fun _ _ _ h => h))
  clear hk1
  go_wp2_with fail
  refine (few_any w1 _ _ l H1.out HLM.out HOK.out).mono ?_
  rintro e w' ⟨rfl, rfl⟩
  go_wp2_with fail
  refine (few_any w1 _ _ m H1'.out HLM'.out HOK'.out).mono ?_
  rintro e w' ⟨rfl, rfl⟩
  cases hfew : few l
  · clear hfew
    go_wp2_with fail
    go_ret
    exact ⟨rfl, HK1.out.all⟩
  cases hfew' : few m
  · clear hfew'
    go_wp2_with fail
    go_ret
    exact ⟨rfl, HK1.out.all⟩
  have HFEW := Lib.hid hfew
  have HFEW' := Lib.hid hfew'
  have hm40 := few_len hfew'
  clear hfew hfew'
  go_wp2_with fail
  refine (made_any w1 w.heap.size _ l H1.out HK1.out.size HFEW.out HOK.out).mono ?_
  rintro e w2 ⟨pd, rfl, Fd, hd2, hF2, hk2⟩
  have HD2 := Lib.hid hd2
  have HF2 := Lib.hid hF2
  have HK2 := Lib.hid (HK1.out.trans hk2)
  have HFIT := Lib.hid (made_fits HFEW.out HOK.out)
  obtain ⟨sd, hsd⟩ : ∃ s, acts eight l = s := ⟨_, rfl⟩
  rw [hsd] at HD2 HFIT
  clear hd2 hF2 hk2 hsd
  go_wp2_with fail
  refine (bytes_any w2 pd Fd sd HD2.out HFIT.out.2.2.2.2.1 HFIT.out.2.2.2.2.2).mono ?_
  rintro e w3 ⟨wv, rfl, hwv, hk3⟩
  obtain ⟨bw, hbw⟩ : ∃ b, sd.last.flatten = b := ⟨_, rfl⟩
  rw [hbw] at hwv
  have HBW := Lib.hid hbw
  have HWV := Lib.hid hwv
  clear hbw
  have HK3 := Lib.hid hk3
  have HD3 := Lib.hid (HD2.out.keeps hk3 (fun _ _ h => h))
  obtain ⟨Aw, cw, rfl⟩ := Bys.form hwv
  clear hwv hk3
  go_wp2_with fail
  refine (ops_any w3 pd Fd sd HD3.out).mono ?_
  rintro e w' ⟨rfl, rfl⟩
  go_wp2_with fail
  refine (copy_any w3 pd Fd sd HD3.out HFIT.out.2.2.2.2.1 HFIT.out.2.2.2.2.2 (by have := HFIT.out.2.2.1; omega)).mono ?_
  rintro e w4 ⟨pc, rfl, hc4, hk4⟩
  have HC4 := Lib.hid hc4
  have HK4 := Lib.hid hk4
  have HD4 := Lib.hid (HD3.out.keeps hk4 (fun _ _ h => h))
  clear hc4 hk4
  go_wp2_with fail
  refine (copy_any w4 pd Fd sd HD4.out HFIT.out.2.2.2.2.1 HFIT.out.2.2.2.2.2 (by have := HFIT.out.2.2.1; omega)).mono ?_
  rintro e w5 ⟨pe, rfl, he5, hk5⟩
  have HTH := Lib.hid (show Three w pd pc pe sd sd sd (.slice Aw bw.length cw) bw w5 by
    have s3 := HK3.out.size
    have s2 := HK2.out.size
    have s1 := HK1.out.size
    have s4 := HK4.out.size
    have s5 := hk5.size
    refine ⟨Fd, Grow No w3 w4, Grow No w4 w5, fun b => From w2.heap.size b ∧ b < w3.heap.size, HD4.out.keeps hk5 (fun _ _ h => h), HC4.out.keeps hk5 (fun _ _ h => h), he5, fun b hb => ?_, fun b hb => ?_, fun b hb => ?_, ?_, fun b hb => ?_, ((HK2.out.trans HK3.out).trans HK4.out).trans hk5⟩
    · have t3 := HD3.out.there b hb
      have t0 := HF2.out b hb
      refine ⟨by omega, ?_, ?_⟩
      · rintro (h | h)
        · exact h
        · omega
      · rintro (h | h)
        · exact h
        · omega
    · rcases hb with hb | hb
      · exact hb.elim
      · refine ⟨by omega, ?_⟩
        rintro (h | h)
        · exact h
        · omega
    · rcases hb with hb | hb
      · exact hb.elim
      · omega
    · exact ((HWV.out.bys.there.keeps HK4.out (fun _ _ _ h => h)).keeps hk5 (fun _ _ _ h => h))
    · refine ⟨by omega, ?_, ?_⟩
      · rintro (h | h)
        · exact h
        · omega
      · rintro (h | h)
        · exact h
        · omega)
  have HFLAT := Lib.hid (flat_len HD4.out HFIT.out.2.2.2.2.1 HFIT.out.2.2.2.2.2)
  clear he5 hk5 HD4 HC4 HK4 HK3 HWV HD3 HD2 HF2 HK2
  rw [HBW.out] at HFLAT
  go_wp2_with fail
  go_loopw [13] (fun i wr => ∃ k : Nat, k ≤ m.length ∧ i = .int .i64 k ∧ Three w pd pc pe sd (acts sd (m.take k)) (acts sd (m.take k)) (.slice Aw bw.length cw) bw wr) (fun i _ => m.length - (intOf i).toNat)
  case atStart => exact ⟨0, Nat.zero_le _, rfl, HTH.out⟩
  case round =>
    obtain ⟨k, hk, rfl, hth⟩ := hrel
    have HT := Lib.hid hth
    clear hth
    have HFK := Lib.hid (acts_fits HFIT.out (m.take k) (fun o ho => HOK'.out o (List.mem_of_mem_take ho)))
    have HLT := Lib.hid (show (m.take k).length ≤ k from List.length_take_le _ _)
    by_cases hlt : k < m.length
    · have hx : m[k]? = some m[k] := List.getElem?_eq_getElem hlt
      have hox := HOK'.out _ (List.getElem_mem hlt)
      have hst := (few_tears HFEW'.out (List.getElem_mem hlt)).1
      obtain ⟨x, hxx⟩ : ∃ x, m[k] = x := ⟨_, rfl⟩
      rw [hxx] at hx hox hst
      have HX := Lib.hid hx
      obtain ⟨sk, hsk⟩ : ∃ s, acts sd (m.take k) = s := ⟨_, rfl⟩
      rw [hsk] at HT HFK
      have HSK := Lib.hid hsk
      clear hsk
      obtain ⟨Fd', Fc, Fe, G, t1, t2, t3, t4, t5, t6, t7, t8, t9⟩ := HT.out
      obtain ⟨b, o, A1, c1, A2, c2, rfl, hG, hcap, hc1, hc2, hc3, hc4, hv⟩ := (H'.out.keeps t9 (fun _ _ _ h => h)).at_ hx
      have HV := Lib.hid hv
      have HOX := Lib.hid hox
      have hbN : b < w.heap.size := hG
      have T1 := Lib.hid t1
      have T2 := Lib.hid t2
      have T3 := Lib.hid t3
      have T4 := Lib.hid t4
      have T5 := Lib.hid t5
      have T6 := Lib.hid t6
      have T7 := Lib.hid t7
      have T8 := Lib.hid t8
      have T9 := Lib.hid t9
      have hk0 : (0 : Int) ≤ (k : Int) := by omega
      have hk1 : (k : Int) < (m.length : Int) := by omega
      clear hx hxx hox hv hG t1 t2 t3 t4 t5 t6 t7 t8 t9 HT
      go_wp2_with fail
      refine (do_any wr pc Fc (Lower w.heap.size) sk x _ _ T2.out HV.out HOX.out (fun b hb => ⟨Nat.lt_of_lt_of_le hb T9.out.size, fun h => absurd (T5.out b h).1 (by unfold Lower at hb; omega)⟩) (fits_mono HFK.out (by have := HLT.out; omega)) (by omega)).mono ?_
      rintro e w6 ⟨va, rfl, hva, hd6, hk6⟩
      obtain ⟨er, her⟩ : ∃ x2, (said sk x).2 = x2 := ⟨_, rfl⟩
      obtain ⟨ba, hba⟩ : ∃ b, (said sk x).1 = b := ⟨_, rfl⟩
      rw [her]
      rw [hba] at hva
      have HER := Lib.hid her
      have HBA := Lib.hid hba
      clear her hba
      have HD6 := Lib.hid hd6
      have HK6 := Lib.hid hk6
      have HW6 := Lib.hid (T9.out.then hk6 (fun b hb => .inr (T5.out b hb).1))
      have HVA := Lib.hid hva.bys
      have HV6 := Lib.hid (HV.out.keeps hk6 (fun b hb _ h => absurd (T5.out b h).1 (by unfold Lower at hb; omega)))
      have hbl := block_lt_of_cell hc1
      have hnc : ¬ Fc b := fun h => absurd (T5.out b h).1 (by omega)
      have e1 := (hk6.cell hbl hnc).trans hc1
      have e2 := (hk6.cell hbl hnc).trans hc2
      have e3 := (hk6.cell hbl hnc).trans hc3
      have e4 := (hk6.cell hbl hnc).trans hc4
      have HE6 := Lib.hid (T3.out.keeps hk6 (fun b hb hc => (T5.out b hc).2 hb))
      have HLT6 := Lib.hid (show ∀ b, From wr.heap.size b → ¬ Fe b from fun b hb h => by have := T3.out.there b h; unfold From at hb; omega)
      have HSA := Lib.hid (said_len T2.out HFK.out.2.2.2.2.2 x)
      rw [HBA.out] at HSA
      clear hva hd6 hk6 hc1 hc2 hc3 hc4 hbl hnc
      go_wp2_with fail
      refine (do_any w6 pe Fe (Lower w.heap.size) sk x _ _ HE6.out HV6.out HOX.out (fun b hb => ⟨Nat.lt_of_lt_of_le hb HW6.out.size, fun h => absurd (T6.out b h) (by unfold Lower at hb; omega)⟩) (fits_mono HFK.out (by have := HLT.out; omega)) (by omega)).mono ?_
      rintro e w7 ⟨vb, rfl, hvb, hd7, hk7⟩
      rw [HER.out]
      rw [HBA.out] at hvb
      have HTH7 := Lib.hid (show Three w pd pc pe sd (acts sd (m.take (k + 1))) (acts sd (m.take (k + 1))) (.slice Aw bw.length cw) bw w7 by
        rw [acts_take HX.out, HSK.out]
        exact three_e' T1.out T3.out T4.out T5.out T6.out T7.out T8.out T9.out HK6.out HD6.out hd7 hk7)
      have HVB := Lib.hid hvb.bys
      have HVA7 := Lib.hid (HVA.out.keeps hk7 (fun b hb _ h => HLT6.out b hb h))
      obtain ⟨Aa, ca, rfl⟩ := HVA.out.form
      obtain ⟨Ab, cb, rfl⟩ := HVB.out.form
      have hne : (er != er) = false := by simp
      clear hvb hd7 hk7 e1 e2 e3 e4 HVA
      go_wp2_with fail
      refine (same_any w7 _ _ _ _ ba ba HVA7.out HVB.out HSA.out HSA.out).mono ?_
      rintro e w8 ⟨rfl, n8, rfl⟩
      have R := Lib.hid (three_keep HTH7.out ((Keeps.refl No w7).drewN n8))
      have htr : decide (ba = ba) = true := by simp
      rw [htr]
      clear HTH7
      go_wp2_with fail
      go_roundw
      case rel => exact ⟨k + 1, by omega, by go_num, R.out⟩
      case measure => simp [intOf]; omega
    · obtain rfl : k = m.length := by omega
      rw [List.take_length] at HT HFK
      have hf5 := HFK.out.2.2.2.2.1
      have hf6 := HFK.out.2.2.2.2.2
      obtain ⟨sk, hsk⟩ : ∃ s, acts sd m = s := ⟨_, rfl⟩
      rw [hsk] at HT HFK hf5 hf6
      obtain ⟨Fd', Fc, Fe, G, t1, t2, t3, t4, t5, t6, t7, t8, t9⟩ := HT.out
      have T1 := Lib.hid t1
      have T2 := Lib.hid t2
      have T3 := Lib.hid t3
      have T7 := Lib.hid t7
      have T9 := Lib.hid t9
      have HC1 := Lib.hid (flat_len t2 hf5 hf6)
      have HU1 := Lib.hid (uns_len sk hf5)
      obtain ⟨bk, hbk⟩ : ∃ b, sk.last.flatten = b := ⟨_, rfl⟩
      obtain ⟨uk, huk⟩ : ∃ b, sk.uns = b := ⟨_, rfl⟩
      rw [hbk] at HC1
      rw [huk] at HU1
      have HBK := Lib.hid hbk
      have HUK := Lib.hid huk
      clear hbk huk
      clear t1 t2 t3 t4 t5 t6 t7 t8 t9 HT hsk
      go_wp2_with fail
      refine (bytes_any wr pd Fd' sd T1.out HFIT.out.2.2.2.2.1 HFIT.out.2.2.2.2.2).mono ?_
      rintro e w6 ⟨v6, rfl, hv6, hk6⟩
      rw [HBW.out] at hv6
      have HV6 := Lib.hid hv6.bys
      have HW6 := Lib.hid (T7.out.keeps hk6 (fun _ _ _ h => h))
      have HK6 := Lib.hid hk6
      obtain ⟨A6, c6, rfl⟩ := HV6.out.form
      clear hv6 hk6
      go_wp2_with fail
      refine (same_any w6 _ _ _ _ bw bw HV6.out HW6.out HFLAT.out HFLAT.out).mono ?_
      rintro e w7 ⟨rfl, n7, rfl⟩
      have htr : decide (bw = bw) = true := by simp
      rw [htr]
      have HK7 := Lib.hid (HK6.out.drewN n7)
      clear HV6 HW6 HK6
      go_wp2_with fail
      refine (ops_any _ pd Fd' sd (T1.out.keeps HK7.out (fun _ _ h => h))).mono ?_
      rintro e w8 ⟨rfl, rfl⟩
      go_wp2_with fail
      refine (bytes_any _ pc Fc sk (T2.out.keeps HK7.out (fun _ _ h => h)) hf5 hf6).mono ?_
      rintro e w8 ⟨v8, rfl, hv8, hk8⟩
      rw [HBK.out] at hv8
      have HV8 := Lib.hid hv8.bys
      have HK8 := Lib.hid (HK7.out.trans hk8)
      obtain ⟨A8, c8, rfl⟩ := HV8.out.form
      clear hv8 hk8
      go_wp2_with fail
      refine (bytes_any _ pe Fe sk (T3.out.keeps HK8.out (fun _ _ h => h)) hf5 hf6).mono ?_
      rintro e w9 ⟨v9, rfl, hv9, hk9⟩
      rw [HBK.out] at hv9
      have HV9 := Lib.hid hv9.bys
      have HV8' := Lib.hid (HV8.out.keeps hk9 (fun _ _ _ h => h))
      have HK9 := Lib.hid (HK8.out.trans hk9)
      obtain ⟨A9, c9, rfl⟩ := HV9.out.form
      clear hv9 hk9 HV8
      go_wp2_with fail
      refine (same_any w9 _ _ _ _ bk bk HV8'.out HV9.out HC1.out HC1.out).mono ?_
      rintro e w10 ⟨rfl, n10, rfl⟩
      have htr2 : decide (bk = bk) = true := by simp
      rw [htr2]
      have HK10 := Lib.hid (HK9.out.drewN n10)
      clear HV8' HV9 HK9
      go_wp2_with fail
      refine (uns_any _ pc Fc sk (T2.out.keeps HK10.out (fun _ _ h => h)) (by have := HFK.out.2.2.1; omega)).mono ?_
      rintro e w11 ⟨v11, rfl, hv11, hk11⟩
      rw [HUK.out] at hv11
      have HV11 := Lib.hid hv11
      have HK11 := Lib.hid (HK10.out.trans hk11)
      obtain ⟨A11, c11, rfl⟩ : ∃ A c, v11 = .slice A uk.length c := (by obtain ⟨A, c, e, _⟩ := hv11; exact ⟨A, c, e⟩)
      clear hv11 hk11
      go_wp2_with fail
      refine (uns_any _ pe Fe sk (T3.out.keeps HK11.out (fun _ _ h => h)) (by have := HFK.out.2.2.1; omega)).mono ?_
      rintro e w12 ⟨v12, rfl, hv12, hk12⟩
      rw [HUK.out] at hv12
      have HV12 := Lib.hid hv12
      have HV11' := Lib.hid (HV11.out.keeps hk12 (fun _ _ _ h => h))
      have HK12 := Lib.hid (HK11.out.trans hk12)
      obtain ⟨A12, c12, rfl⟩ : ∃ A c, v12 = .slice A uk.length c := (by obtain ⟨A, c, e, _⟩ := hv12; exact ⟨A, c, e⟩)
      clear hv12 hk12 HV11
      go_wp2_with fail
      refine (ints_any w12 _ _ _ _ uk uk HV11'.out HV12.out HU1.out HU1.out).mono ?_
      rintro e w13 ⟨rfl, n13, rfl⟩
      have htr3 : decide (uk = uk) = true := by simp
      rw [htr3]
      have HK13 := Lib.hid ((T9.out.trans HK12.out).drewN n13)
      go_wp2_with fail
      go_ret
      exact ⟨rfl, HK13.out.all⟩
end Go.Proofs.Ytconholnjhjhcaa
