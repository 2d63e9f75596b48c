/-
  THE WALK OF DiskTears.
-/
import Derived.Test.YtconholnjhjhcaaSyncs
import Derived.Test.YtconholnjhjhcaaRefLeft
import Derived.Test.YtconholnjhjhcaaOwn
namespace Go.Proofs.Ytconholnjhjhcaa
open Ks Go.RowKit

theorem chunk_flat : ∀ (l : List (List Int)) (n : Nat), (∀ k, k < l.length → (l.getD k []).length = n) → ∀ i, i < l.length → chunk n l.flatten i = l.getD i []
  | [], _, _, i, h => by simp at h
  | x :: l, n, hl, i, h => by
    have hx : x.length = n := hl 0 (by simp)
    cases i with
    | zero =>
      unfold chunk
      simp [← hx]
    | succ i =>
      have := chunk_flat l n (fun k hk => hl (k + 1) (by simpa using hk)) i (by simpa using h)
      unfold chunk at this ⊢
      rw [List.flatten_cons, show (i + 1) * n = x.length + i * n by rw [hx, Nat.add_mul, Nat.one_mul, Nat.add_comm], List.drop_append, List.drop_of_length_le (by omega)]
      simpa using this

/-- j of the sectors lie below k -/
def Nx (us : List Int) (j k : Nat) : Prop := j ≤ us.length ∧ (∀ m, m < j → us.getD m 0 < k) ∧ ∀ m, j ≤ m → m < us.length → (k : Int) ≤ us.getD m 0
theorem up_of {us : List Int} (h : us.Pairwise (fun a b => a < b)) {a b : Nat} (hab : a < b) (hb : b < us.length) : us.getD a 0 < us.getD b 0 := by
  have := List.pairwise_iff_getElem.1 h a b (by omega) hb hab
  simpa [List.getD, hb, show a < us.length by omega] using this
theorem nx_hit {us : List Int} (h : us.Pairwise (fun a b => a < b)) {j k : Nat} (hn : Nx us j k) (hj : j < us.length) (he : us.getD j 0 = k) : Nx us (j + 1) (k + 1) := by
  obtain ⟨h1, h2, h3⟩ := hn
  refine ⟨hj, fun m hm => ?_, fun m hm hl => ?_⟩
  · by_cases e : m = j
    · subst e
      omega
    · have := h2 m (by omega)
      omega
  · have := up_of h (show j < m by omega) hl
    omega
theorem nx_miss {us : List Int} (h : us.Pairwise (fun a b => a < b)) {j k : Nat} (hn : Nx us j k) (hm : ¬ (j < us.length ∧ us.getD j 0 = k)) : Nx us j (k + 1) := by
  obtain ⟨h1, h2, h3⟩ := hn
  refine ⟨h1, fun m hm => by have := h2 m hm; omega, fun m hj hl => ?_⟩
  have h4 := h3 j (Nat.le_refl _) (by omega)
  have h5 : us.getD j 0 ≠ k := fun e => hm ⟨by omega, e⟩
  by_cases e : m = j
  · subst e
    omega
  · have := up_of h (show j < m by omega) hl
    omega
theorem nx_out {us : List Int} (h : us.Pairwise (fun a b => a < b)) {j k : Nat} (hn : Nx us j k) (hm : ¬ (j < us.length ∧ us.getD j 0 = k)) : (k : Int) ∉ us := by
  intro hk
  obtain ⟨m, hm', e⟩ := List.getElem_of_mem hk
  have e' : us.getD m 0 = k := by simp [List.getD, hm', e]
  by_cases hj : m < j
  · have := hn.2.1 m hj
    omega
  · have := (nx_miss h hn hm).2.2 m (by omega) hm'
    omega
theorem nx_end {us : List Int} {j k : Nat} (hn : Nx us j k) (hl : ∀ x ∈ us, x < (k : Int)) : j = us.length := by
  obtain ⟨h1, h2, h3⟩ := hn
  by_cases e : j < us.length
  · have := h3 j (Nat.le_refl _) e
    have h4 := hl (us.getD j 0) (by simp [List.getD, e])
    omega
  · omega
theorem left_hit {s : St} (h : Wf s) (hl : ∀ k, k < s.last.length → (s.last.getD k []).length = s.size) {k : Nat} (hk : (k : Int) ∈ s.uns) (kind : Int) (tb : List Int) : refLeft (s.last.getD k []) (cur s k) kind tb = leftOf s k kind tb := by
  have hr := uns_range s k hk
  have hlen := hl k (by omega)
  rw [mem_uns_wf h] at hk
  obtain ⟨bs, hb⟩ := Option.isSome_iff_exists.1 hk
  unfold refLeft leftOf cur
  rw [hb, hlen]
  simp
theorem left_old (s : St) (k : Nat) : leftOf s k 0 [] = s.last.getD k [] := by simp [leftOf]

set_option maxRecDepth 100000 in
set_option maxHeartbeats 8000000 in
theorem diskTears_walk (w : World) (v : Value) (l : List OpD) (h : OpsAt w (Lower w.heap.size) v l) (hl : l.length ≤ maxLen) (hok : ∀ o ∈ l, o.ok) (tv : Value) (ts : List (Int × List Int)) (ht : Tears w (Lower w.heap.size) tv ts) (htl : ts.length ≤ maxLen) (htt : ∀ t ∈ ts, t.2.length ≤ maxLen) (h64 : (l.length + 1) * 64 ≤ 140737488355328) :
    Calls Try.prog 6 #[v, tv] w (Holds w) := by
  have HLM := Lib.hid hl
  have HOK := Lib.hid hok
  have H64 := Lib.hid h64
  obtain ⟨o, ho⟩ : ∃ o : OpD, o = ⟨0, 0, [], ts⟩ := ⟨_, rfl⟩
  have HOO := Lib.hid (show o.ok by
    rw [ho]
    exact ⟨Int.le_refl _, show (0 : Int) ≤ 255 by decide, show (-9223372036854775808 : Int) ≤ 0 by decide, show (0 : Int) ≤ 9223372036854775807 by decide, Nat.zero_le _, htl, htt⟩)
  obtain ⟨A, c, rfl⟩ := h.form
  obtain ⟨A2, c2, rfl⟩ := ht.form
  have HV := Lib.hid (show OpVals w (Lower w.heap.size) (.slice none 0 0) (.slice A2 ts.length c2) o by rw [ho]; exact ⟨Bys.nil _ _, ht⟩)
  have HO1 := Lib.hid (show o.kind = 0 ∧ o.i = 0 ∧ o.tears = ts by rw [ho]; exact ⟨rfl, rfl, rfl⟩)
  have H := Lib.hid h
  have HT := Lib.hid ht
  clear h hok hl ht htl htt h64 ho
  go_enter Try.func6, Try.ntmps6
  go_wp2_with fail
  refine (awake_any w).mono ?_
  rintro e w1 ⟨rfl, hk1⟩
  have HK1 := Lib.hid hk1
  have H1 := Lib.hid (H.out.keeps hk1 (fun _ _ _ h => h))
  have HT1 := Lib.hid (HT.out.keeps hk1 (fun _ _ _ h => h))
  have HV1 := Lib.hid (HV.out.keeps hk1 (fun _ _ _ h => h))
  obtain ⟨p, hp⟩ : ∃ p, w.heap.size = p := ⟨_, rfl⟩
  rw [hp] at H1 HV1 HT1
  have HPE := Lib.hid hp
  have HPL := Lib.hid (show p ≤ w1.heap.size by rw [← hp]; exact hk1.size)
  clear hk1 H HV hp
  obtain ⟨v2, w2, hr1, ho2, hk2, _⟩ := join1 (W := w1.alloc (.cells #[] 36)) (g := w1.heap.size) (ty := 22) HPL.out H1.out H64.out (Nat.le_refl _) (heap_alloc_new _ _) ((Keeps.refl No w1).alloc _)
  obtain ⟨v3, wc, hr2, ho3, hkc⟩ := join2 (W := w2.alloc (.cells #[.int .u8 0, .int .i64 0, .slice none 0 0, .slice A2 ts.length c2] 36)) (g := w2.heap.size) (ty := 22) (bv := .slice none 0 0) (tv := .slice A2 ts.length c2) HPL.out (ho2.keeps ((Keeps.refl No w2).alloc _)) H64.out (by rw [HO1.out.1, HO1.out.2.1]; exact heap_alloc_new w2 _) (hk2.alloc _) HV1.out
  have HR1 := Lib.hid hr1
  have HR2 := Lib.hid hr2
  have HO3 := Lib.hid ho3
  have HKC := Lib.hid hkc
  have HOKS := Lib.hid (show ∀ x ∈ l ++ [o], x.ok from fun x hx => by
    rcases List.mem_append.1 hx with hx | hx
    · exact HOK.out x hx
    · rw [List.mem_singleton.1 hx]; exact HOO.out)
  clear hr1 hr2 ho2 ho3 hk2 hkc
  go_wp2_with (at_builtin; first | refine Lib.wpList_append_run _ rfl _ _ _ _ rfl _ _ rfl rfl _ _ HR1.out ?_ | refine Lib.wpList_append_run _ rfl _ _ _ _ rfl _ _ rfl rfl _ _ HR2.out ?_)
  refine (few_any wc _ _ (l ++ [o]) HO3.out (by rw [List.length_append]; have := H64.out; unfold maxLen; simp; omega) HOKS.out).mono ?_
  rintro e w' ⟨rfl, rfl⟩
  have hkc := HKC.out
  have H2 := Lib.hid (H1.out.keeps hkc (fun _ _ _ h => h))
  have HT2 := Lib.hid (HT1.out.keeps hkc (fun _ _ _ h => h))
  have HK2 := Lib.hid (HK1.out.trans hkc)
  have HPW := Lib.hid (show p ≤ wc.heap.size from Nat.le_trans HPL.out hkc.size)
  clear hkc H1 HV1 HT1 HK1 HR1 HR2 HO3 HKC
  cases hfew : few (l ++ [o])
  · clear hfew
    go_wp2_with fail
    go_ret
    exact ⟨rfl, HK2.out.all⟩
  have HFEW := Lib.hid (few_left hfew)
  have HT40 := Lib.hid (show ts.length ≤ 40 by rw [← HO1.out.2.2]; exact few_right hfew)
  have HTB := Lib.hid (show ∀ x ∈ ts, x.2.length ≤ 40 by rw [← HO1.out.2.2]; exact (few_tears hfew (by simp)).2.2)
  clear hfew
  go_wp2_with fail
  refine (made_any wc p _ l H2.out HPW.out HFEW.out HOK.out).mono ?_
  rintro e w2' ⟨pd, rfl, Fd, hd2, hF2, hk2⟩
  have HFIT := Lib.hid (made_fits HFEW.out HOK.out)
  have HSZ := Lib.hid (made_size l)
  obtain ⟨sd, hsd⟩ : ∃ s, acts eight l = s := ⟨_, rfl⟩
  rw [hsd] at hd2 HFIT HSZ
  have HWF := Lib.hid (wf_of hd2)
  have HLN := Lib.hid (lens_of hd2)
  have HF2 := Lib.hid (show ∀ b, Fd b → w.heap.size ≤ b ∧ b < w2'.heap.size from fun b hb => ⟨by have := hF2 b hb; have := HPW.out; have := HPE.out; omega, hd2.there b hb⟩)
  have HK3 := Lib.hid (HK2.out.trans hk2)
  have HD2 := Lib.hid hd2
  have hnd : sd.last.length ≤ 4096 := HFIT.out.2.2.2.2.1
  have hzd : sd.size ≤ 4096 := HFIT.out.2.2.2.2.2
  obtain ⟨fl, hfl⟩ : ∃ f, sd.last.flatten = f := ⟨_, rfl⟩
  have HFL := Lib.hid hfl
  have HL32 := Lib.hid (show fl.length = 32 by
    rw [← hfl]
    have := flat_le HLN.out sd.last.length (Nat.le_refl _)
    rw [List.take_length, HSZ.out.1, HSZ.out.2] at this
    exact this)
  obtain ⟨uk, huk⟩ : ∃ u, sd.uns = u := ⟨_, rfl⟩
  have HUK := Lib.hid huk
  have HUS := Lib.hid (show uk.Pairwise (fun a b => a < b) by rw [← huk]; exact sorted_uns sd)
  have HUL := Lib.hid (show uk.length ≤ 100000000 by rw [← huk]; exact uns_len sd hnd)
  have HUR := Lib.hid (show ∀ x ∈ uk, x < ((8 : Nat) : Int) from fun x hx => by rw [← huk] at hx; have := uns_range sd x hx; rw [HSZ.out.2] at this; omega)
  clear hd2 hF2 hk2 hsd HT2 HK2 H2 hfl huk
  go_wp2_with fail
  refine (bytes_any w2' pd Fd sd HD2.out hnd hzd).mono ?_
  rintro e w3 ⟨v3, rfl, hv3, hk3⟩
  rw [HFL.out] at hv3
  obtain ⟨g3, o3, c3, cs3, rfl, hc3, hFg3, _, _⟩ := byt_open hv3 (by rw [HL32.out]; omega)
  have HV3 := Lib.hid hv3
  have HN23 := Lib.hid hk3.size
  have HD3 := Lib.hid (HD2.out.keeps hk3 (fun _ _ h => h))
  have HK4 := Lib.hid (HK3.out.trans hk3)
  rw [HL32.out] at hc3 ⊢
  clear hv3 hk3 hFg3 HD2 HK3
  go_wp2_with fail
  refine (uns_any w3 pd Fd sd HD3.out (by have := HFIT.out.2.2.1; omega)).mono ?_
  rintro e w4 ⟨v4, rfl, hv4, hk4⟩
  rw [HUK.out] at hv4
  have HV4 := Lib.hid hv4
  obtain ⟨A4, c4, rfl⟩ : ∃ A c, v4 = .slice A uk.length c := (by obtain ⟨A, c, e, _⟩ := hv4; exact ⟨A, c, e⟩)
  have HV3' := Lib.hid (HV3.out.keeps hk4 (fun _ _ h => h))
  have HD4 := Lib.hid (HD3.out.keeps hk4 (fun _ _ h => h))
  have HK5 := Lib.hid (HK4.out.trans hk4)
  clear hv4 hk4 HD3 HK4 HV3
  go_wp2_with fail
  refine (copy_any w4 pd Fd sd HD4.out hnd hzd (by have := HFIT.out.2.2.1; omega)).mono ?_
  rintro e w5 ⟨pc, rfl, hc5, hk5⟩
  obtain ⟨Fc, hFc⟩ : ∃ F, Grow No w4 w5 = F := ⟨_, rfl⟩
  have HAC := Lib.hid (show ∀ b, Fc b → w4.heap.size ≤ b by
    intro b hb
    rw [← hFc] at hb
    rcases hb with hb | hb
    · exact hb.elim
    · exact hb.1)
  rw [hFc] at hc5
  have HC5 := Lib.hid hc5
  have HD5 := Lib.hid (HD4.out.keeps hk5 (fun _ _ h => h))
  have HA5 := Lib.hid (show ∀ b, Fc b → ¬ Fd b from fun b hb hF => by have := HD4.out.there b hF; have := HAC.out b hb; omega)
  have HV3A := Lib.hid (Bys.there HV3'.out)
  have HV4A := Lib.hid (HV4.out.there)
  have HN4 := Lib.hid HK5.out.size
  have HK6 := Lib.hid (HK5.out.trans hk5)
  have HV35 := Lib.hid (HV3A.out.keeps hk5 (fun _ _ _ h => h))
  have HV45 := Lib.hid (HV4A.out.keeps hk5 (fun _ _ _ h => h))
  have HT5 := Lib.hid (HT.out.keeps HK6.out (fun _ _ _ h => h))
  clear hc5 hk5 hFc HD4 HK5 HV3' HV4
  go_wp2_with fail
  refine (crash_any w5 pd Fd (Lower w.heap.size) sd _ ts HD5.out HT5.out (fun b hb => ⟨Nat.lt_of_lt_of_le hb HK6.out.size, fun hF => by have := (HF2.out b hF).1; unfold Lower at hb; omega⟩) (by have := HFIT.out.2.2.1; omega) hnd hzd (by have := HT40.out; omega)).mono ?_
  rintro e w6 ⟨rfl, hd6, hk6⟩
  have hal := crashL_alike sd.uns sd ts
  have HCAT := Lib.hid (crashL_at uk sd ts HUS.out (by rw [← HUK.out]; exact uns_range sd))
  have HCST := Lib.hid (crashL_stays uk sd ts (by rw [← HUK.out]; exact uns_range sd))
  have HCN := Lib.hid (crash_none HWF.out ts)
  obtain ⟨t, hst⟩ : ∃ t, sd.crash ts = t := ⟨_, rfl⟩
  have hst' : crashL sd uk ts = t := by rw [← hst, ← HUK.out]; rfl
  have hal' : Alike sd t := by rw [← hst]; exact hal
  rw [hst'] at HCAT HCST
  rw [hst] at HCN hd6
  have HTL := Lib.hid (show t.last.length = 8 by rw [hal'.2.1, HSZ.out.2])
  have HTZ := Lib.hid (show t.size = 4 by rw [hal'.1, HSZ.out.1])
  have htc : t.cn < 1000000 := by rw [hal'.2.2.2.2.1]; have := HFIT.out.2.2.1; omega
  have hnt : t.last.length ≤ 4096 := by rw [HTL.out]; omega
  have hzt : t.size ≤ 4096 := by rw [HTZ.out]; omega
  have HTLN := Lib.hid (lens_of hd6)
  have HD6 := Lib.hid hd6
  have HC6 := Lib.hid (HC5.out.keeps hk6 (fun b hb => HA5.out b hb))
  have HK7 := Lib.hid (HK6.out.then hk6 (fun b hb => .inr (HF2.out b hb).1))
  have HN2 := Lib.hid (show w2'.heap.size ≤ w3.heap.size from HN23.out)
  have HV36 := Lib.hid (HV35.out.keeps hk6 (fun b hb _ hF => by have h1 : w2'.heap.size ≤ b := hb.1.1; have := (HF2.out b hF).2; omega))
  have HV46 := Lib.hid (HV45.out.keeps hk6 (fun b hb _ hF => by have h1 : w3.heap.size ≤ b := hb.1; have := (HF2.out b hF).2; have := HN2.out; omega))
  obtain ⟨fm, hfm⟩ : ∃ f, t.last.flatten = f := ⟨_, rfl⟩
  have HFM := Lib.hid hfm
  have HM32 := Lib.hid (show fm.length = 32 by
    rw [← hfm]
    have := flat_le HTLN.out t.last.length (Nat.le_refl _)
    rw [List.take_length, HTL.out, HTZ.out] at this
    exact this)
  clear hal hal' hst hst' hd6 hk6 hfm HC5 HD5 HK6 HV35 HV45 HT5
  go_wp2_with fail
  refine (bytes_any w6 pd _ t HD6.out hnt hzt).mono ?_
  rintro e w7 ⟨v7, rfl, hv7, hk7⟩
  rw [HFM.out] at hv7
  obtain ⟨g7, o7, c7, cs7, rfl, hc7, hFg7, _, _⟩ := byt_open hv7 (by rw [HM32.out]; omega)
  have HV7 := Lib.hid (Bys.there hv7)
  have HD7 := Lib.hid (HD6.out.keeps hk7 (fun _ _ h => h))
  have HC7 := Lib.hid (HC6.out.keeps hk7 (fun _ _ h => h))
  have HK8 := Lib.hid (HK7.out.trans hk7)
  have HV37 := Lib.hid (HV36.out.keeps hk7 (fun _ _ _ h => h))
  have HV47 := Lib.hid (HV46.out.keeps hk7 (fun _ _ _ h => h))
  have HCW := Lib.hid HC6.out.there
  rw [HM32.out] at hc7 ⊢
  clear hv7 hk7 hFg7 HD6 HC6 HK7 HV36 HV46
  go_wp2_with fail
  refine (uns_any w7 pd _ t HD7.out htc).mono ?_
  rintro e w8 ⟨v8, rfl, hv8, hk8⟩
  rw [uns_nil HCN.out] at hv8
  obtain ⟨A8, c8, rfl⟩ : ∃ A c, v8 = .slice A 0 c := (by obtain ⟨A, c, e, _⟩ := hv8; exact ⟨A, c, e⟩)
  have HC8 := Lib.hid (HC7.out.keeps hk8 (fun _ _ h => h))
  have HK9 := Lib.hid (HK8.out.trans hk8)
  have HV38 := Lib.hid (HV37.out.keeps hk8 (fun _ _ _ h => h))
  have HV48 := Lib.hid (HV47.out.keeps hk8 (fun _ _ _ h => h))
  have HV78 := Lib.hid (HV7.out.keeps hk8 (fun _ _ _ h => h))
  clear hv8 hk8 HD7 HC7 HK8 HV37 HV47 HV7
  go_wp2_with fail
  go_loopw [12, 13] (fun n i wr => ∃ j k : Nat, k ≤ 8 ∧ n = .int .i64 j ∧ i = .int .i64 k ∧ Nx uk j k ∧ (∃ sc, DiskAt Try.prog wr pc Fc sc ∧ Like sd sc ∧ sc.ops ≤ 40 + k ∧ sc.cn = sd.cn) ∧ Keeps Fc w8 wr) (fun _ i _ => 8 - (intOf i).toNat)
  case atStart => exact ⟨0, 0, Nat.zero_le _, rfl, rfl, ⟨Nat.zero_le _, fun m hm => absurd hm (by omega), fun m _ hm => by
    have := uns_range sd (uk.getD m 0) (by rw [HUK.out]; simp [List.getD, hm])
    omega⟩, ⟨sd, HC8.out, ⟨rfl, rfl, rfl⟩, HFIT.out.1, rfl⟩, Keeps.refl _ _⟩
  case round =>
    obtain ⟨j, k, hk, rfl, rfl, hnx, ⟨sc, hdc, hlk, hops, hcn⟩, hkr⟩ := hrel
    have HNX := Lib.hid hnx
    have HDC := Lib.hid hdc
    have HLK := Lib.hid hlk
    have HKR := Lib.hid hkr
    have HKA := Lib.hid (HK9.out.then hkr (fun b hb => .inr (by have := HAC.out b hb; have := HN4.out; omega)))
    have HTR := Lib.hid (HT.out.keeps HKA.out (fun _ _ _ h => h))
    have HW := Lib.hid (HV38.out.keeps hkr (fun b hb _ hF => by have := hb.2; have := HAC.out b hF; omega))
    have HU := Lib.hid (HV48.out.keeps hkr (fun b hb _ hF => by have := hb.2; have := HAC.out b hF; omega))
    have HNW := Lib.hid (HV78.out.keeps hkr (fun b hb _ hF => by have h1 : w6.heap.size ≤ b := hb.1.1; have := HCW.out b hF; omega))
    have hsn : sc.last.length ≤ 4096 := by rw [HLK.out.1]; exact hnd
    have hsz : sc.size ≤ 4096 := by rw [HLK.out.2.2]; exact hzd
    have HOP := Lib.hid hops
    have HCN2 := Lib.hid hcn
    clear hnx hdc hlk hkr hops hcn
    by_cases hlt : k < 8
    · have hk0 : (0 : Int) ≤ (k : Int) := by omega
      have hk1 : (k : Int) < 8 := by omega
      have m1 : IntKind.i64.wrap (4 * (k : Int)) = 4 * (k : Int) := IntWalk.i64_in _ (by omega)
      have m2 : IntKind.i64.wrap (4 * (k : Int) + 4) = 4 * (k : Int) + 4 := IntWalk.i64_in _ (by omega)
      have m3 : (0 : Int) ≤ 4 * (k : Int) := by omega
      have m4 : 4 * (k : Int) ≤ 4 * (k : Int) + 4 := by omega
      have m5 : 4 * (k : Int) + 4 ≤ 32 := by omega
      have m6 : (4 * (k : Int)).toNat = 4 * k := by omega
      have m7 : (4 * (k : Int) + 4).toNat = 4 * k + 4 := by omega
      have m8 : 4 * (k : Int) + 4 ≤ (c3 : Int) := by omega
      have m9 : 4 * (k : Int) + 4 ≤ (c7 : Int) := by omega
      have m10 : c3 ≠ 4 * k := by omega
      have m11 : c7 ≠ 4 * k := by omega
      have m12 : (0 : Int) ≤ 4 * (k : Int) + 4 := by omega
      have m13 : 4 * k + 4 - 4 * k = 4 := by omega
      have hkl : k < sd.last.length := by rw [HSZ.out.2]; exact hlt
      have hkt : k < t.last.length := by rw [HTL.out]; exact hlt
      obtain ⟨old, hold⟩ : ∃ o, sd.last.getD k [] = o := ⟨_, rfl⟩
      obtain ⟨nw, hnw⟩ : ∃ o, t.last.getD k [] = o := ⟨_, rfl⟩
      have HOL := Lib.hid (show old.length = 4 by rw [← hold, HLN.out k hkl, HSZ.out.1])
      have HNL := Lib.hid (show nw.length = 4 by rw [← hnw, HTLN.out k hkt, HTZ.out])
      have HWC := Lib.hid (show Bys wr (fun _ => True) (.slice (some ⟨g3, o3 + 4 * k, none⟩) 4 (c3 - 4 * k)) old by
        have h1 := bys_cut HW.out (i := 4 * k) (n := 4) (by rw [HL32.out]; omega) (by omega)
        have h2 := chunk_flat sd.last 4 (fun i hi => by rw [HLN.out i hi, HSZ.out.1]) k hkl
        unfold chunk at h2
        rw [HFL.out, Nat.mul_comm] at h2
        rw [h2, hold] at h1
        exact h1.mono fun _ _ => trivial)
      have HNC := Lib.hid (show Bys wr (fun _ => True) (.slice (some ⟨g7, o7 + 4 * k, none⟩) 4 (c7 - 4 * k)) nw by
        have h1 := bys_cut HNW.out (i := 4 * k) (n := 4) (by rw [HM32.out]; omega) (by omega)
        have h2 := chunk_flat t.last 4 (fun i hi => by rw [HTLN.out i hi, HTZ.out]) k hkt
        unfold chunk at h2
        rw [HFM.out, Nat.mul_comm] at h2
        rw [h2, hnw] at h1
        exact h1.mono fun _ _ => trivial)
      have HWK := Lib.hid (show ∀ w9, Keeps Fc wr w9 → Bys w9 (fun _ => True) (.slice (some ⟨g3, o3 + 4 * k, none⟩) 4 (c3 - 4 * k)) old ∧ Bys w9 (fun _ => True) (.slice (some ⟨g7, o7 + 4 * k, none⟩) 4 (c7 - 4 * k)) nw from fun w9 hk9 => by
        have hW9 := HW.out.keeps hk9 (fun b hb _ hF => by have := hb.2; have := HAC.out b hF; omega)
        have hN9 := HNW.out.keeps hk9 (fun b hb _ hF => by have h1 : w6.heap.size ≤ b := hb.1.1; have := HCW.out b hF; omega)
        constructor
        · have h1 := bys_cut hW9 (i := 4 * k) (n := 4) (by rw [HL32.out]; omega) (by omega)
          have h2 := chunk_flat sd.last 4 (fun i hi => by rw [HLN.out i hi, HSZ.out.1]) k hkl
          unfold chunk at h2
          rw [HFL.out, Nat.mul_comm] at h2
          rw [h2, hold] at h1
          exact h1.mono fun _ _ => trivial
        · have h1 := bys_cut hN9 (i := 4 * k) (n := 4) (by rw [HM32.out]; omega) (by omega)
          have h2 := chunk_flat t.last 4 (fun i hi => by rw [HTLN.out i hi, HTZ.out]) k hkt
          unfold chunk at h2
          rw [HFM.out, Nat.mul_comm] at h2
          rw [h2, hnw] at h1
          exact h1.mono fun _ _ => trivial)
      by_cases hhit : j < uk.length ∧ uk.getD j 0 = k
      · obtain ⟨hj, he⟩ := hhit
        have HNX' := Lib.hid (nx_hit HUS.out HNX.out hj he)
        have hjk : uk[j]? = some (k : Int) := by rw [← he]; simp [List.getD, hj]
        have HCA := Lib.hid (HCAT.out j k hjk)
        have HMEM := Lib.hid (show (k : Int) ∈ sd.uns by rw [HUK.out]; exact List.mem_of_getElem? hjk)
        obtain ⟨Au, cu, eu, hcu, hux⟩ := HU.out
        obtain ⟨gu, rfl, _, hcu2⟩ := hux (by omega)
        have hcell := hcu2 j hj
        simp only [Value.slice.injEq, true_and] at eu
        obtain ⟨rfl, rfl⟩ := eu
        rw [he] at hcell
        have hj0 : (0 : Int) ≤ (j : Int) := by omega
        have hj1 : (j : Int) < (uk.length : Int) := by omega
        have hj8 : (j : Int) < 100000000 := by have := HUL.out; omega
        rw [hnw] at HCA
        clear he hjk hux hcu2
        by_cases hjt : j < ts.length
        · have hjt1 : (j : Int) < (ts.length : Int) := by omega
          obtain ⟨x, hx⟩ : ∃ x, ts.getD j (0, []) = x := ⟨_, rfl⟩
          have hxj : ts[j]? = some x := by rw [← hx]; simp [List.getD, hjt]
          have HXB := Lib.hid (HTB.out x (List.mem_of_getElem? hxj))
          have HXJ := Lib.hid hxj
          rw [hx] at HCA
          have HREF := Lib.hid (show refLeft old (cur sd k) x.1 x.2 = nw by rw [HCA.out, ← hold]; exact left_hit HWF.out HLN.out HMEM.out x.1 x.2)
          have HRC := Lib.hid (read_cur HLK.out hkl)
          obtain ⟨cb, hcb⟩ : ∃ c, cur sd k = c := ⟨_, rfl⟩
          have HCL := Lib.hid (show cb.length = 4 by rw [← hcb, cur_len HWF.out HLN.out hkl, HSZ.out.1])
          rw [hcb] at HREF HRC
          clear hx hxj hcb hold hnw
          go_wp2_with fail
          refine (read_any wr pc Fc sc (k : Int) HDC.out (by have := HOP.out; omega) hsn hsz).mono ?_
          rintro e w9 ⟨v9, rfl, hv9, hd9, hk9⟩
          have HK9' := Lib.hid (HKA.out.then hk9 (fun b hb => .inr (by have := HAC.out b hb; have := HN4.out; omega)))
          rcases HRC.out with hr | hr
          · rw [hr] at hv9 ⊢
            obtain ⟨A9, c9, rfl⟩ := Bys.form hv9
            clear hv9 hr hd9 hk9
            go_wp2_with fail
            go_ret
            exact ⟨rfl, HK9'.out.all⟩
          · rw [hr] at hv9 ⊢
            simp only at hv9 ⊢
            obtain ⟨A9, c9, rfl⟩ := Bys.form hv9
            rw [HCL.out] at hv9 ⊢
            have HV9 := Lib.hid hv9.bys
            have HD9 := Lib.hid hd9
            have HKR9 := Lib.hid (HKR.out.trans hk9)
            have HW9 := Lib.hid (HWK.out w9 hk9)
            have HT9 := Lib.hid (HTR.out.keeps hk9 (fun b hb _ hF => by have := HAC.out b hF; have := HN4.out; unfold Lower at hb; omega))
            obtain ⟨bt, ot, A1t, c1t, rfl, _, hct, ht1, ht2, hbx⟩ := HT9.out.at_ HXJ.out
            have HBX := Lib.hid hbx
            clear hv9 hr hd9 hk9 hbx
            go_wp2_with fail
            refine (refLeft_any w9 _ _ _ _ _ _ old cb x.2 x.1 HW9.out.1 HV9.out HBX.out (by rw [HOL.out]; omega) (by have := HXB.out; omega)).mono ?_
            rintro e w10 ⟨v10, rfl, hv10, hk10⟩
            rw [HREF.out] at hv10
            have HV10 := Lib.hid hv10
            obtain ⟨A10, c10, rfl⟩ := Bys.form hv10
            rw [HNL.out] at HV10 ⊢
            have HN10 := Lib.hid (HW9.out.2.keeps hk10 (fun _ _ _ h => h))
            have HD10 := Lib.hid (HD9.out.keeps hk10 (fun _ _ h => h))
            have HKR10 := Lib.hid (HKR9.out.then hk10 (fun _ h => h.elim))
            have HKA10 := Lib.hid (HK9'.out.trans hk10)
            clear hv10 hk10 HV9 HD9 HKR9 HW9 HT9 HBX ht1 ht2
            go_wp2_with fail
            refine (same_any w10 _ _ _ _ nw nw HN10.out HV10.out (by rw [HNL.out]; omega) (by rw [HNL.out]; omega)).mono ?_
            rintro e w11 ⟨rfl, n11, rfl⟩
            have htr : decide (nw = nw) = true := by simp
            rw [htr]
            have R1 := Lib.hid (HD10.out.keeps ((Keeps.refl No w10).drewN n11) (fun _ _ h => h))
            have R2 := Lib.hid (HKR10.out.drewN n11)
            go_wp2_with fail
            go_roundw
            case rel => exact ⟨j + 1, k + 1, by omega, by go_num, by go_num, HNX'.out, ⟨sc.tick, R1.out, HLK.out.trans (tick_like sc), (by have := HOP.out; show sc.ops + 1 ≤ _; omega), HCN2.out⟩, R2.out⟩
            case measure => simp [intOf]; omega
        · have hjt1 : (ts.length : Int) ≤ (j : Int) := by omega
          have HSAME := Lib.hid (show nw = old by
            rw [HCA.out, ← hold, show ts.getD j (0, []) = (0, []) by simp [List.getD, show ts.length ≤ j by omega]]
            exact left_old sd k)
          clear hold hnw
          go_wp2_with fail
          refine (same_any wr _ _ _ _ nw old HNC.out HWC.out (by rw [HNL.out]; omega) (by rw [HOL.out]; omega)).mono ?_
          rintro e w9 ⟨rfl, n9, rfl⟩
          rw [decide_eq_true HSAME.out]
          have R1 := Lib.hid (HDC.out.keeps ((Keeps.refl No wr).drewN n9) (fun _ _ h => h))
          have R2 := Lib.hid (HKR.out.drewN n9)
          go_wp2_with fail
          go_roundw
          case rel => exact ⟨j + 1, k + 1, by omega, by go_num, by go_num, HNX'.out, ⟨sc, R1.out, HLK.out, by have := HOP.out; omega, HCN2.out⟩, R2.out⟩
          case measure => simp [intOf]; omega
      · have HSAME := Lib.hid (show nw = old by rw [← hnw, ← hold]; exact HCST.out k (nx_out HUS.out HNX.out hhit))
        have HNX' := Lib.hid (nx_miss HUS.out HNX.out hhit)
        by_cases hj : j < uk.length
        · have hne : uk.getD j 0 ≠ k := fun e => hhit ⟨hj, e⟩
          obtain ⟨u, hu⟩ : ∃ u, uk.getD j 0 = u := ⟨_, rfl⟩
          obtain ⟨Au, cu, eu, hcu, hux⟩ := HU.out
          obtain ⟨gu, rfl, _, hcu2⟩ := hux (by omega)
          have hcell := hcu2 j hj
          simp only [Value.slice.injEq, true_and] at eu
          obtain ⟨rfl, rfl⟩ := eu
          rw [hu] at hcell hne
          have hj0 : (0 : Int) ≤ (j : Int) := by omega
          have hj1 : (j : Int) < (uk.length : Int) := by omega
          have hne2 : (u == (k : Int)) = false := by simpa using hne
          clear hhit hu hux hcu2 hold hnw
          go_wp2_with fail
          refine (same_any wr _ _ _ _ nw old HNC.out HWC.out (by rw [HNL.out]; omega) (by rw [HOL.out]; omega)).mono ?_
          rintro e w9 ⟨rfl, n9, rfl⟩
          rw [decide_eq_true HSAME.out]
          have R1 := Lib.hid (HDC.out.keeps ((Keeps.refl No wr).drewN n9) (fun _ _ h => h))
          have R2 := Lib.hid (HKR.out.drewN n9)
          go_wp2_with fail
          go_roundw
          case rel => exact ⟨j, k + 1, by omega, by go_num, by go_num, HNX'.out, ⟨sc, R1.out, HLK.out, by have := HOP.out; omega, HCN2.out⟩, R2.out⟩
          case measure => simp [intOf]; omega
        · have hj1 : (uk.length : Int) ≤ (j : Int) := by omega
          clear hhit hold hnw
          go_wp2_with fail
          refine (same_any wr _ _ _ _ nw old HNC.out HWC.out (by rw [HNL.out]; omega) (by rw [HOL.out]; omega)).mono ?_
          rintro e w9 ⟨rfl, n9, rfl⟩
          rw [decide_eq_true HSAME.out]
          have R1 := Lib.hid (HDC.out.keeps ((Keeps.refl No wr).drewN n9) (fun _ _ h => h))
          have R2 := Lib.hid (HKR.out.drewN n9)
          go_wp2_with fail
          go_roundw
          case rel => exact ⟨j, k + 1, by omega, by go_num, by go_num, HNX'.out, ⟨sc, R1.out, HLK.out, by have := HOP.out; omega, HCN2.out⟩, R2.out⟩
          case measure => simp [intOf]; omega
    · obtain rfl : k = 8 := by omega
      obtain rfl := nx_end HNX.out HUR.out
      go_wp2_with fail
      go_ret
      exact ⟨rfl, HKA.out.all⟩
end Go.Proofs.Ytconholnjhjhcaa
