/-
  THE WALK OF DiskSyncs.
-/
import Derived.Test.YtconholnjhjhcaaFails
namespace Go.Proofs.Ytconholnjhjhcaa
open Ks Go.RowKit

/-- what a sector reads as -/
def cur (s : St) (j : Nat) : List Int := (s.cach (j : Int)).getD (s.last.getD j [])
def acc (s : St) (k : Nat) : List Int := ((List.range k).map (cur s)).flatten
theorem acc_succ (s : St) (k : Nat) : acc s (k + 1) = acc s k ++ cur s k := by simp [acc, List.range_succ]
def ticks : Nat → St → St
  | 0, s => s
  | n + 1, s => (ticks n s).tick
theorem tick_like (s : St) : Like s s.tick := ⟨rfl, rfl, rfl⟩
theorem Like.trans {a b c : St} (h : Like a b) (k : Like b c) : Like a c := ⟨k.1.trans h.1, k.2.1.trans h.2.1, k.2.2.trans h.2.2⟩
theorem ticks_like (s : St) : ∀ n, Like s (ticks n s)
  | 0 => ⟨rfl, rfl, rfl⟩
  | n + 1 => (ticks_like s n).trans (tick_like _)
theorem ticks_ops (s : St) : ∀ n, (ticks n s).ops = s.ops + n ∧ (ticks n s).cn = s.cn
  | 0 => ⟨rfl, rfl⟩
  | n + 1 => by
    have h := ticks_ops s n
    exact ⟨by show (ticks n s).ops + 1 = _; omega, h.2⟩
theorem wf_of {w : World} {p : Nat} {F : Nat → Prop} {s : St} (h : DiskAt Try.prog w p F s) : Wf s := by
  obtain ⟨_, _, _, _, _, h⟩ := h
  exact fun k bs hb => h.keys k bs hb
theorem lens_of {w : World} {p : Nat} {F : Nat → Prop} {s : St} (h : DiskAt Try.prog w p F s) : ∀ k, k < s.last.length → (s.last.getD k []).length = s.size := by
  obtain ⟨_, _, _, _, _, h⟩ := h
  exact h.lens
theorem cur_len {s : St} (h : Wf s) (hl : ∀ k, k < s.last.length → (s.last.getD k []).length = s.size) {k : Nat} (hk : k < s.last.length) : (cur s k).length = s.size := by
  unfold cur
  cases hc : s.cach (k : Int) with
  | none => exact hl k hk
  | some bs => exact (h _ _ hc).2.2
theorem acc_len {s : St} (h : Wf s) (hl : ∀ k, k < s.last.length → (s.last.getD k []).length = s.size) : ∀ k, k ≤ s.last.length → (acc s k).length = k * s.size
  | 0, _ => by simp [acc]
  | k + 1, hk => by
    rw [acc_succ, List.length_append, acc_len h hl k (by omega), cur_len h hl (by omega), Nat.add_mul, Nat.one_mul]
theorem read_cur {s t : St} (h : Like s t) {k : Nat} (hk : k < s.last.length) : St.read t k = ([], 3) ∨ St.read t k = (cur s k, 0) := by
  unfold St.read
  cases t.fails
  · right
    have : ¬ ((k : Int) < 0 ∨ ((t.last.length : Nat) : Int) ≤ (k : Int)) := by rw [h.1]; omega
    simp only [Bool.false_eq_true, if_false, this]
    rw [h.1, h.2.1]
    rfl
  · left
    rfl
theorem Wf.like {s t : St} (h : Wf s) (hl : Like s t) : Wf t := by
  intro k bs hb
  rw [hl.2.1] at hb
  rw [hl.1, hl.2.2]
  exact h k bs hb
theorem sync_or (s : St) : s.sync = (s.tick, 3) ∨ s.sync = (syncL s.tick s.tick.uns, 0) := by
  unfold Ks.St.sync
  cases s.fails
  · right
    rw [(tick_like s).uns]
    rfl
  · left
    rfl
/-- behind a Sync: what was read lasts, nothing is cached -/
theorem synced {s t : St} (h : Wf s) (hl : Like s t) : (syncL t t.uns).last.flatten = acc s s.last.length ∧ (syncL t t.uns).uns = [] ∧ (∀ ts, (syncL t t.uns).crash ts = syncL t t.uns) ∧ (syncL t t.uns).last.length = s.last.length ∧ (syncL t t.uns).size = s.size ∧ (syncL t t.uns).cn = t.cn := by
  have ht := h.like hl
  have al := syncL_alike t.uns t
  have hn : ∀ k, (syncL t t.uns).cach k = none := sync_none ht
  have hlen : (syncL t t.uns).last.length = s.last.length := by rw [al.2.1, hl.1]
  refine ⟨?_, uns_nil hn, fun ts => crash_idle hn ts, hlen, by rw [al.1, hl.2.2], al.2.2.2.2.1⟩
  have : (syncL t t.uns).last = (List.range s.last.length).map (cur s) := by
    refine list_getD (by simpa using hlen) (fun k hk => ?_)
    rw [sync_at ht, hl.1, hl.2.1]
    rw [hlen] at hk
    simp [List.getD, hk, cur]
  rw [this]
  rfl
/-- where the loop stands behind k Reads -/
def ReadAt (w : World) (N p : Nat) (F : Nat → Prop) (s : St) (k : Nat) (v : Value) (wr : World) : Prop :=
  DiskAt Try.prog wr p F (ticks k s) ∧ wr.ownsRow N 5 1 v (k * 4) ((acc s k).map (Value.int .u8)) ∧ Keeps No w wr ∧ N ≤ wr.heap.size
theorem read_step {w wr w1 w2 : World} {N p k : Nat} {F : Nat → Prop} {s : St} {v v' : Value} (hF : ∀ b, F b → w.heap.size ≤ b ∧ b < N) (hwN : w.heap.size ≤ N) (hw : Wf s) (hl : ∀ k, k < s.last.length → (s.last.getD k []).length = s.size) (h4 : s.size = 4) (hk : k < s.last.length)
    (h : ReadAt w N p F s k v wr) (hd : DiskAt Try.prog w1 p F (ticks k s).tick) (hk1 : Keeps F wr w1) (hrow : w2.ownsRow N 5 1 v' (k * 4 + (cur s k).length) ((acc s k ++ cur s k).map (Value.int .u8))) (hg : w1.grownBy w2 v.ownBlock) : ReadAt w N p F s (k + 1) v' w2 := by
  obtain ⟨h1, h2, h3, h5⟩ := h
  have hk2 : Keeps (fun b => N ≤ b) w1 w2 := (Keeps.of_grown hg).mono fun b hb => own_base h2 hb
  have hcl := cur_len hw hl hk
  rw [h4] at hcl
  refine ⟨hd.keeps hk2 (fun b hb hN => by have := (hF b hb).2; omega), ?_, (h3.then hk1 (fun b hb => .inr (hF b hb).1)).then hk2 (fun b hb => .inr (by omega)), Nat.le_trans h5 (Nat.le_trans hk1.size hk2.size)⟩
  rw [acc_succ]
  rw [hcl] at hrow
  rw [show (k + 1) * 4 = k * 4 + 4 by omega]
  exact hrow
theorem read_row {w wr w1 : World} {N p k : Nat} {F : Nat → Prop} {s : St} {v : Value} (hF : ∀ b, F b → w.heap.size ≤ b ∧ b < N) (h : ReadAt w N p F s k v wr) (hk1 : Keeps F wr w1) : w1.ownsRow N 5 1 v (k * 4) ((acc s k).map (Value.int .u8)) :=
  ownsRow_of_eq h.2.1 (fun g hg => hk1.block g (own_lt h.2.1 hg) (fun hb => by have := own_base h.2.1 hg; have := (hF g hb).2; omega))

set_option maxRecDepth 100000 in
set_option maxHeartbeats 8000000 in
theorem diskSyncs_walk (w : World) (v : Value) (l : List OpD) (h : OpsAt w (Lower w.heap.size) v l) (hl : l.length ≤ maxLen) (hok : ∀ o ∈ l, o.ok) (tv : Value) (ts : List (Int × List Int)) (ht : Tears w (Lower w.heap.size) tv ts) (htl : ts.length ≤ maxLen) (htt : ∀ t ∈ ts, t.2.length ≤ maxLen) (h64 : (l.length + 1) * 64 ≤ 140737488355328) :
    Calls Try.prog 5 #[v, tv] w (Holds w) := by
  have HLM := Lib.hid hl
  have HOK := Lib.hid hok
  have H64 := Lib.hid h64
  obtain ⟨o, ho⟩ : ∃ o : OpD, o = ⟨0, 0, [], ts⟩ := ⟨_, rfl⟩
  have HOO := Lib.hid (show o.ok by
    rw [ho]
    exact ⟨Int.le_refl _, show (0 : Int) ≤ 255 by decide, show (-9223372036854775808 : Int) ≤ 0 by decide, show (0 : Int) ≤ 9223372036854775807 by decide, Nat.zero_le _, htl, htt⟩)
  obtain ⟨A, c, rfl⟩ := h.form
  obtain ⟨A2, c2, rfl⟩ := ht.form
  have HV := Lib.hid (show OpVals w (Lower w.heap.size) (.slice none 0 0) (.slice A2 ts.length c2) o by rw [ho]; exact ⟨Bys.nil _ _, ht⟩)
  have HO1 := Lib.hid (show o.kind = 0 ∧ o.i = 0 ∧ o.tears = ts by rw [ho]; exact ⟨rfl, rfl, rfl⟩)
  have H := Lib.hid h
  have HT := Lib.hid ht
  clear h hok hl ht htl htt h64 ho
  go_enter Try.func5, Try.ntmps5
  go_wp2_with fail
  refine (awake_any w).mono ?_
  rintro e w1 ⟨rfl, hk1⟩
  have HK1 := Lib.hid hk1
  have H1 := Lib.hid (H.out.keeps hk1 (fun _ _ _ h => h))
  have HT1 := Lib.hid (HT.out.keeps hk1 (fun _ _ _ h => h))
  have HV1 := Lib.hid (HV.out.keeps hk1 (fun _ _ _ h => h))
  obtain ⟨p, hp⟩ : ∃ p, w.heap.size = p := ⟨_, rfl⟩
  rw [hp] at H1 HV1 HT1
  have HPE := Lib.hid hp
  have HPL := Lib.hid (show p ≤ w1.heap.size by rw [← hp]; exact hk1.size)
  clear hk1 H HV hp
  obtain ⟨v2, w2, hr1, ho2, hk2, _⟩ := join1 (W := w1.alloc (.cells #[] 36)) (g := w1.heap.size) (ty := 22) HPL.out H1.out H64.out (Nat.le_refl _) (heap_alloc_new _ _) ((Keeps.refl No w1).alloc _)
  obtain ⟨v3, wc, hr2, ho3, hkc⟩ := join2 (W := w2.alloc (.cells #[.int .u8 0, .int .i64 0, .slice none 0 0, .slice A2 ts.length c2] 36)) (g := w2.heap.size) (ty := 22) (bv := .slice none 0 0) (tv := .slice A2 ts.length c2) HPL.out (ho2.keeps ((Keeps.refl No w2).alloc _)) H64.out (by rw [HO1.out.1, HO1.out.2.1]; exact heap_alloc_new w2 _) (hk2.alloc _) HV1.out
  have HR1 := Lib.hid hr1
  have HR2 := Lib.hid hr2
  have HO3 := Lib.hid ho3
  have HKC := Lib.hid hkc
  have HOKS := Lib.hid (show ∀ x ∈ l ++ [o], x.ok from fun x hx => by
    rcases List.mem_append.1 hx with hx | hx
    · exact HOK.out x hx
    · rw [List.mem_singleton.1 hx]; exact HOO.out)
  clear hr1 hr2 ho2 ho3 hk2 hkc
  go_wp2_with (at_builtin; first | refine Lib.wpList_append_run _ rfl _ _ _ _ rfl _ _ rfl rfl _ _ HR1.out ?_ | refine Lib.wpList_append_run _ rfl _ _ _ _ rfl _ _ rfl rfl _ _ HR2.out ?_)
  refine (few_any wc _ _ (l ++ [o]) HO3.out (by rw [List.length_append]; have := H64.out; unfold maxLen; simp; omega) HOKS.out).mono ?_
  rintro e w' ⟨rfl, rfl⟩
  have hkc := HKC.out
  have H2 := Lib.hid (H1.out.keeps hkc (fun _ _ _ h => h))
  have HT2 := Lib.hid (HT1.out.keeps hkc (fun _ _ _ h => h))
  have HK2 := Lib.hid (HK1.out.trans hkc)
  have HPW := Lib.hid (show p ≤ wc.heap.size from Nat.le_trans HPL.out hkc.size)
  clear hkc H1 HV1 HT1 HK1 HR1 HR2 HO3 HKC
  cases hfew : few (l ++ [o])
  · clear hfew
    go_wp2_with fail
    go_ret
    exact ⟨rfl, HK2.out.all⟩
  have HFEW := Lib.hid (few_left hfew)
  have HT40 := Lib.hid (show ts.length ≤ 40 by rw [← HO1.out.2.2]; exact few_right hfew)
  clear hfew
  go_wp2_with fail
  refine (made_any wc p _ l H2.out HPW.out HFEW.out HOK.out).mono ?_
  rintro e w2' ⟨pd, rfl, Fd, hd2, hF2, hk2⟩
  have HFIT := Lib.hid (made_fits HFEW.out HOK.out)
  have HSZ := Lib.hid (made_size l)
  obtain ⟨sd, hsd⟩ : ∃ s, acts eight l = s := ⟨_, rfl⟩
  rw [hsd] at hd2 HFIT HSZ
  have HWF := Lib.hid (wf_of hd2)
  have HLN := Lib.hid (lens_of hd2)
  have HF2 := Lib.hid (show ∀ b, Fd b → w.heap.size ≤ b ∧ b < w2'.heap.size from fun b hb => ⟨by have := hF2 b hb; have := HPW.out; have := HPE.out; omega, hd2.there b hb⟩)
  have HK3 := Lib.hid (HK2.out.trans hk2)
  have HT3 := Lib.hid (HT2.out.keeps hk2 (fun _ _ _ h => h))
  have HPN := Lib.hid (show p ≤ w2'.heap.size from Nat.le_trans HPW.out hk2.size)
  have HRA := Lib.hid (show ReadAt w w2'.heap.size pd Fd sd 0 (.slice none 0 0) w2' from ⟨hd2, ⟨by simp [acc], .inl ⟨rfl, rfl⟩⟩, HK3.out, Nat.le_refl _⟩)
  clear hd2 hF2 hk2 hsd HT2 HK2 H2
  go_wp2_with fail
  go_loopw [8, 9] (fun v i wr => ∃ k : Nat, k ≤ 8 ∧ i = .int .i64 k ∧ ReadAt w w2'.heap.size pd Fd sd k v wr ∧ ∃ Av cv, v = .slice Av (k * 4) cv) (fun _ i _ => 8 - (intOf i).toNat)
  case atStart => exact ⟨0, Nat.zero_le _, rfl, HRA.out, none, 0, rfl⟩
  case round =>
    obtain ⟨k, hk, rfl, hra, Av, cv, rfl⟩ := hrel
    have HR := Lib.hid hra
    have HTO := Lib.hid (ticks_ops sd k)
    have HLK := Lib.hid (ticks_like sd k)
    have hk3 := hra.2.2.1
    have HKR := Lib.hid hk3
    have HNR := Lib.hid hra.2.2.2
    have hnt : (ticks k sd).last.length ≤ 4096 := by rw [HLK.out.1]; exact HFIT.out.2.2.2.2.1
    have hzt : (ticks k sd).size ≤ 4096 := by rw [HLK.out.2.2]; exact HFIT.out.2.2.2.2.2
    have hot : (ticks k sd).ops < 1000000 := by rw [HTO.out.1]; have := HFIT.out.1; omega
    have hct : (ticks k sd).cn < 1000000 := by rw [HTO.out.2]; have := HFIT.out.2.2.1; omega
    clear hra hk3
    by_cases hlt : k < 8
    · have hkl : k < sd.last.length := by rw [HSZ.out.2]; exact hlt
      have hk0 : (0 : Int) ≤ (k : Int) := by omega
      have hk1 : (k : Int) < 8 := by omega
      have HRC := Lib.hid (read_cur HLK.out hkl)
      have HST := Lib.hid (fun w1 w2 v' => @read_step w wr w1 w2 w2'.heap.size pd k Fd sd _ v' HF2.out (by have := HPE.out; have := HPN.out; omega) HWF.out HLN.out HSZ.out.1 hkl HR.out)
      obtain ⟨cb, hcb⟩ : ∃ c, cur sd k = c := ⟨_, rfl⟩
      have HCL := Lib.hid (show cb.length = 4 by rw [← hcb, cur_len HWF.out HLN.out hkl, HSZ.out.1])
      rw [hcb] at HRC HST
      obtain ⟨tk, htk⟩ : ∃ t, ticks k sd = t := ⟨_, rfl⟩
      have HDK := Lib.hid HR.out.1
      rw [htk] at HRC HST HDK hnt hzt hot hct
      go_wp2_with fail
      refine (read_any wr pd Fd tk (k : Int) HDK.out hot hnt hzt).mono ?_
      rintro e w3 ⟨v3, rfl, hv3, hd3, hk3⟩
      have HK4 := Lib.hid (HKR.out.then hk3 (fun b hb => .inr (HF2.out b hb).1))
      rcases HRC.out with hr | hr
      · rw [hr] at hv3 ⊢
        obtain ⟨A3, c3, rfl⟩ := Bys.form hv3
        clear hv3 hr hd3 hk3
        go_wp2_with fail
        go_ret
        exact ⟨rfl, HK4.out.all⟩
      · rw [hr] at hv3 ⊢
        simp only at hv3 ⊢
        obtain ⟨A3, c3, rfl⟩ := Bys.form hv3
        obtain ⟨v4, w4, hr4, h2, h3, _⟩ := append_bys w3 w2'.heap.size 31 _ (k * 4) (acc sd k) (read_row HF2.out HR.out hk3) _ _ cb hv3.bys (by rw [HCL.out]; omega) (Nat.le_trans HNR.out hk3.size)
        have R := Lib.hid (HST.out w3 w4 v4 hd3 hk3 h2 h3)
        have HR4 := Lib.hid hr4
        obtain ⟨A4, c4, rfl⟩ : ∃ A c, v4 = .slice A ((k + 1) * 4) c := by
          rcases R.out.2.1.2 with ⟨e, h0⟩ | ⟨g, cap, cur, e, _⟩
          · omega
          · exact ⟨_, _, e⟩
        rw [HCL.out] at HR4 ⊢
        clear hv3 hr hd3 hk3 hr4 h2 h3 HST HRC
        go_wp2_with (at_builtin; refine Lib.wpList_append_run _ rfl _ _ _ _ rfl _ _ rfl rfl _ _ HR4.out ?_)
        go_roundw
        case rel => exact ⟨k + 1, by omega, by go_num, R.out, _, _, rfl⟩
        case measure => simp [intOf]; omega
    · obtain rfl : k = 8 := by omega
      obtain ⟨s8, hs8⟩ : ∃ t, ticks 8 sd = t := ⟨_, rfl⟩
      have HD8 := Lib.hid HR.out.1
      have HAL := Lib.hid (show (acc sd 8).length = 32 by rw [acc_len HWF.out HLN.out 8 (by rw [HSZ.out.2]; omega), HSZ.out.1])
      have hba := (Byt.of_own (w := wr) (bs := acc sd 8) HR.out.2.1).mono (G := fun b => w2'.heap.size ≤ b ∧ b < wr.heap.size) fun b hb => ⟨hb.1, own_lt HR.out.2.1 hb.2⟩
      obtain ⟨av, hav⟩ : ∃ a, acc sd 8 = a := ⟨_, rfl⟩
      have HBA := Lib.hid hba
      have HSY := Lib.hid (synced HWF.out (HLK.out.trans (tick_like _)))
      have HSO := Lib.hid (sync_or (ticks 8 sd))
      have e8 : sd.last.length = 8 := HSZ.out.2
      rw [e8, hav] at HSY
      rw [hav] at HBA HAL
      rw [hs8] at HD8 HSY HSO HLK hnt hzt hot hct
      have HFW := Lib.hid (show ∀ b, Fd b → b < wr.heap.size from HD8.out.there)
      clear hba hav e8
      go_wp2_with fail
      refine (sync_any wr pd Fd s8 HD8.out hot hct hnt).mono ?_
      rintro e w3 ⟨rfl, hd3, hk3⟩
      have HK3' := Lib.hid (HKR.out.then hk3 (fun b hb => .inr (HF2.out b hb).1))
      rcases HSO.out with hs | hs
      · rw [hs]
        clear hs hd3 hk3
        go_wp2_with fail
        go_ret
        exact ⟨rfl, HK3'.out.all⟩
      rw [hs] at hd3 ⊢
      simp only at hd3 ⊢
      obtain ⟨t, hst⟩ : ∃ t, syncL s8.tick s8.tick.uns = t := ⟨_, rfl⟩
      have HCT := Lib.hid (show s8.tick.cn < 1000000 from hct)
      rw [hst] at hd3 HSY
      obtain ⟨F3, hF3⟩ : ∃ F, Grow Fd wr w3 = F := ⟨_, rfl⟩
      have HF3 := Lib.hid (show ∀ b, F3 b → w.heap.size ≤ b from fun b hb => by
        rw [← hF3] at hb
        have h1 := HKR.out.size
        rcases hb with hb | hb
        · exact (HF2.out b hb).1
        · omega)
      have HBA3 := Lib.hid (HBA.out.keeps hk3 (fun b hb hF => by have h1 : w2'.heap.size ≤ b := hb.1.1; have := (HF2.out b hF).2; omega))
      have HT4 := Lib.hid ((HT.out.keeps HKR.out (fun _ _ _ h => h)).keeps hk3 (fun b hb _ hF => by have := (HF2.out b hF).1; unfold Lower at hb; omega))
      rw [hF3] at hd3
      have HD3 := Lib.hid hd3
      have hn3 : t.last.length ≤ 4096 := by rw [HSY.out.2.2.2.1]; omega
      have hz3 : t.size ≤ 4096 := by rw [HSY.out.2.2.2.2.1]; exact HFIT.out.2.2.2.2.2
      have hc3 : t.cn < 1000000 := by rw [HSY.out.2.2.2.2.2]; exact HCT.out
      have HFA := Lib.hid (show ∀ b, (w2'.heap.size ≤ b ∧ b < wr.heap.size) → ¬ F3 b from fun b hb hF => by
        rw [← hF3] at hF
        rcases hF with hF | hF
        · have := (HF2.out b hF).2
          omega
        · omega)
      clear hs hd3 hk3 hF3 hst HBA
      go_wp2_with fail
      refine (uns_any w3 pd F3 t HD3.out hc3).mono ?_
      rintro e w4 ⟨v4, rfl, hv4, hk4⟩
      rw [HSY.out.2.1] at hv4
      obtain ⟨A4, c4, rfl⟩ : ∃ A c, v4 = .slice A 0 c := (by obtain ⟨A, c, e, _⟩ := hv4; exact ⟨A, c, e⟩)
      have HD4 := Lib.hid (HD3.out.keeps hk4 (fun _ _ h => h))
      have HK4 := Lib.hid (HK3'.out.trans hk4)
      have HB4 := Lib.hid (HBA3.out.keeps hk4 (fun _ _ h => h))
      have HT5 := Lib.hid (HT4.out.keeps hk4 (fun _ _ _ h => h))
      clear hv4 hk4 HD3 HK3' HBA3 HT4
      go_wp2_with fail
      refine (bytes_any w4 pd F3 t HD4.out hn3 hz3).mono ?_
      rintro e w5 ⟨v5, rfl, hv5, hk5⟩
      rw [HSY.out.1] at hv5
      have HV5 := Lib.hid hv5
      obtain ⟨A5, c5, rfl⟩ := Bys.form hv5
      have HD5 := Lib.hid (HD4.out.keeps hk5 (fun _ _ h => h))
      have HK5 := Lib.hid (HK4.out.trans hk5)
      have HB5 := Lib.hid (HB4.out.keeps hk5 (fun _ _ h => h))
      have HT6 := Lib.hid (HT5.out.keeps hk5 (fun _ _ _ h => h))
      clear hv5 hk5 HD4 HK4 HB4 HT5
      go_wp2_with fail
      refine (same_any w5 _ _ _ _ av av HV5.out.bys HB5.out.bys (by rw [HAL.out]; omega) (by rw [HAL.out]; omega)).mono ?_
      rintro e w6 ⟨rfl, n6, rfl⟩
      have htr : decide (av = av) = true := by simp
      rw [htr]
      clear htr
      obtain ⟨w6, hw6⟩ : ∃ x, w5.drewN n6 = x := ⟨_, rfl⟩
      have hk6 : Keeps No w5 w6 := by rw [← hw6]; exact (Keeps.refl No w5).drewN n6
      rw [hw6]
      have HD6 := Lib.hid (HD5.out.keeps hk6 (fun _ _ h => h))
      have HK6 := Lib.hid (HK5.out.trans hk6)
      have HB6 := Lib.hid (HB5.out.keeps hk6 (fun _ _ h => h))
      have HT7 := Lib.hid (HT6.out.keeps hk6 (fun _ _ _ h => h))
      clear hw6 hk6 HD5 HK5 HB5 HT6 HV5
      go_wp2_with fail
      refine (crash_any w6 pd F3 (Lower w.heap.size) t _ ts HD6.out HT7.out (fun b hb => ⟨Nat.lt_of_lt_of_le hb HK6.out.size, fun hF => by have := HF3.out b hF; unfold Lower at hb; omega⟩) hc3 hn3 hz3 (by have := HT40.out; omega)).mono ?_
      rintro e w7 ⟨rfl, hd7, hk7⟩
      rw [HSY.out.2.2.1 ts] at hd7
      have HD7 := Lib.hid hd7
      have HK7 := Lib.hid (HK6.out.then hk7 (fun b hb => .inr (HF3.out b hb)))
      have HB7 := Lib.hid (HB6.out.keeps hk7 (fun b hb hF => HFA.out b hb.1 hF))
      clear hd7 hk7 HD6 HK6 HB6 HT7
      go_wp2_with fail
      refine (bytes_any w7 pd _ t HD7.out hn3 hz3).mono ?_
      rintro e w8 ⟨v8, rfl, hv8, hk8⟩
      rw [HSY.out.1] at hv8
      have HV8 := Lib.hid hv8
      obtain ⟨A8, c8, rfl⟩ := Bys.form hv8
      have HK8 := Lib.hid (HK7.out.trans hk8)
      have HB8 := Lib.hid (HB7.out.keeps hk8 (fun _ _ h => h))
      clear hv8 hk8
      go_wp2_with fail
      refine (same_any w8 _ _ _ _ av av HV8.out.bys HB8.out.bys (by rw [HAL.out]; omega) (by rw [HAL.out]; omega)).mono ?_
      rintro e w9 ⟨rfl, n9, rfl⟩
      have htr : decide (av = av) = true := by simp
      rw [htr]
      have HK9 := Lib.hid (HK8.out.drewN n9)
      go_wp2_with fail
      go_ret
      exact ⟨rfl, HK9.out.all⟩
end Go.Proofs.Ytconholnjhjhcaa
