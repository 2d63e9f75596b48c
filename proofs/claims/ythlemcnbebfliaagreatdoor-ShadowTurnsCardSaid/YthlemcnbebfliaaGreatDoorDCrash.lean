/-
  THE WALK OF Crash.
-/
import Derived.Test.YthlemcnbebfliaaGreatDoorDSync
namespace Go.Proofs.YthlemcnbebfliaaGreatDoor.Dsk
open Ks Go.RowKit
set_option maxRecDepth 20000

/-- what is left of these, by tears -/
def crashL : St → List Int → List (Int × List Int) → St
  | s, [], _ => s
  | s, i :: us, ts => crashL (s.settled i (leftOf s i (ts.headD (0, [])).1 (ts.headD (0, [])).2)) us ts.tail
def _root_.Ks.St.crash (s : St) (ts : List (Int × List Int)) : St := crashL s s.uns ts

/-- a slice of tears -/
def Tears (w : World) (G : Nat → Prop) (v : Value) (ts : List (Int × List Int)) : Prop :=
  ∃ A c, v = .slice A ts.length c ∧ ts.length ≤ c ∧ (0 < ts.length → ∃ b o, A = some ⟨b, o, none⟩ ∧ G b ∧ ∀ k, k < ts.length → w.cell? ⟨b, o + k * 2, none⟩ = some (.int .i64 (ts.getD k (0, [])).1) ∧
    ∃ tv, w.cell? ⟨b, o + k * 2 + 1, none⟩ = some tv ∧ Bys w G tv (ts.getD k (0, [])).2)
theorem Tears.keeps {w w' : World} {G S : Nat → Prop} {v : Value} {ts : List (Int × List Int)} (h : Tears w G v ts) (hk : Keeps S w w') (hS : ∀ b, G b → b < w.heap.size → ¬ S b) : Tears w' G v ts := by
  obtain ⟨A, c, rfl, hc, h⟩ := h
  refine ⟨A, c, rfl, hc, fun h0 => ?_⟩
  obtain ⟨b, o, rfl, hG, hcell⟩ := h h0
  refine ⟨b, o, rfl, hG, fun k hk' => ?_⟩
  obtain ⟨h1, tv, h2, h3⟩ := hcell k hk'
  have hl := block_lt_of_cell h1
  exact ⟨(hk.cell hl (hS b hG hl)).trans h1, tv, (hk.cell hl (hS b hG hl)).trans h2, h3.keeps hk hS⟩

/-- where the loop stands behind k rounds: w2 is the world behind Unsynced -/
def CrashAt (p : Nat) (F : Nat → Prop) (s : St) (us : List Int) (ts : List (Int × List Int)) (w2 : World) (k : Nat) (wr : World) : Prop :=
  ∃ sk, DiskAt Tryz.prog wr p (Grow F w2 wr) sk ∧ crashL sk (us.drop k) (ts.drop k) = crashL s us ts ∧ (∀ j ∈ us.drop k, 0 ≤ j ∧ j < s.last.length ∧ ∃ bs, sk.cach j = some bs) ∧ sk.size = s.size ∧ sk.last.length = s.last.length ∧ Keeps F w2 wr ∧ w2.heap.size ≤ wr.heap.size

theorem leftOf_length {w : World} {p : Nat} {F : Nat → Prop} {s : St} (h : DiskAt Tryz.prog w p F s) {i kind : Int} {tb bs : List Int} (hc : s.cach i = some bs) (hi0 : 0 ≤ i) (hi1 : i < s.last.length) : (leftOf s i kind tb).length = s.size := by
  obtain ⟨_, _, _, _, _, h⟩ := h
  unfold leftOf
  split
  · rw [hc]; exact (h.keys i bs hc).2.2
  · split
    · exact junk_length _ _
    · exact h.lens i.toNat (by omega)

theorem crash_step {p : Nat} {F : Nat → Prop} {s : St} {us : List Int} {ts : List (Int × List Int)} {w2 w' : World} {k : Nat} {sk : St} {u : Int} (hp : us.Pairwise (fun a b => a < b)) (hk : k < us.length)
    (h2 : crashL sk (us.drop k) (ts.drop k) = crashL s us ts) (h3 : ∀ j ∈ us.drop k, 0 ≤ j ∧ j < s.last.length ∧ ∃ bs, sk.cach j = some bs) (h4 : sk.size = s.size) (h5 : sk.last.length = s.last.length)
    (hu : us.getD k 0 = u) (hd : DiskAt Tryz.prog w' p (Grow F w2 w') (sk.settled u (leftOf sk u (ts.getD k (0, [])).1 (ts.getD k (0, [])).2))) (hkp : Keeps F w2 w') : CrashAt p F s us ts w2 (k + 1) w' := by
  have e := drop_cons hk
  have et : (ts.drop k).headD (0, []) = ts.getD k (0, []) := by
    simp [List.headD_eq_head?_getD, List.head?_drop, List.getD]
  refine ⟨_, hd, ?_, fun j hj => ?_, h4, by simpa [Ks.St.settled] using h5, hkp, hkp.size⟩
  · rw [← h2, e, hu]
    show _ = crashL (sk.settled u (leftOf sk u ((ts.drop k).headD (0, [])).1 ((ts.drop k).headD (0, [])).2)) (us.drop (k + 1)) (ts.drop k).tail
    rw [et, List.tail_drop]
  · have hj' := h3 j (by rw [e]; exact List.mem_cons_of_mem _ hj)
    refine ⟨hj'.1, hj'.2.1, ?_⟩
    have hne : j ≠ u := by
      have hpw := hp.drop (i := k)
      rw [e] at hpw
      have := (List.pairwise_cons.1 hpw).1 j hj
      omega
    simp only [Ks.St.settled, if_neg hne]
    exact hj'.2.2

/-- what is new lies in what the disk may take -/
theorem byt_grow {F : Nat → Prop} {w2 wr W w3 : World} {v : Value} {bs : List Int} (h : Byt w3 (Or (Grow F w2 wr) (From W.heap.size)) v bs) (h1 : w2.heap.size ≤ wr.heap.size) (h2 : wr.heap.size ≤ W.heap.size) (h3 : W.heap.size ≤ w3.heap.size) : Byt w3 (Grow F w2 w3) v bs := by
  obtain ⟨A, c, rfl, hc, hx⟩ := h
  refine ⟨A, c, rfl, hc, fun h0 => ?_⟩
  obtain ⟨b, o, rfl, hb, hcs⟩ := hx h0
  refine ⟨b, o, rfl, ⟨?_, hb.2⟩, hcs⟩
  rcases hb.1 with (h | h) | h
  · exact .inl h
  · exact .inr ⟨h.1, by omega⟩
  · exact .inr ⟨by unfold From at h; omega, hb.lt⟩
theorem disk_grow {F : Nat → Prop} {w2 wr w3 : World} {p : Nat} {s : St} (h : DiskAt Tryz.prog wr p (Grow F w2 wr) s) (hk : Keeps No wr w3) : DiskAt Tryz.prog w3 p (Grow F w2 w3) s := by
  have h' := h.keeps hk (fun _ _ h => h)
  refine h'.mono (fun b hb => ?_) (fun b hb => ?_)
  · rcases hb with hb | hb
    · exact .inl hb
    · exact .inr ⟨hb.1, Nat.lt_of_lt_of_le hb.2 hk.size⟩
  · rcases hb with hb | hb
    · exact h'.there b (.inl hb)
    · exact hb.2
theorem disk_regrow {F : Nat → Prop} {w2 w3 w4 : World} {p : Nat} {s : St} (h : DiskAt Tryz.prog w4 p (Grow F w2 w3) s) (hs : w3.heap.size ≤ w4.heap.size) : DiskAt Tryz.prog w4 p (Grow F w2 w4) s := by
  refine h.mono (fun b hb => ?_) (fun b hb => ?_)
  · rcases hb with hb | hb
    · exact .inl hb
    · exact .inr ⟨hb.1, Nat.lt_of_lt_of_le hb.2 hs⟩
  · rcases hb with hb | hb
    · exact h.there b (.inl hb)
    · exact hb.2

set_option maxRecDepth 100000 in
set_option maxHeartbeats 2000000 in
theorem crash_any (w : World) (p : Nat) (F G : Nat → Prop) (s : St) (tv : Value) (ts : List (Int × List Int)) (h : DiskAt Tryz.prog w p F s) (ht : Tears w G tv ts) (hG : ∀ b, G b → b < w.heap.size ∧ ¬ F b) (hcn : s.cn < 1000000) (hn : s.last.length ≤ 4096) (hs : s.size ≤ 4096)
    (htl : ts.length ≤ 1000000) :
    Calls Tryz.prog 25 #[.pointer (some ⟨p, 0, none⟩), tv] w (Does p F (s.crash ts) w) := by
  have H := Lib.hid h
  have HG := Lib.hid hG
  have HTS := Lib.hid ht
  obtain ⟨At, ct, rfl, hct, _⟩ := ht
  clear h hG
  go_enter Tryz.func25, Tryz.ntmps25
  go_wp2_with fail
  refine (uns_any w p F s H.out hcn).mono ?_
  rintro e w2 ⟨v, rfl, hv, hk2⟩
  obtain ⟨us, hus⟩ : ∃ us, s.uns = us := ⟨_, rfl⟩
  have HR := Lib.hid (show s.crash ts = crashL s us ts by rw [← hus]; rfl)
  have HP := Lib.hid (show us.Pairwise (fun a b => a < b) by rw [← hus]; exact sorted_uns s)
  have HM := Lib.hid (show ∀ j ∈ us, 0 ≤ j ∧ j < s.last.length ∧ ∃ bs, s.cach j = some bs by
    intro j hj
    rw [← hus, mem_uns] at hj
    exact ⟨hj.1, hj.2.1, Option.isSome_iff_exists.1 hj.2.2⟩)
  have hul : us.length ≤ 4096 := by
    rw [← hus]
    unfold Ks.St.uns
    rw [List.length_map]
    have := List.length_filter_le (fun i : Nat => (s.cach (i : Int)).isSome) (List.range s.last.length)
    simp at this
    omega
  rw [hus] at hv
  have HI := Lib.hid hv.there
  have HD2 := Lib.hid (H.out.keeps hk2 (fun _ _ h => h))
  have HK2 := Lib.hid hk2
  have HT := Lib.hid H.out.there
  obtain ⟨A, c, rfl, hc, _⟩ := hv
  clear hk2 hus
  go_wp2_with fail
  go_loopw [10] (fun i wr => ∃ k : Nat, k ≤ us.length ∧ i = .int .i64 k ∧ CrashAt p F s us ts w2 k wr) (fun i _ => us.length - (intOf i).toNat)
  case atStart =>
    refine ⟨0, Nat.zero_le _, rfl, s, DiskAt.grow HD2.out, rfl, HM.out, rfl, rfl, Keeps.refl _ _, Nat.le_refl _⟩
  case round =>
    obtain ⟨k, hk, rfl, sk, h1, h2, h3, h4, h5, h6, h7⟩ := hrel
    by_cases hlt : k < us.length
    · have hI := HI.out.keeps h6 (fun b hb hl hF => by have := HT.out b hF; unfold From at hb; omega)
      obtain ⟨A', c', e, hc', hx⟩ := hI
      obtain ⟨b, rfl, hb, hcell⟩ := hx (by omega)
      simp only [Value.slice.injEq, true_and] at e
      obtain ⟨rfl, rfl⟩ := e
      have hu := h3 (us.getD k 0) (by rw [drop_cons hlt]; exact List.mem_cons_self)
      have hcl := hcell k hlt
      obtain ⟨u, hue⟩ : ∃ u, us.getD k 0 = u := ⟨_, rfl⟩
      rw [hue] at hcl hu
      obtain ⟨hu0, hu1, bs, hbs⟩ := hu
      have hTr := (HTS.out.keeps HK2.out (fun b _ _ h => h)).keeps h6 (fun b hb _ hF => (HG.out b hb).2 hF)
      obtain ⟨lastV, lv, cb, pm, D, hin⟩ := h1
      have hplt := hin.blk.lt
      have HIN := Lib.hid (show DiskAt Tryz.prog wr p (Grow F w2 wr) sk from ⟨_, _, _, _, _, hin⟩)
      have H2 := Lib.hid h2
      have H3 := Lib.hid h3
      have H4 := Lib.hid h4
      have H5 := Lib.hid h5
      have H6 := Lib.hid h6
      have HU := Lib.hid hue
      have HBS := Lib.hid hbs
      have hbl := block_lt_of_cell hcl
      have hk0 : (0 : Int) ≤ (k : Int) := by omega
      have hk1 : (k : Int) < (us.length : Int) := by omega
      clear hcell hx h2 h3 h4 h5 h6 hin hue hbs
      by_cases hkt : k < ts.length
      · obtain ⟨A1, c1, e1, _, hx1⟩ := hTr
        obtain ⟨b1, o1, rfl, hG1, hcs1⟩ := hx1 (by omega)
        obtain ⟨hc1, tv1, hc2, hb1⟩ := hcs1 k hkt
        have hkt1 : (k : Int) < (ts.length : Int) := by omega
        have hb1l := block_lt_of_cell hc1
        obtain ⟨tr, htr⟩ : ∃ tr, ts.getD k (0, []) = tr := ⟨_, rfl⟩
        rw [htr] at hc1 hb1
        obtain ⟨kind, tb⟩ := tr
        simp only [Value.slice.injEq, true_and] at e1
        obtain ⟨rfl, rfl⟩ := e1
        have HTR := Lib.hid htr
        have HB1 := Lib.hid hb1
        obtain ⟨A2, c2, rfl, _, _⟩ := hb1
        clear htr hx1 hcs1
        go_wp2_with fail
        have hkW : Keeps No wr (wr.alloc (.cells #[.int .i64 kind, .slice A2 tb.length c2] 82)) := (Keeps.refl No wr).alloc _
        have HDW := Lib.hid (disk_grow HIN.out hkW)
        have HBW := Lib.hid (HB1.out.keeps hkW (fun _ _ _ h => h))
        refine (left_any _ p _ G sk u kind _ tb (HIN.out.keeps hkW (fun _ _ h => h)) HBW.out bs HBS.out (by rw [H4.out]; exact hs) (by rw [H5.out]; exact hn)).mono ?_
        rintro e w3 ⟨v3, rfl, hv3, hk3⟩
        have HLL := Lib.hid (leftOf_length (kind := kind) (tb := tb) HIN.out HBS.out hu0 (by rw [H5.out]; exact hu1))
        have HV3 := Lib.hid (byt_grow hv3 h7 hkW.size hk3.size)
        have HD3 := Lib.hid (disk_grow HIN.out (hkW.trans hk3))
        have HK3 := Lib.hid ((H6.out.alloc (.cells #[.int .i64 kind, (.slice A2 tb.length c2)] 82)).then hk3 (fun b hb => hb.elim))
        clear hv3 hk3 hkW
        go_wp2_with fail
        refine (settle_any w3 p _ sk u v3 _ HD3.out HV3.out HLL.out hu0 (by rw [H5.out]; exact hu1) (by rw [H5.out]; exact hn)).mono ?_
        rintro e w4 ⟨rfl, hd4, hk4⟩
        have R := Lib.hid (crash_step (p := p) (F := F) (ts := ts) HP.out hlt H2.out H3.out H4.out H5.out HU.out (by rw [HTR.out]; exact disk_regrow hd4 hk4.size) (HK3.out.then hk4 (fun b hb => hb.imp id (fun h => h.1))))
        clear hd4 hk4
        go_wp2_with fail
        go_roundw
        case rel => exact ⟨k + 1, by omega, by go_num, R.out⟩
        case measure => simp [intOf]; omega
      · have hkt1 : decide ((k : Int) < (ts.length : Int)) = false := by simp; omega
        have HTR := Lib.hid (show ts.getD k (0, []) = (0, []) by simp [List.getD, List.getElem?_eq_none (show ts.length ≤ k by omega)])
        go_wp2_with fail
        have hkW : Keeps No wr (wr.alloc (.cells #[.int .i64 0, .slice none 0 0] 82)) := (Keeps.refl No wr).alloc _
        have HDW := Lib.hid (disk_grow HIN.out hkW)
        have HBW := Lib.hid ((Bys.nil wr G).keeps hkW (fun _ _ _ h => h))
        refine (left_any _ p _ G sk u 0 _ [] (HIN.out.keeps hkW (fun _ _ h => h)) HBW.out bs HBS.out (by rw [H4.out]; exact hs) (by rw [H5.out]; exact hn)).mono ?_
        rintro e w3 ⟨v3, rfl, hv3, hk3⟩
        have HLL := Lib.hid (leftOf_length (kind := 0) (tb := []) HIN.out HBS.out hu0 (by rw [H5.out]; exact hu1))
        have HV3 := Lib.hid (byt_grow hv3 h7 hkW.size hk3.size)
        have HD3 := Lib.hid (disk_grow HIN.out (hkW.trans hk3))
        have HK3 := Lib.hid ((H6.out.alloc (.cells #[.int .i64 0, (.slice none 0 0)] 82)).then hk3 (fun b hb => hb.elim))
        clear hv3 hk3 hkW
        go_wp2_with fail
        refine (settle_any w3 p _ sk u v3 _ HD3.out HV3.out HLL.out hu0 (by rw [H5.out]; exact hu1) (by rw [H5.out]; exact hn)).mono ?_
        rintro e w4 ⟨rfl, hd4, hk4⟩
        have R := Lib.hid (crash_step (p := p) (F := F) (ts := ts) HP.out hlt H2.out H3.out H4.out H5.out HU.out (by rw [HTR.out]; exact disk_regrow hd4 hk4.size) (HK3.out.then hk4 (fun b hb => hb.imp id (fun h => h.1))))
        clear hd4 hk4
        go_wp2_with fail
        go_roundw
        case rel => exact ⟨k + 1, by omega, by go_num, R.out⟩
        case measure => simp [intOf]; omega
    · obtain rfl : k = us.length := by omega
      have R := Lib.hid (show sk = crashL s us ts by rw [← h2, List.drop_length]; rfl)
      have HK3 := Lib.hid ((HK2.out.no (T := F)).trans h6)
      have HD3 := Lib.hid (h1.mono (G := Grow F w wr) (fun b hb => hb.imp id (fun h => ⟨Nat.le_trans HK2.out.size h.1, h.2⟩)) (fun b hb => by
        rcases hb with hb | hb
        · exact h1.there b (.inl hb)
        · exact hb.2))
      clear h2 h3 h4 h5 h6 h7 h1
      go_wp2_with fail
      go_end0
      rw [HR.out]
      rw [← R.out]
      exact ⟨rfl, HD3.out, HK3.out⟩
theorem Tears.form {w : World} {F : Nat → Prop} {v : Value} {ts : List (Int × List Int)} (h : Tears w F v ts) : ∃ A c, v = .slice A ts.length c := by
  obtain ⟨A, c, e, _⟩ := h
  exact ⟨A, c, e⟩
/-- the k-th tear's cells -/
theorem Tears.at_ {w : World} {G : Nat → Prop} {A : Option Addr} {n c : Nat} {ts : List (Int × List Int)} (h : Tears w G (.slice A n c) ts) {k : Nat} {x : Int × List Int} (hx : ts[k]? = some x) :
    ∃ b o A1 c1, A = some ⟨b, o, none⟩ ∧ G b ∧ n ≤ c ∧ w.cell? ⟨b, o + k * 2, none⟩ = some (.int .i64 x.1) ∧ w.cell? ⟨b, o + k * 2 + 1, none⟩ = some (.slice A1 x.2.length c1) ∧ Bys w G (.slice A1 x.2.length c1) x.2 := by
  obtain ⟨A', c', e, hc, hcs⟩ := h
  simp only [Value.slice.injEq] at e
  obtain ⟨rfl, rfl, rfl⟩ := e
  have hk := (List.getElem?_eq_some_iff.1 hx).1
  obtain ⟨b, o, rfl, hG, hcells⟩ := hcs (by omega)
  obtain ⟨hc1, tv, hc2, hv⟩ := hcells k hk
  have e : ts.getD k (0, []) = x := by simp [List.getD, hx]
  rw [e] at hc1 hv
  obtain ⟨A1, c1, rfl⟩ := hv.form
  exact ⟨b, o, A1, c1, rfl, hG, hc, hc1, hc2, hv⟩

end Go.Proofs.YthlemcnbebfliaaGreatDoor.Dsk
