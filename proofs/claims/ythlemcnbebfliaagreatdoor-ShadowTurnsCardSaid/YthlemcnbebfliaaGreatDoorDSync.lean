/-
  THE WALK OF Sync.
-/
import Derived.Test.YthlemcnbebfliaaGreatDoorDUns
namespace Go.Proofs.YthlemcnbebfliaaGreatDoor.Dsk
open Ks Go.RowKit
set_option maxRecDepth 20000

/-- what is cached of these lasts -/
def syncL : St → List Int → St
  | s, [] => s
  | s, i :: us => syncL (s.settled i ((s.cach i).getD [])) us
def _root_.Ks.St.sync (s : St) : St × Int := if s.fails then (s.tick, 3) else (syncL s.tick s.uns, 0)

/-- where the loop stands behind k rounds -/
def SyncAt (p : Nat) (F : Nat → Prop) (s : St) (us : List Int) (usv : Value) (w1 : World) (k : Nat) (wr : World) : Prop :=
  ∃ sk, DiskAt Tryz.prog wr p F sk ∧ syncL sk (us.drop k) = syncL s us ∧ (∀ j ∈ us.drop k, 0 ≤ j ∧ j < s.last.length ∧ ∃ bs, sk.cach j = some bs) ∧ sk.size = s.size ∧ sk.last.length = s.last.length ∧ Keeps F w1 wr ∧ Ints wr (From w1.heap.size) usv us

theorem drop_cons {us : List Int} {k : Nat} (h : k < us.length) : us.drop k = us.getD k 0 :: us.drop (k + 1) := by
  rw [List.drop_eq_getElem_cons h]
  simp [List.getD, h]

theorem sync_step {p : Nat} {F : Nat → Prop} {s : St} {us : List Int} {usv : Value} {w1 wr w' : World} {k : Nat} {sk : St} {bs : List Int} (hp : us.Pairwise (fun a b => a < b)) (hk : k < us.length) (hF : ∀ b, F b → b < w1.heap.size)
    (h2 : syncL sk (us.drop k) = syncL s us) (h3 : ∀ j ∈ us.drop k, 0 ≤ j ∧ j < s.last.length ∧ ∃ bs, sk.cach j = some bs) (h4 : sk.size = s.size) (h5 : sk.last.length = s.last.length) (h6 : Keeps F w1 wr) (h7 : Ints wr (From w1.heap.size) usv us)
    (hc : sk.cach (us.getD k 0) = some bs) (hd : DiskAt Tryz.prog w' p F (sk.settled (us.getD k 0) bs)) (hkp : Keeps F wr w') : SyncAt p F s us usv w1 (k + 1) w' := by
  have e := drop_cons hk
  refine ⟨_, hd, ?_, fun j hj => ?_, h4, by simpa [Ks.St.settled] using h5, h6.trans hkp, h7.keeps hkp fun b hb hl hFb => ?_⟩
  · rw [← h2, e]
    show _ = syncL (sk.settled (us.getD k 0) ((sk.cach (us.getD k 0)).getD [])) _
    rw [hc]
    rfl
  · have hj' := h3 j (by rw [e]; exact List.mem_cons_of_mem _ hj)
    refine ⟨hj'.1, hj'.2.1, ?_⟩
    have hne : j ≠ us.getD k 0 := by
      have hpw := hp.drop (i := k)
      rw [e] at hpw
      have := (List.pairwise_cons.1 hpw).1 j hj
      omega
    simp only [Ks.St.settled, if_neg hne]
    exact hj'.2.2
  · have := hF b hFb
    unfold From at hb
    omega

set_option maxRecDepth 100000 in
set_option maxHeartbeats 2000000 in
theorem sync_any (w : World) (p : Nat) (F : Nat → Prop) (s : St) (h : DiskAt Tryz.prog w p F s) (hops : s.ops < 1000000) (hcn : s.cn < 1000000) (hn : s.last.length ≤ 4096) :
    Calls Tryz.prog 52 #[.pointer (some ⟨p, 0, none⟩)] w (Tells p F s.sync.1 w s.sync.2) := by
  have H := Lib.hid h
  clear h
  cases hf : s.fails
  · have HF := Lib.hid hf
    have HR := Lib.hid (show s.sync = (syncL s.tick s.uns, 0) by simp [Ks.St.sync, hf])
    clear hf
    go_enter Tryz.func52, Tryz.ntmps52
    go_wp2_with fail
    refine (nextFails_any w p F s H.out hops).mono ?_
    rintro e w1 ⟨rfl, hd, hk⟩
    rw [HF.out]
    have HK := Lib.hid hk
    have HD := Lib.hid hd
    clear hk hd
    go_wp2_with fail
    refine (uns_any w1 p F s.tick HD.out hcn).mono ?_
    rintro e w2 ⟨v, rfl, hv, hk2⟩
    have hu : s.tick.uns = s.uns := rfl
    rw [hu] at hv
    obtain ⟨us, hus⟩ : ∃ us, s.uns = us := ⟨_, rfl⟩
    have HP := Lib.hid (show us.Pairwise (fun a b => a < b) by rw [← hus]; exact sorted_uns s)
    have HM := Lib.hid (show ∀ j ∈ us, 0 ≤ j ∧ j < s.last.length ∧ ∃ bs, s.tick.cach j = some bs by
      intro j hj
      rw [← hus, mem_uns] at hj
      exact ⟨hj.1, hj.2.1, Option.isSome_iff_exists.1 hj.2.2⟩)
    have hul : us.length ≤ 4096 := by
      rw [← hus]
      unfold Ks.St.uns
      rw [List.length_map]
      have := List.length_filter_le (fun i : Nat => (s.cach (i : Int)).isSome) (List.range s.last.length)
      simp at this
      omega
    rw [hus] at hv HR
    have HI := Lib.hid hv
    have HD2 := Lib.hid (HD.out.keeps hk2 (fun _ _ h => h))
    have HK2 := Lib.hid (HK.out.then hk2 (fun b hb => hb.elim))
    have HK12 := Lib.hid (show Keeps F w1 w2 from hk2.no)
    have HT := Lib.hid HD.out.there
    obtain ⟨A, c, rfl, hc, _⟩ := hv
    clear hk2 hu hus
    go_wp2_with fail
    go_loopw [10] (fun i wr => ∃ k : Nat, k ≤ us.length ∧ i = .int .i64 k ∧ SyncAt p F s.tick us (.slice A us.length c) w1 k wr) (fun i _ => us.length - (intOf i).toNat)
    case atStart =>
      refine ⟨0, Nat.zero_le _, rfl, s.tick, HD2.out, rfl, HM.out, rfl, rfl, HK12.out, HI.out⟩
    case round =>
      obtain ⟨k, hk, rfl, sk, h1, h2, h3, h4, h5, h6, h7⟩ := hrel
      by_cases hlt : k < us.length
      · obtain ⟨A', c', e, hc', hx⟩ := h7
        obtain ⟨b, rfl, hb, hcell⟩ := hx (by omega)
        simp only [Value.slice.injEq, true_and] at e
        obtain ⟨rfl, rfl⟩ := e
        have H7 := Lib.hid (show Ints wr (From w1.heap.size) (.slice (some ⟨b, 0, none⟩) us.length c) us from ⟨_, _, rfl, hc', fun _ => ⟨b, rfl, hb, hcell⟩⟩)
        have hu := h3 (us.getD k 0) (by rw [drop_cons hlt]; exact List.mem_cons_self)
        have hcl := hcell k hlt
        obtain ⟨u, hue⟩ : ∃ u, us.getD k 0 = u := ⟨_, rfl⟩
        rw [hue] at hcl hu
        obtain ⟨hu0, hu1, bs, hbs⟩ := hu
        have hu1 : u < (s.last.length : Int) := hu1
        obtain ⟨lastV, lv, cb, pm, D, hin⟩ := h1
        have c2 := hin.c2
        have hbl := (hin.keys u bs hbs).2.2
        obtain ⟨v, hv, _, hl2⟩ := look_some hin (i := u) (by omega) (by omega) hbs
        have HIN := Lib.hid hin
        have HV := Lib.hid hv
        have HBL := Lib.hid hbl
        have H2 := Lib.hid h2
        have H3 := Lib.hid h3
        have H4 := Lib.hid h4
        have H5 := Lib.hid h5
        have H6 := Lib.hid h6
        have HU := Lib.hid hue
        have HBS := Lib.hid hbs
        have hk0 : (0 : Int) ≤ (k : Int) := by omega
        have hk1 : (k : Int) < (us.length : Int) := by omega
        clear hcell hx h2 h3 h4 h5 h6 hin hv hbl hue hbs
        go_wp2_with fail
        refine (settle_any wr p F sk u v bs ⟨_, _, _, _, _, HIN.out⟩ HV.out HBL.out hu0 (by rw [H5.out]; exact hu1) (by rw [H5.out]; exact hn)).mono ?_
        rintro e w3 ⟨rfl, hd3, hk3⟩
        have R := Lib.hid (sync_step HP.out hlt HT.out H2.out H3.out H4.out H5.out H6.out H7.out (by rw [HU.out]; exact HBS.out) (by rw [HU.out]; exact hd3) hk3)
        clear hd3 hk3 c2 hcl hl2
        go_wp2_with fail
        go_roundw
        case rel => exact ⟨k + 1, by omega, by go_num, R.out⟩
        case measure => simp [intOf]; omega
      · obtain rfl : k = us.length := by omega
        have R := Lib.hid (show sk = syncL s.tick us by rw [← h2, List.drop_length]; rfl)
        have HK3 := Lib.hid (HK.out.then h6 (fun b hb => .inl hb))
        have HD3 := Lib.hid h1
        clear h2 h3 h4 h5 h6 h7 h1
        go_wp2_with fail
        go_ret
        rw [HR.out]
        rw [← R.out]
        exact ⟨rfl, DiskAt.grow HD3.out, HK3.out⟩
  · have HF := Lib.hid hf
    have HR := Lib.hid (show s.sync = (s.tick, 3) by simp [Ks.St.sync, hf])
    clear hf
    go_enter Tryz.func52, Tryz.ntmps52
    go_wp2_with fail
    refine (nextFails_any w p F s H.out hops).mono ?_
    rintro e w1 ⟨rfl, hd, hk⟩
    rw [HF.out]
    have HG := Lib.hid (show DiskAt Tryz.prog w1 p (Grow F w w1) s.tick from DiskAt.grow hd)
    have HK := Lib.hid hk
    clear hd hk
    go_wp2_with fail
    go_ret
    rw [HR.out]
    exact ⟨rfl, HG.out, HK.out⟩
end Go.Proofs.YthlemcnbebfliaaGreatDoor.Dsk
