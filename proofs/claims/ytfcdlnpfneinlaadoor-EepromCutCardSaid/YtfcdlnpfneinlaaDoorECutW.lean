/-
  THE WALK OF EepromCut.
-/
import Derived.Test.YtfcdlnpfneinlaaDoorECutV
import Derived.Test.YtfcdlnpfneinlaaDoorEAwake
import Derived.Test.YtfcdlnpfneinlaaDoorBSame
import Derived.Test.YtfcdlnpfneinlaaDoorEOpenL
import Derived.Test.YtfcdlnpfneinlaaDoorCApart
import Derived.Deep.RegionHeld3
import Derived.IntWalk
namespace Go.Proofs.YtfcdlnpfneinlaaDoor
open Go.RowKit
set_option maxRecDepth 20000

theorem runL_join {s : Chip} (l : List (Bool × Bool × Bool)) (h : s.join = false) : (runL s l).join = false := by
  induction l using snoc_rec with
  | h0 => exact h
  | h1 l x ih => rw [runL_snoc]; exact Chip.step_join _ _ _ _ ih
theorem vals_in {n : Nat} {l : List (Int × Int)} (h : ∀ x ∈ l, 0 ≤ x.2 ∧ x.2 ≤ 255) : ∀ v ∈ valsL n l, 0 ≤ v ∧ v ≤ 255 := by
  intro v hv
  obtain ⟨y, hy, rfl⟩ := List.mem_map.1 hv
  obtain ⟨c, hc⟩ := Option.isSome_iff_exists.1 ((mem_keysL _ _ _).1 hy).2.2
  rw [hc]
  exact h _ (getL_mem hc)
theorem busy_split {np : Nat} {lf : Int} (h : decide (0 < (np : Int)) = decide (0 < lf)) (_ : 0 ≤ lf) : (0 < np ∧ (0 : Int) < np ∧ 0 < lf ∧ decide (0 < lf) = true) ∨ (decide (0 < (np : Int)) = false ∧ ¬ 0 < np ∧ decide (0 < lf) = false ∧ lf ≤ 0) := by
  have h := decide_eq_decide.1 h
  by_cases e : 0 < np
  · have := h.1 (by omega)
    exact .inl ⟨e, by omega, this, decide_eq_true this⟩
  · exact .inr ⟨decide_eq_false (by omega), e, decide_eq_false (by omega), by omega⟩
theorem refPage_in (W : World) (p : Regrown) (k v : Int) (hT : Tab W) (hv : gcol k 1 = v) : Calls Tryd.prog 25 #[.int .i64 k] (In W p) fun e w'' => e = .returned (.int .i64 v) ∧ ∃ q : Regrown, w'' = In W q := by
  apply Calls.regrown_of
  exact (refPage_any k v _ _ (On.start (tab_below hT (in_below W p) (tab_pos hT))) hv).mono fun _ _ h => ⟨h.1, h.2.bel⟩
theorem mem_snoc (y : Int) (l : List Int) (u : Int) : decide (y ∈ l ++ [u]) = (decide (y ∈ l) || (u == y)) := by
  by_cases h : y ∈ l
  · simp [h]
  · by_cases e : u = y
    · simp [e]
    · simp [h, e, Ne.symm e]
theorem turn_kind (s : Chip) (n : Nat) : (s.turn n).kind = s.kind := rfl
theorem hear_kind (s : Chip) (e : Int) (line : Bool) : (s.hear e line).kind = s.kind := by unfold Chip.hear; split; rfl; split <;> rfl
theorem send_kind (s : Chip) (e : Int) : (s.send e).kind = s.kind := by
  unfold Chip.send
  split
  · split
    · rfl
    · split <;> rfl
  · rfl
theorem device_kind (s : Chip) (e : Int) (line : Bool) : (s.device e line).kind = s.kind := by
  unfold Chip.device
  split
  · split
    · split <;> rfl
    · rfl
  · exact hear_kind s e line
theorem addr_kind (s : Chip) (e : Int) (line : Bool) : (s.addr e line).kind = s.kind := by
  unfold Chip.addr
  split
  · split <;> rfl
  · exact hear_kind s e line
theorem dat_kind (s : Chip) (e : Int) (line wp : Bool) : (s.dat e line wp).kind = s.kind := by
  unfold Chip.dat
  split
  · rfl
  · split
    · rfl
    · exact hear_kind s e line
theorem run_kind (s : Chip) (e : Int) (line wp : Bool) : (s.run e line wp).kind = s.kind := by
  unfold Chip.run
  split
  · exact device_kind s e line
  · split
    · exact addr_kind s e line
    · split
      · exact dat_kind s e line wp
      · split
        · unfold Chip.acked
          split
          · split
            · exact addr_kind { s with pulls := false, nx := 2 } e line
            · split
              · exact dat_kind { s with pulls := false, nx := 3 } e line wp
              · exact send_kind { s with pulls := false, nx := 5 } e
          · rfl
        · split
          · exact send_kind s e
          · split
            · unfold Chip.await
              split
              · split <;> rfl
              · split
                · exact send_kind { s with nx := 5 } e
                · rfl
            · rfl
theorem event_kind (s : Chip) (e : Int) (line wp : Bool) : (s.event e line wp).kind = s.kind := by
  unfold Chip.event
  split
  · rfl
  · split
    · exact run_kind s e line wp
    · split
      · exact run_kind s e line wp
      · rfl
theorem step_kind (s : Chip) (scl sda wp : Bool) : (s.step scl sda wp).kind = s.kind := by
  unfold Chip.step
  exact (event_kind _ _ _ _).trans (write_kind s)
theorem runL_kind (s : Chip) (l : List (Bool × Bool × Bool)) : (runL s l).kind = s.kind := by
  induction l using snoc_rec with
  | h0 => rfl
  | h1 l x ih => rw [runL_snoc, step_kind, ih]
set_option maxRecDepth 100000 in
set_option maxHeartbeats 8000000 in
theorem eepromCut_walk (w : World) (a : Int) (wa : (Lit.int .u8 a).wf = true) (A1 : Option Addr) (n1 c1 : Nat) (z1 : List Int) (r1 : IsRow .u8 w A1 n1 c1 z1) (A2 : Option Addr) (n2 c2 : Nat) (l : List Smp) (r2 : Many samE w w.heap.size A2 n2 l ∧ n2 ≤ c2 ∧ n2 ≤ maxLen) (A4 : Option Addr) (n4 c4 : Nat) (z4 : List Int) (r4 : IsRow .u8 w A4 n4 c4 z4) (hT : Tab w) :
    Calls Tryd.prog 9 #[.int .u8 a, .slice A1 n1 c1, .slice A2 n2 c2, .slice A4 n4 c4] w fun e w' => e = .returned (.bool true) ∧ Below w.heap.size w w' := by
  have HM2 := Lib.hid r2.1
  have HLL := Lib.hid r2.1.1
  have hm2 := r2.2.2
  have HN4 := Lib.hid r4.nums
  have HC4 := Lib.hid (And.intro r4.len_le.1 r4.cap_le)
  have hm4 := r4.len_le.2
  unfold maxLen at hm2 hm4
  obtain ⟨pk, hpk⟩ : ∃ pk, z4.take n4 = pk := ⟨_, rfl⟩
  rw [hpk] at HN4
  clear hpk r2 r4
  have HT := Lib.hid hT
  have ha : 0 ≤ a ∧ a ≤ 255 := by simpa [Lit.wf, IntKind.min, IntKind.max, IntKind.signed, IntKind.bits] using wa
  have HN1 := Lib.hid r1.nums
  have hm1 := r1.len_le.2
  unfold maxLen at hm1
  obtain ⟨ha0, ha1⟩ := ha
  clear hT r1 wa
  obtain ⟨b, hl1⟩ : ∃ l, z1.take n1 = l := ⟨_, rfl⟩
  rw [hl1] at HN1
  clear hl1
  obtain ⟨k, hk⟩ : ∃ k, 1 + a % 7 = k := ⟨_, rfl⟩
  have hk1 : 1 ≤ k := by omega
  have hk5 : k ≤ 7 := by omega
  have HK := Lib.hid (show 1 ≤ k ∧ k ≤ 10 by omega)
  have hks := kind_size HK.out
  obtain ⟨z, hz⟩ : ∃ z : Nat, gcol k 0 = z := ⟨(gcol k 0).toNat, by omega⟩
  have HZ := Lib.hid hz
  have hz0 : 128 ≤ z := by omega
  have hz1 : z ≤ 65536 := by omega
  have hkr : 1 + a % 7 = k := hk
  clear hks hz
  obtain ⟨D, hD⟩ : ∃ D, fillL b z = D := ⟨_, rfl⟩
  have HD := Lib.hid hD
  have HDL := Lib.hid (show D.length = z by rw [← hD, fillL_len])
  have HDB := Lib.hid (show ∀ v ∈ D, 0 ≤ v ∧ v ≤ 255 by rw [← hD]; exact fillL_in z HN1.out.byte)
  obtain ⟨s0, hs0⟩ : ∃ s0, fresh k D = s0 := ⟨_, rfl⟩
  have HO0 := Lib.hid (show Chip.Ok 0 s0 by rw [← hs0]; exact fresh_ok k D HK.out (by rw [HDL.out, HZ.out]) HDB.out)
  have HJ0 := Lib.hid (show s0.join = false by rw [← hs0]; rfl)
  have HI0 := Lib.hid (show Id k D 0 s0 by rw [← hs0]; exact ⟨rfl, rfl, rfl, rfl, rfl, rfl, rfl, rfl, rfl, rfl, rfl⟩)
  have HS0 := Lib.hid hs0
  clear hD
  by_cases hb1 : n1 ≤ 40
  · have hb1' : decide (40 < (n1 : Int)) = false := decide_eq_false (by omega)
    by_cases hb2 : n2 ≤ 600
    · have hb2' : decide (600 < (n2 : Int)) = false := decide_eq_false (by omega)
      by_cases hb3 : n4 ≤ 200
      · have hb3' : decide (200 < (n4 : Int)) = false := decide_eq_false (by omega)
        have HO5 := Lib.hid (show Chip.Ok 600 (runL s0 l) from (runL_ok l HO0.out (by omega)).mono (by have := HLL.out; omega))
        have HJ5 := Lib.hid (runL_join l HJ0.out)
        have HP5 := Lib.hid (runL_pg l HO0.out (by omega) (Pg.none (s := s0) (by rw [HI0.out.wait]; intro x hx; cases hx) HI0.out.coll))
        have HK5 := Lib.hid (show (runL s0 l).kind = k by rw [runL_kind]; exact HI0.out.kind)
        have hks := kind_size HK.out
        obtain ⟨pg, hpg⟩ : ∃ y, gcol k 1 = y := ⟨_, rfl⟩
        rw [hpg] at hks
        obtain ⟨_, _, hpg0, hpg1, _, _, _, _⟩ := hks
        have HPG := Lib.hid hpg
        clear hpg
        obtain ⟨s5, hs5⟩ : ∃ s5, runL s0 l = s5 := ⟨_, rfl⟩
        rw [hs5] at HO5 HJ5 HP5 HK5
        have HS5 := Lib.hid hs5
        have HDL5 := Lib.hid (show s5.data.length = z by have := HO5.out.size; rw [HK5.out, HZ.out] at this; omega)
        have hfew := places_few HO5.out HP5.out
        rw [HK5.out, HPG.out] at hfew
        have HBUSY := Lib.hid (places_busy HO5.out)
        have HVL := Lib.hid (show s5.values.length = s5.places.length from valsL_len _ _)
        have HPI := Lib.hid (show ∀ x ∈ s5.places, 0 ≤ x ∧ x < (z : Int) from fun x hx => by have := (mem_keysL _ _ _).1 hx; rw [HDL5.out] at this; exact ⟨this.1, this.2.1⟩)
        have HVB := Lib.hid (show ∀ x ∈ s5.values, (Lit.int .u8 x).wf = true from fun x hx => byte_wf (vals_in (fun y hy => (HO5.out.wait y hy).2) x hx))
        have HPP := Lib.hid (show ∀ x ∈ s5.places, ∀ y ∈ s5.places, x / pg = y / pg from fun x hx y hy => by have := places_page HO5.out HP5.out hx hy; rw [HK5.out, HPG.out] at this; exact this)
        obtain ⟨P, hP⟩ : ∃ P, s5.places = P := ⟨_, rfl⟩
        have HPS := Lib.hid (show P.Pairwise (fun a b => a < b) by rw [← hP]; exact keysL_sorted _ _)
        have HAW := Lib.hid (fun v (hv : v ∈ apartL s5.data (cellsL s5.data s5.places pk)) => apart_waits HO5.out pk hv)
        rw [hP] at HBUSY HVL HPI HPP HAW hfew
        have HPE := Lib.hid hP
        obtain ⟨np, hnp⟩ : ∃ np, P.length = np := ⟨_, rfl⟩
        rw [hnp] at HBUSY HVL hfew
        have HNP := Lib.hid hnp
        obtain ⟨lf, hlf⟩ : ∃ lf, s5.left = lf := ⟨_, rfl⟩
        rw [hlf] at HBUSY
        have HLF := Lib.hid hlf
        have hbusy := HBUSY.out
        have hlf0 : 0 ≤ lf := by rw [← hlf]; exact HO5.out.left.1
        have hfew' : decide (pg < (np : Int)) = false := decide_eq_false (by omega)
        clear hs5 hP hnp hlf
        go_enter Tryd.func9, Tryd.ntmps9
        go_wp2_with fail
        refine (awake_any w HT.out).mono ?_
        rintro e w1 ⟨rfl, hb⟩
        have HB1 := Lib.hid hb
        have HT1 := Lib.hid (tab_below HT.out hb (tab_pos HT.out))
        clear hb
        go_wp2_with fail
        refine (refEeprom_any k z w1 w1 (On.start HT1.out) HZ.out).mono ?_
        rintro e w2 ⟨rfl, hb⟩
        have HB2 := Lib.hid (HB1.out.trans (hb.bel.mono HB1.out.size))
        have HT2 := Lib.hid hb.tab
        clear hb
        go_wp2_with fail
        refine (fill_any A1 n1 c1 w.heap.size z b w2 (HN1.out.below HB2.out) HB2.out.size (by omega) (by omega)).mono ?_
        rintro e w3 ⟨v, rfl, hv, hb⟩
        rw [HD.out] at hv
        obtain ⟨A3, c3, rfl, _, hn3⟩ := hv.nums fun x hx => byte_wf (HDB.out x hx)
        rw [HDL.out] at hn3 ⊢
        have HN3 := Lib.hid hn3
        have HB3 := Lib.hid (HB2.out.trans (hb.mono HB2.out.size))
        have HT3 := Lib.hid (tab_below HT2.out hb (tab_pos HT2.out))
        clear hv hb hn3
        go_wp2_with fail
        refine (newChip_ok k A3 z c3 w3.heap.size D w3 HT3.out HN3.out (Nat.le_refl _) HK.out HZ.out.symm).mono ?_
        rintro e w4 ⟨p, rfl, hc, hb⟩
        rw [HS0.out] at hc
        have HB4 := Lib.hid hb
        have HT4 := Lib.hid hc.tab
        have Z0 := Lib.hid (show Went p (NewF w3 w4) s0 w4 w4 from hc.went)
        have HF3 := Lib.hid (show ∀ b, NewF w3 w4 b → w3.heap.size ≤ b from fun b hb => hb.1)
        clear hc hb
        go_wp2_with fail
        go_loopw [13] (fun i wr => ∃ t : Nat, t ≤ n2 ∧ i = .int .i64 t ∧ Went p (NewF w3 w4) (runL s0 (l.take t)) w4 wr) (fun i _ => n2 - (intOf i).toNat)
        case atStart => exact ⟨0, Nat.zero_le _, rfl, Z0.out⟩
        case round =>
          obtain ⟨t, ht, rfl, hz⟩ := hrel
          have Z := Lib.hid hz
          clear hz
          by_cases hlt : t < n2
          · have HOI := Lib.hid (show Chip.Ok 600 (runL s0 (l.take t)) from (runL_ok (l.take t) HO0.out (by omega)).mono (by rw [List.length_take]; omega))
            have HJI := Lib.hid (runL_join (l.take t) HJ0.out)
            obtain ⟨x, hx⟩ : ∃ x, l[t]? = some x := ⟨l[t]'(by have := HLL.out; omega), by simp [show t < l.length by have := HLL.out; omega]⟩
            have HRN := Lib.hid (show runL s0 (l.take (t + 1)) = (runL s0 (l.take t)).step x.1 x.2.1 x.2.2 by rw [List.take_add_one, hx]; exact runL_snoc _ _ _)
            obtain ⟨bb, oo, rfl, hbb, hcs⟩ := HM2.out.2 (by omega)
            obtain ⟨x0, x1, x2⟩ := x
            have e0 : w.cell? ⟨bb, oo + t * 3, none⟩ = some (.bool x0) := hcs t _ hx 0 (.bool x0) rfl
            have e1 : w.cell? ⟨bb, oo + t * 3 + 1, none⟩ = some (.bool x1) := hcs t _ hx 1 (.bool x1) rfl
            have e2 : w.cell? ⟨bb, oo + t * 3 + 2, none⟩ = some (.bool x2) := hcs t _ hx 2 (.bool x2) rfl
            have E := Lib.hid (And.intro e0 (And.intro e1 e2))
            have HBB := Lib.hid hbb
            have HBW := Lib.hid (HB3.out.trans ((HB4.out.trans (Z.out.far (N := w3.heap.size) HF3.out HB4.out.size)).mono HB3.out.size))
            have d0 := (HBW.out.cell (p := ⟨bb, oo + t * 3, none⟩) hbb).trans e0
            have d1 := (HBW.out.cell (p := ⟨bb, oo + t * 3 + 1, none⟩) hbb).trans e1
            have d2 := (HBW.out.cell (p := ⟨bb, oo + t * 3 + 2, none⟩) hbb).trans e2
            have ht1 : (t : Int) < (n2 : Int) := by omega
            have ht0 : (0 : Int) ≤ (t : Int) := by omega
            have ZD := Lib.hid (Z.out.calm (below_drew wr) HT4.out)
            clear hcs hx e0 e1 e2 hbb
            go_wp2_with fail
            go_region_held3 (fun w' => w'.cell? ⟨bb, oo + t * 3, none⟩ = some (.bool x0) ∧ w'.cell? ⟨bb, oo + t * 3 + 1, none⟩ = some (.bool x1) ∧ w'.cell? ⟨bb, oo + t * 3 + 2, none⟩ = some (.bool x2)) (first | (with_reducible exact Z7.out) | go_keep) (first
              | (go_at_call 15; refine (chipStep_any _ p _ _ 600 x0 x1 x2 ZD.out.1 HOI.out HJI.out (by omega)).mono ?_; rintro e' w7 ⟨rfl, hz⟩
                 have Z8 := Lib.hid (ZD.out.then_ hz HT4.out)
                 have HB7 := Lib.hid (HB3.out.trans ((HB4.out.trans (Z8.out.far (N := w3.heap.size) HF3.out HB4.out.size)).mono HB3.out.size))
                 have Z7 := Lib.hid (show w7.cell? ⟨bb, oo + t * 3, none⟩ = some (.bool x0) ∧ w7.cell? ⟨bb, oo + t * 3 + 1, none⟩ = some (.bool x1) ∧ w7.cell? ⟨bb, oo + t * 3 + 2, none⟩ = some (.bool x2) from ⟨(HB7.out.cell (p := ⟨bb, oo + t * 3, none⟩) HBB.out).trans E.out.1, (HB7.out.cell (p := ⟨bb, oo + t * 3 + 1, none⟩) HBB.out).trans E.out.2.1, (HB7.out.cell (p := ⟨bb, oo + t * 3 + 2, none⟩) HBB.out).trans E.out.2.2⟩)
                 clear hz))
            clear d0 d1 d2
            go_wp2_with fail
            go_roundw
            case rel => exact ⟨t + 1, by omega, by go_num, by rw [HRN.out]; exact Z8.out⟩
            case measure => simp [intOf]; omega
          · obtain rfl : t = n2 := by omega
            have HTT := Lib.hid (show l.take t = l by rw [← HLL.out]; exact List.take_of_length_le (Nat.le_refl _))
            rw [HTT.out, HS5.out] at Z
            have Z5 := Lib.hid Z.out
            clear Z
            go_wp2_with fail
            refine (waits_any wr p _ s5 600 Z5.out.1 HO5.out (by omega)).mono ?_
            rintro e w6 ⟨u6, v6, rfl, hu, hv, hb⟩
            rw [HPE.out] at hu
            obtain ⟨A6, c6, rfl, _, hn6⟩ := hu.nums fun x hx => int_wf.2 (by have := HPI.out x hx; omega)
            obtain ⟨A7, c7, rfl, _, hn7⟩ := hv.nums HVB.out
            rw [HVL.out] at hn7 ⊢
            rw [HNP.out] at hn6 ⊢
            have HN6 := Lib.hid hn6
            have Z6 := Lib.hid (Z5.out.calm hb HT4.out)
            clear hb hu hv hn6 hn7
            go_wp2_with fail
            refine (refPage_any k pg w6 w6 (On.start Z6.out.1.tab) HPG.out).mono ?_
            rintro e w7 ⟨rfl, hb⟩
            have Z7 := Lib.hid (Z6.out.calm hb.bel HT4.out)
            have HN7 := Lib.hid ((HN6.out.below hb.bel).mono hb.bel.size)
            clear hb
            go_wp2_with fail
            refine (left_any w7 p _ s5 Z7.out.1).mono ?_
            rintro e w7' ⟨rfl, rfl⟩
            rw [HLF.out]
            rcases busy_split hbusy hlf0 with ⟨hq1, hq2, hq3, hq4⟩ | ⟨hq1, hq2, hq3, hq4⟩
            all_goals
              go_wp2_with fail
              refine (bytes_any w7 p _ s5 600 Z7.out.1 HO5.out).mono ?_
              rintro e w8 ⟨vb, rfl, hv, hb⟩
              obtain ⟨A8, c8, rfl, _, hn8⟩ := hv.nums fun x hx => byte_wf (HO5.out.byte x hx)
              rw [HDL5.out] at hn8 ⊢
              have HN8 := Lib.hid hn8
              have Z8 := Lib.hid (Z7.out.calm hb HT4.out)
              have HP8 := Lib.hid ((HN7.out.below hb).mono hb.size)
              clear hv hb hn8
              go_wp2_with fail
              refine (cut_any w8 p _ s5 600 A4 n4 c4 w.heap.size pk Z8.out.1 HO5.out (by omega) (HN4.out.below (HB3.out.trans ((HB4.out.trans (Z8.out.far (N := w3.heap.size) HF3.out HB4.out.size)).mono HB3.out.size))) (Nat.le_trans HB3.out.size (Nat.le_trans HB4.out.size Z8.out.2.size)) HC4.out.1 HC4.out.2).mono ?_
              rintro e w9 ⟨A9, c9, rfl, _, hm, hb⟩
              rw [HPE.out] at hm
              have HN9 := Lib.hid (hm.nums fun x hx => byte_wf (cellsL_in HO5.out.byte HN4.out.byte x hx))
              have Z9 := Lib.hid (Z8.out.calm hb HT4.out)
              have HP9 := Lib.hid ((HP8.out.below hb).mono hb.size)
              have HW9 := Lib.hid ((HN8.out.below hb).mono hb.size)
              rw [HDL5.out] at HN9 ⊢
              clear hb hm
              go_wp2_with fail
              refine (apart_any A8 A9 z c8 z c9 w9.heap.size s5.data (cellsL s5.data P pk) w9 HW9.out HN9.out (Nat.le_refl _) (by omega) (by omega)).mono ?_
              rintro e w10 ⟨va, rfl, hv, hb⟩
              obtain ⟨A10, c10, rfl, _, hn10⟩ := hv.nums fun x hx => int_wf.2 (by have := HPI.out x (HAW.out x hx); omega)
              obtain ⟨ap, hap⟩ : ∃ ap, apartL s5.data (cellsL s5.data P pk) = ap := ⟨_, rfl⟩
              have HAP := Lib.hid (show ∀ v ∈ ap, v ∈ P from fun v hv => by rw [← hap] at hv; exact HAW.out v hv)
              rw [hap] at hn10 ⊢
              obtain ⟨na, hna⟩ : ∃ na, ap.length = na := ⟨_, rfl⟩
              rw [hna] at hn10 ⊢
              have HNA := Lib.hid hna
              have hnaz : na ≤ z := by have := apartTo_len s5.data (cellsL s5.data P pk) (max s5.data.length (cellsL s5.data P pk).length); rw [cellsL_len, Nat.max_self, HDL5.out] at this; rw [← hna, ← hap]; unfold apartL; rw [cellsL_len, Nat.max_self, HDL5.out]; exact this
              have HN10 := Lib.hid hn10
              have Z10 := Lib.hid (Z9.out.calm hb HT4.out)
              have HP10 := Lib.hid ((HP9.out.below hb).mono hb.size)
              have HW10 := Lib.hid ((HW9.out.below hb).mono hb.size)
              have HC10 := Lib.hid ((HN9.out.below hb).mono hb.size)
              clear hv hb hn10 hap hna
              go_wp2_with fail
              go_loopw [19, 20, 21] (fun i _ _ wr => ∃ t : Nat, t ≤ na ∧ i = .int .i64 t ∧ Below w10.heap.size w10 wr) (fun i _ _ _ => na - (intOf i).toNat)
              case atStart => exact ⟨0, Nat.zero_le _, rfl, Below.refl _ _⟩
              case round =>
                obtain ⟨ta, hta, rfl, hbr⟩ := hrel
                have HBR := Lib.hid hbr
                clear hbr
                by_cases hlta : ta < na
                · obtain ⟨y, hy⟩ : ∃ y, ap.getD ta 0 = y := ⟨_, rfl⟩
                  have HYM := Lib.hid (show y ∈ P from HAP.out y (by rw [← hy]; simp [List.getD, show ta < ap.length by rw [HNA.out]; exact hlta]))
                  obtain ⟨ab, ao, rfl, hab, hac⟩ := HN10.out.2.2 (by omega)
                  have HAB := Lib.hid hab
                  have HAC := Lib.hid (show w10.cell? ⟨ab, ao + ta, none⟩ = some (.int .i64 y) by rw [← hy]; exact hac ta hlta)
                  have hta1 : (ta : Int) < (na : Int) := by omega
                  have hta0 : (0 : Int) ≤ (ta : Int) := by omega
                  clear hab hac hy
                  go_wp2_with fail
                  go_loopw [20, 21] (fun th i wr => ∃ r : Nat, r ≤ np ∧ i = .int .i64 r ∧ th = .bool (decide (y ∈ P.take r)) ∧ Below w10.heap.size w10 wr) (fun _ i _ => np - (intOf i).toNat)
                  case atStart => exact ⟨0, Nat.zero_le _, rfl, by simp, HBR.out⟩
                  case round =>
                    obtain ⟨r, hr, rfl, rfl, hbr⟩ := hrel
                    have HBI := Lib.hid hbr
                    clear hbr
                    by_cases hltr : r < np
                    · obtain ⟨pb, po, rfl, hpb, hpc⟩ := HP10.out.2.2 (by omega)
                      obtain ⟨u, hu⟩ : ∃ u, P.getD r 0 = u := ⟨_, rfl⟩
                      have d0 := (HBI.out.cell (p := ⟨pb, po + r, none⟩) hpb).trans (hpc r hltr)
                      rw [hu] at d0
                      have d1 := (HBI.out.cell (p := ⟨ab, ao + ta, none⟩) HAB.out).trans HAC.out
                      have hr1 : (r : Int) < (np : Int) := by omega
                      have hr0 : (0 : Int) ≤ (r : Int) := by omega
                      have HTN := Lib.hid (show decide (y ∈ P.take (r + 1)) = (decide (y ∈ P.take r) || (u == y)) by rw [take_next P r (by rw [HNP.out]; exact hltr), hu]; exact mem_snoc y _ u)
                      clear hpb hpc hu
                      cases hth : decide (y ∈ P.take r)
                      all_goals
                        rw [hth] at HTN
                        have HTN' := HTN.out
                        go_wp2_with fail
                        go_quiet (fail)
                        go_wp2_with fail
                        go_roundw
                        case rel => exact ⟨r + 1, by omega, by go_num, by rw [HTN.out]; simp, below_drewN HBI.out _⟩
                        case measure => simp [intOf]; omega
                    · obtain rfl : r = np := by omega
                      have hin : decide (y ∈ P.take r) = true := by
                        rw [← HNP.out, List.take_length]; simpa using HYM.out
                      rw [hin]
                      go_wp2_with fail
                      go_roundw
                      case rel => exact ⟨ta + 1, by omega, by go_num, HBI.out⟩
                      case measure => simp [intOf]; omega
                · obtain rfl : ta = na := by omega
                  go_wp2_with fail
                  clear hq1 hq2 hq3 hq4
                  have hnpz : np ≤ z := by omega
                  go_loopw [22] (fun i wr => ∃ r : Nat, r ≤ np ∧ i = .int .i64 r ∧ Below w10.heap.size w10 wr) (fun i _ => np - (intOf i).toNat)
                  case atStart => exact ⟨0, Nat.zero_le _, rfl, HBR.out⟩
                  case round =>
                    obtain ⟨r, hr, rfl, hbl⟩ := hrel
                    have HBL := Lib.hid hbl
                    have HTR := Lib.hid (show Tab wr from (Z10.out.calm hbl HT4.out).1.tab)
                    clear hbl
                    by_cases hltr : r < np
                    · obtain ⟨pb, po, rfl, hpb, hpc⟩ := HP10.out.2.2 (by omega)
                      obtain ⟨u, hu⟩ : ∃ u : Nat, P.getD r 0 = u := by
                        have := HPI.out (P.getD r 0) (by simp [List.getD, show r < P.length by rw [HNP.out]; exact hltr])
                        exact ⟨(P.getD r 0).toNat, by omega⟩
                      obtain ⟨u0, hu0⟩ : ∃ u : Nat, P.getD 0 0 = u := by
                        have := HPI.out (P.getD 0 0) (by simp [List.getD, show 0 < P.length by rw [HNP.out]; omega])
                        exact ⟨(P.getD 0 0).toNat, by omega⟩
                      have hmu : (u : Int) ∈ P := by rw [← hu]; simp [List.getD, show r < P.length by rw [HNP.out]; exact hltr]
                      have hmu0 : (u0 : Int) ∈ P := by rw [← hu0]; simp [List.getD, show 0 < P.length by rw [HNP.out]; omega]
                      have huz := (HPI.out _ hmu).2
                      have huq := HPP.out _ hmu _ hmu0
                      have hv1 := (HBL.out.cell (p := ⟨pb, po + r, none⟩) hpb).trans (hpc r hltr)
                      have hv2 : wr.cell? ⟨pb, po, none⟩ = some (.int .i64 (P.getD 0 0)) := (HBL.out.cell (p := ⟨pb, po, none⟩) hpb).trans (hpc 0 (by omega))
                      rw [hu] at hv1
                      rw [hu0] at hv2
                      obtain ⟨nb, no, rfl, hnb, hnc⟩ := HC10.out.2.2 (by omega)
                      have hv3 := (HBL.out.cell (p := ⟨nb, no + u, none⟩) hnb).trans (hnc u (by omega))
                      have hpn : pg ≠ 0 := by omega
                      obtain ⟨qq, hqq⟩ : ∃ qq, (u0 : Int) / pg = qq := ⟨_, rfl⟩
                      rw [hqq] at huq
                      have hqb : 0 ≤ qq ∧ qq ≤ 65536 := by rw [← huq]; exact ⟨Int.ediv_nonneg (by omega) (by omega), Int.le_trans (Int.ediv_le_self _ (by omega)) (by omega)⟩
                      have e1 : (u : Int).tdiv pg = qq := by rw [Int.tdiv_eq_ediv_of_nonneg (by omega), huq]
                      have e2 : (u0 : Int).tdiv pg = qq := by rw [Int.tdiv_eq_ediv_of_nonneg (by omega), hqq]
                      have r1 := fun d os => cell_regrown hv1 d os
                      have r2 := fun d os => cell_regrown hv2 d os
                      have r3 := fun d os => cell_regrown hv3 d os
                      have hr0 : (0 : Int) ≤ (r : Int) := by omega
                      have hr1 : (r : Int) < (np : Int) := by omega
                      have hr2 : (0 : Int) < (np : Int) := by omega
                      have hr3 : 0 < np := by omega
                      have hu1 : (0 : Int) ≤ (u : Int) := by omega
                      have hd1 : decide ((u : Int) < 0) = false := decide_eq_false (by omega)
                      have hd2 : decide ((z : Int) ≤ (u : Int)) = false := decide_eq_false (by omega)
                      have hd3 : decide (z ≤ u) = false := decide_eq_false (by omega)
                      have HPK := Lib.hid (fun (h : r < n4) => cells_pick s5.data P pk HPS.out (fun x hx => by rw [HDL5.out]; exact HPI.out x hx) r (by rw [HNP.out]; exact hltr) (by rw [HN4.out.1]; exact h))
                      rw [hu] at HPK
                      by_cases h4 : r < n4
                      · have hk := HPK.out h4
                        rw [show ((u : Int)).toNat = u from rfl] at hk
                        obtain ⟨kb, ko, rfl, hkb, hkc⟩ := HN4.out.2.2 (by omega)
                        have hv4 := ((HB3.out.trans ((HB4.out.trans (Z10.out.far (N := w3.heap.size) HF3.out HB4.out.size)).mono HB3.out.size)).cell (p := ⟨kb, ko + r, none⟩) hkb).trans (hkc r h4)
                        have hv5 := (HBL.out.cell (p := ⟨kb, ko + r, none⟩) (Nat.lt_of_lt_of_le hkb (Nat.le_trans HB3.out.size (Nat.le_trans HB4.out.size Z10.out.2.size)))).trans hv4
                        rw [← hk] at hv5
                        generalize (cellsL s5.data P pk).getD u 0 = nv at *
                        have r4 := fun d os => cell_regrown hv5 d os
                        have h41 : (r : Int) < (n4 : Int) := by omega
                        have h42 : decide ((r : Int) < (n4 : Int)) = true := decide_eq_true (by omega)
                        have h43 : decide (r < n4) = true := decide_eq_true (by omega)
                        clear hpb hpc hnb hnc hmu hmu0 hkb hkc hk hv1 hv2 hv3 hv4 hv5 huq hqq hu hu0
                        go_wp2_with fail
                        refine wp_region_quiet_below (by kernel_rfl) (by kernel_rfl) ?_
                        iterate 27 go_big_quiet_step (fail)
                        go_big_quiet_step ((refine refPage_in wr _ k pg HTR.out HPG.out))
                        iterate 5 go_big_quiet_step (fail)
                        go_big_quiet_step ((refine refPage_in wr _ k pg HTR.out HPG.out))
                        repeat (go_big_quiet_step (fail))
                        refine wpQuiet_nil ?_
                        rintro w' ⟨q, rfl⟩
                        have HB2 := Lib.hid (HBL.out.trans ((in_below wr q).mono HBL.out.size))
                        obtain ⟨W2, hW2⟩ : ∃ W2, In wr q = W2 := ⟨_, rfl⟩
                        rw [hW2] at HB2
                        have hW2' : Go.Sort.grow (redrawn wr q.d) q.os = W2 := hW2
                        rw [hW2']
                        clear hW2 hW2'
                        go_wp2_with fail
                        go_roundw
                        case rel => exact ⟨r + 1, by omega, by go_num, HB2.out⟩
                        case measure => simp [intOf]; omega
                      · have h41 : decide ((r : Int) < (n4 : Int)) = false := decide_eq_false (by omega)
                        have h42 : ¬ (r : Int) < (n4 : Int) := by omega
                        have h43 : decide (r < n4) = false := decide_eq_false (by omega)
                        clear hpb hpc hnb hnc hmu hmu0 hv1 hv2 hv3 huq hqq hu hu0 r3
                        go_wp2_with fail
                        refine wp_region_quiet_below (by kernel_rfl) (by kernel_rfl) ?_
                        iterate 27 go_big_quiet_step (fail)
                        go_big_quiet_step ((refine refPage_in wr _ k pg HTR.out HPG.out))
                        iterate 5 go_big_quiet_step (fail)
                        go_big_quiet_step ((refine refPage_in wr _ k pg HTR.out HPG.out))
                        repeat (go_big_quiet_step (fail))
                        refine wpQuiet_nil ?_
                        rintro w' ⟨q, rfl⟩
                        have HB2 := Lib.hid (HBL.out.trans ((in_below wr q).mono HBL.out.size))
                        obtain ⟨W2, hW2⟩ : ∃ W2, In wr q = W2 := ⟨_, rfl⟩
                        rw [hW2] at HB2
                        have hW2' : Go.Sort.grow (redrawn wr q.d) q.os = W2 := hW2
                        rw [hW2']
                        clear hW2 hW2'
                        go_wp2_with fail
                        go_roundw
                        case rel => exact ⟨r + 1, by omega, by go_num, HB2.out⟩
                        case measure => simp [intOf]; omega
                    · obtain rfl : r = np := by omega
                      go_wp2_with fail
                      have Z11 := Lib.hid (Z10.out.calm HBL.out HT4.out)
                      refine (bytes_any wr p _ s5 600 Z11.out.1 HO5.out).mono ?_
                      rintro e w12 ⟨vb, rfl, hv, hb⟩
                      obtain ⟨A12, c12, rfl, _, hn12⟩ := hv.nums fun x hx => byte_wf (HO5.out.byte x hx)
                      rw [HDL5.out] at hn12 ⊢
                      have HN12 := Lib.hid hn12
                      have Z12 := Lib.hid (Z11.out.calm hb HT4.out)
                      have HW12 := Lib.hid (((HW10.out.below HBL.out).below (hb.mono HBL.out.size)).mono (Nat.le_trans HBL.out.size hb.size))
                      clear hv hb hn12
                      go_wp2_with fail
                      refine (same_refl A12 A8 z c12 c8 w12.heap.size s5.data w12 (by unfold maxLen; omega) HN12.out HW12.out (Nat.le_refl _)).mono ?_
                      rintro e w13 ⟨rfl, hb⟩
                      have Z13 := Lib.hid (Z12.out.calm hb HT4.out)
                      clear hb
                      go_wp2_with fail
                      go_ret
                      exact ⟨rfl, HB3.out.trans ((HB4.out.trans (Z13.out.far (N := w3.heap.size) HF3.out HB4.out.size)).mono HB3.out.size)⟩
      · have hb3' : decide (200 < (n4 : Int)) = true := decide_eq_true (by omega)
        go_enter Tryd.func9, Tryd.ntmps9
        go_wp2_with fail
        refine (awake_any w HT.out).mono ?_
        rintro e w1 ⟨rfl, hb⟩
        have HB1 := Lib.hid hb
        clear hb
        go_wp2_with fail
        go_ret
        exact ⟨rfl, HB1.out⟩
    · have hb2' : decide (600 < (n2 : Int)) = true := decide_eq_true (by omega)
      go_enter Tryd.func9, Tryd.ntmps9
      go_wp2_with fail
      refine (awake_any w HT.out).mono ?_
      rintro e w1 ⟨rfl, hb⟩
      have HB1 := Lib.hid hb
      clear hb
      go_wp2_with fail
      go_ret
      exact ⟨rfl, HB1.out⟩
  · have hb1' : decide (40 < (n1 : Int)) = true := decide_eq_true (by omega)
    go_enter Tryd.func9, Tryd.ntmps9
    go_wp2_with fail
    refine (awake_any w HT.out).mono ?_
    rintro e w1 ⟨rfl, hb⟩
    have HB1 := Lib.hid hb
    clear hb
    go_wp2_with fail
    go_ret
    exact ⟨rfl, HB1.out⟩
end Go.Proofs.YtfcdlnpfneinlaaDoor
