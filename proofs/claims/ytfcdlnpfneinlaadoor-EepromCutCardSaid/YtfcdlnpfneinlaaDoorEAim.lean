/-
  THE WALKS OF keepsakelaw10.waits, aim, get.
-/
import Derived.Test.YtfcdlnpfneinlaaDoorELaw
namespace Go.Proofs.YtfcdlnpfneinlaaDoor
open Go.RowKit
set_option maxRecDepth 20000

/-- cycles with both lines high -/
def Chip.idles (s : Chip) : Nat → Chip
  | 0 => s
  | k + 1 => (s.idles k).step true true false
theorem idles_ok {s : Chip} {n : Int} (k : Nat) (h : s.Ok n) (hn : 0 ≤ n) : (s.idles k).Ok (n + k) := by
  induction k with
  | zero => simpa [Chip.idles] using h
  | succ k ih =>
    have := ih.step (by omega) true true false
    rw [show n + ((k + 1 : Nat) : Int) = n + k + 1 by omega]
    exact this
theorem idles_join {s : Chip} (k : Nat) (h : s.join = false) : (s.idles k).join = false := by
  induction k with
  | zero => exact h
  | succ k ih => exact Chip.step_join _ _ _ _ ih
set_option maxRecDepth 100000 in
set_option maxHeartbeats 4000000 in
theorem idles_any (w : World) (p : Nat) (F : Nat → Prop) (s : Chip) (n : Int) (m : Nat) (h : ChipAt w p F s) (hok : s.Ok n) (hj : s.join = false) (hn0 : 0 ≤ n) (hn : n + m ≤ 1000000) :
    Calls Tryd.prog 29 #[.pointer (some ⟨p, 0, none⟩), .int .i64 m] w (Did p F (s.idles m) w) := by
  have HT := Lib.hid h.tab
  have HW := Lib.hid h.went
  have HO := Lib.hid hok
  have HJ := Lib.hid hj
  have HN := Lib.hid hn
  have hmm : m ≤ 1000000 := by omega
  clear h hok hj hn
  go_enter Tryd.func29, Tryd.ntmps29
  go_wp2_with fail
  go_loopw [4] (fun i wr => ∃ k : Nat, k ≤ m ∧ i = .int .i64 k ∧ Went p F (s.idles k) w wr) (fun i _ => m - (intOf i).toNat)
  case atStart => exact ⟨0, Nat.zero_le _, rfl, HW.out⟩
  case round =>
    obtain ⟨k, hk, rfl, hz⟩ := hrel
    have Z := Lib.hid hz
    clear hz
    by_cases hlt : k < m
    · have HO1 := Lib.hid ((idles_ok k HO.out hn0).mono (m := 1000000) (by have := HN.out; omega))
      have HJ1 := Lib.hid (idles_join k HJ.out)
      have hk1 : (k : Int) < (m : Int) := by omega
      go_wp2_with fail
      refine (chipStep_any wr p _ _ 1000000 true true false Z.out.1 HO1.out HJ1.out (Int.le_refl _)).mono ?_
      rintro e w3 ⟨rfl, hz⟩
      have Z2 := Lib.hid (Z.out.then_ hz HT.out)
      clear hz
      go_wp2_with fail
      go_roundw
      case rel => exact ⟨k + 1, by omega, by go_num, Z2.out⟩
      case measure => simp [intOf]; omega
    · obtain rfl : k = m := by omega
      go_wp2_with fail
      go_end0
      exact ⟨rfl, Z.out⟩

theorem acks_01 (s : Chip) (b : Int) : 0 ≤ s.acks b ∧ s.acks b ≤ 1 := by unfold Chip.acks; split <;> omega
theorem put_ok {s : Chip} {n : Int} (b : Int) (h : s.Ok n) (hn : 0 ≤ n) : (s.put b).Ok (n + 27) := by
  have := steps_ok false (putLv b true) h hn
  rw [putLv_len] at this
  exact this
theorem put_join {s : Chip} (b : Int) (h : s.join = false) : (s.put b).join = false := steps_join _ _ h
/-- the device's byte of a write there -/
def aimB (k z : Int) : Int := 160 + 2 * (if 0 < gcol k 3 then z / 256 else 0)
def Chip.aim1 (s : Chip) (k z : Int) : Chip := (s.steps false beginL).put (aimB k z)
def Chip.aim (s : Chip) (k z : Int) : Chip := (if gcol k 2 = 2 then (s.aim1 k z).put (z / 256) else s.aim1 k z).put (z % 256)
def Chip.aimN (s : Chip) (k z : Int) : Int := (s.steps false beginL).acks (aimB k z) + (if gcol k 2 = 2 then (s.aim1 k z).acks (z / 256) else 0) + (if gcol k 2 = 2 then (s.aim1 k z).put (z / 256) else s.aim1 k z).acks (z % 256)
theorem kind_two {k : Int} (h : 1 ≤ k ∧ k ≤ 10) (z : Int) (h1 : z < gcol k 0) : 0 < gcol k 3 → z / 256 ≤ 7 ∧ gcol k 2 ≠ 2 := by
  have h := kinds h
  simp only [List.mem_cons, Prod.mk.injEq, List.not_mem_nil, or_false] at h
  omega
set_option maxRecDepth 100000 in
set_option maxHeartbeats 4000000 in
theorem aim_any (w : World) (p : Nat) (F : Nat → Prop) (s : Chip) (n k z : Int) (h : ChipAt w p F s) (hok : s.Ok n) (hj : s.join = false) (hn0 : 0 ≤ n) (hn : n + 85 ≤ 1000000) (hk : 1 ≤ k ∧ k ≤ 10) (hz0 : 0 ≤ z) (hz1 : z < gcol k 0) :
    Calls Tryd.prog 24 #[.pointer (some ⟨p, 0, none⟩), .int .i64 k, .int .i64 z] w fun e w' => e = .returned (.int .i64 (s.aimN k z)) ∧ Went p F (s.aim k z) w w' := by
  have HT := Lib.hid h.tab
  have HH := Lib.hid h
  have HO := Lib.hid hok
  have HJ := Lib.hid hj
  have hks := kind_size hk
  have hz2 : z ≤ 65535 := by omega
  have hz3 := kind_two hk z hz1
  obtain ⟨s1, hs1⟩ : ∃ s1, s.steps false beginL = s1 := ⟨_, rfl⟩
  have HO1 := Lib.hid (show s1.Ok (n + 4) by rw [← hs1]; exact steps_ok false beginL hok hn0)
  have HJ1 := Lib.hid (show s1.join = false by rw [← hs1]; exact steps_join false beginL hj)
  have HS1 := Lib.hid hs1
  obtain ⟨y, hy⟩ : ∃ y, gcol k 3 = y := ⟨_, rfl⟩
  obtain ⟨v, hv⟩ : ∃ v, gcol k 2 = v := ⟨_, rfl⟩
  have HY := Lib.hid hy
  have HV := Lib.hid hv
  rw [hy, hv] at hz3
  obtain ⟨b, hb⟩ : ∃ b, aimB k z = b := ⟨_, rfl⟩
  have hbv : b = 160 + 2 * (if 0 < y then z / 256 else 0) := by rw [← hb]; unfold aimB; rw [hy]
  have HN := Lib.hid (show s.aimN k z = s1.acks b + (if v = 2 then (s1.put b).acks (z / 256) else 0) + (if v = 2 then (s1.put b).put (z / 256) else s1.put b).acks (z % 256) by unfold Chip.aimN Chip.aim1; rw [hs1, hb, hv])
  have HA := Lib.hid (show s.aim k z = (if v = 2 then (s1.put b).put (z / 256) else s1.put b).put (z % 256) by unfold Chip.aim Chip.aim1; rw [hs1, hb, hv])
  have HO2 := Lib.hid (show (s1.put b).Ok (n + 31) by have := put_ok b HO1.out (by omega); rwa [show n + 4 + 27 = n + 31 by omega] at this)
  have HJ2 := Lib.hid (show (s1.put b).join = false from put_join _ HJ1.out)
  obtain ⟨s2, hs2⟩ : ∃ s2, s1.put b = s2 := ⟨_, rfl⟩
  rw [hs2] at HN HA HO2 HJ2
  have HS2 := Lib.hid hs2
  obtain ⟨a1, ha1⟩ : ∃ a1, s1.acks b = a1 := ⟨_, rfl⟩
  have ha01 := acks_01 s1 b
  rw [ha1] at HN ha01
  have HA1 := Lib.hid ha1
  obtain ⟨ha10, ha11⟩ := ha01
  have hq0 : 0 ≤ z / 256 := by omega
  have hq1 : z / 256 ≤ 255 := by omega
  have hr0 : 0 ≤ z % 256 := by omega
  have hr1 : z % 256 ≤ 255 := by omega
  clear h hok hj hks hs1 hy hv hs2 ha1 hk hz1 hb
  by_cases hy0 : 0 < y
  · have hdy : decide (0 < y) = true := decide_eq_true hy0
    have hz4 := hz3 hy0
    have hq7 : z / 256 ≤ 7 := hz4.1
    have hv2 : v ≠ 2 := hz4.2
    have hdv : (v == 2) = false := by simp [hv2]
    rw [if_pos hy0] at hbv
    have hbe : 160 + 2 * (z / 256) = b := hbv.symm
    have hb0 : 0 ≤ b := by omega
    have hb1 : b ≤ 255 := by omega
    rw [if_neg hv2] at HA
    rw [if_neg hv2, if_neg hv2] at HN
    clear hz3 hz4 hbv hv2
    go_enter Tryd.func24, Tryd.ntmps24
    go_wp2_with fail
    refine (begin_any w).mono ?_
    rintro e w1 ⟨vv, rfl, ho, hb⟩
    obtain ⟨A, c, rfl⟩ := ho.form
    have HL := Lib.hid ho
    have HC1 := Lib.hid (HH.out.below hb)
    have HBL := Lib.hid hb
    have HF := Lib.hid (show ∀ g, (Value.slice A beginL.length c).ownBlock = some g → ¬ F g from fun g hg hFg => by have := (ho.lt hg).1; have := HH.out.there g hFg; omega)
    clear ho hb
    go_wp2_with fail
    refine (stepsLaw_any w1 p F s n A beginL.length c _ _ beginL false HC1.out HO.out HJ.out hn0 HL.out HF.out rfl (by show n + 4 ≤ 1000000; omega)).mono ?_
    rintro e w2 ⟨rfl, hz⟩
    rw [HS1.out] at hz
    have Z := Lib.hid (Went.after HBL.out hz HT.out)
    clear hz
    go_wp2_with fail
    refine (refBlocks_any k y w2 w2 (On.start Z.out.1.tab) HY.out).mono ?_
    rintro e w3 ⟨rfl, hz⟩
    have Z3 := Lib.hid (Z.out.calm hz.bel HT.out)
    clear hz
    go_wp2_with fail
    refine (put_any w3 p _ s1 (n + 4) b Z3.out.1 HO1.out HJ1.out (by omega) (by omega) (by omega) (by omega)).mono ?_
    rintro e w4 ⟨rfl, hz⟩
    rw [HS2.out] at hz
    rw [HA1.out]
    have Z4 := Lib.hid (Z3.out.then_ hz HT.out)
    clear hz
    go_wp2_with fail
    refine (refWide_any k v w4 w4 (On.start Z4.out.1.tab) HV.out).mono ?_
    rintro e w5 ⟨rfl, hz⟩
    have Z5 := Lib.hid (Z4.out.calm hz.bel HT.out)
    clear hz
    go_wp2_with fail
    refine (put_any w5 p _ s2 (n + 31) (z % 256) Z5.out.1 HO2.out HJ2.out (by omega) (by omega) hr0 hr1).mono ?_
    rintro e w7 ⟨rfl, hz⟩
    have Z7 := Lib.hid (Z5.out.then_ hz HT.out)
    clear hz
    have ha3 := acks_01 s2 (z % 256)
    obtain ⟨a3, ha3e⟩ : ∃ a3, s2.acks (z % 256) = a3 := ⟨_, rfl⟩
    rw [ha3e] at HN ha3 ⊢
    obtain ⟨ha30, ha31⟩ := ha3
    clear ha3e
    go_wp2_with fail
    go_ret
    rw [HN.out, HA.out]
    exact ⟨ret_int (by omega), Z7.out⟩
  · have hdy : decide (0 < y) = false := decide_eq_false hy0
    rw [if_neg hy0] at hbv
    obtain rfl : b = 160 := hbv
    clear hz3
    by_cases hv2 : v = 2
    · subst hv2
      rw [if_pos rfl] at HA
      rw [if_pos rfl, if_pos rfl] at HN
      go_enter Tryd.func24, Tryd.ntmps24
      go_wp2_with fail
      refine (begin_any w).mono ?_
      rintro e w1 ⟨vv, rfl, ho, hb⟩
      obtain ⟨A, c, rfl⟩ := ho.form
      have HL := Lib.hid ho
      have HC1 := Lib.hid (HH.out.below hb)
      have HBL := Lib.hid hb
      have HF := Lib.hid (show ∀ g, (Value.slice A beginL.length c).ownBlock = some g → ¬ F g from fun g hg hFg => by have := (ho.lt hg).1; have := HH.out.there g hFg; omega)
      clear ho hb
      go_wp2_with fail
      refine (stepsLaw_any w1 p F s n A beginL.length c _ _ beginL false HC1.out HO.out HJ.out hn0 HL.out HF.out rfl (by show n + 4 ≤ 1000000; omega)).mono ?_
      rintro e w2 ⟨rfl, hz⟩
      rw [HS1.out] at hz
      have Z := Lib.hid (Went.after HBL.out hz HT.out)
      clear hz
      go_wp2_with fail
      refine (refBlocks_any k y w2 w2 (On.start Z.out.1.tab) HY.out).mono ?_
      rintro e w3 ⟨rfl, hz⟩
      have Z3 := Lib.hid (Z.out.calm hz.bel HT.out)
      clear hz
      go_wp2_with fail
      refine (put_any w3 p _ s1 (n + 4) 160 Z3.out.1 HO1.out HJ1.out (by omega) (by omega) (by omega) (by omega)).mono ?_
      rintro e w4 ⟨rfl, hz⟩
      rw [HS2.out] at hz
      rw [HA1.out]
      have Z4 := Lib.hid (Z3.out.then_ hz HT.out)
      clear hz
      go_wp2_with fail
      refine (refWide_any k 2 w4 w4 (On.start Z4.out.1.tab) HV.out).mono ?_
      rintro e w5 ⟨rfl, hz⟩
      have Z5 := Lib.hid (Z4.out.calm hz.bel HT.out)
      clear hz
      go_wp2_with fail
      refine (put_any w5 p _ s2 (n + 31) (z / 256) Z5.out.1 HO2.out HJ2.out (by omega) (by omega) hq0 hq1).mono ?_
      rintro e w6 ⟨rfl, hz⟩
      have Z6 := Lib.hid (Z5.out.then_ hz HT.out)
      have HO3 := Lib.hid (put_ok (z / 256) HO2.out (by omega))
      have HJ3 := Lib.hid (put_join (z / 256) HJ2.out)
      have ha2 := acks_01 s2 (z / 256)
      generalize s2.acks (z / 256) = a2 at *
      generalize s2.put (z / 256) = s3 at *
      obtain ⟨ha20, ha21⟩ := ha2
      clear hz
      go_wp2_with fail
      refine (put_any w6 p _ s3 (n + 31 + 27) (z % 256) Z6.out.1 HO3.out HJ3.out (by omega) (by omega) hr0 hr1).mono ?_
      rintro e w7 ⟨rfl, hz⟩
      have Z7 := Lib.hid (Z6.out.then_ hz HT.out)
      clear hz
      have ha3 := acks_01 s3 (z % 256)
      obtain ⟨a3, ha3e⟩ : ∃ a3, s3.acks (z % 256) = a3 := ⟨_, rfl⟩
      rw [ha3e] at HN ha3 ⊢
      obtain ⟨ha30, ha31⟩ := ha3
      clear ha3e
      go_wp2_with fail
      go_ret
      rw [HN.out, HA.out]
      exact ⟨rfl, Z7.out⟩
    · have hdv : (v == 2) = false := by simp [hv2]
      rw [if_neg hv2] at HA
      rw [if_neg hv2, if_neg hv2] at HN
      clear hv2
      go_enter Tryd.func24, Tryd.ntmps24
      go_wp2_with fail
      refine (begin_any w).mono ?_
      rintro e w1 ⟨vv, rfl, ho, hb⟩
      obtain ⟨A, c, rfl⟩ := ho.form
      have HL := Lib.hid ho
      have HC1 := Lib.hid (HH.out.below hb)
      have HBL := Lib.hid hb
      have HF := Lib.hid (show ∀ g, (Value.slice A beginL.length c).ownBlock = some g → ¬ F g from fun g hg hFg => by have := (ho.lt hg).1; have := HH.out.there g hFg; omega)
      clear ho hb
      go_wp2_with fail
      refine (stepsLaw_any w1 p F s n A beginL.length c _ _ beginL false HC1.out HO.out HJ.out hn0 HL.out HF.out rfl (by show n + 4 ≤ 1000000; omega)).mono ?_
      rintro e w2 ⟨rfl, hz⟩
      rw [HS1.out] at hz
      have Z := Lib.hid (Went.after HBL.out hz HT.out)
      clear hz
      go_wp2_with fail
      refine (refBlocks_any k y w2 w2 (On.start Z.out.1.tab) HY.out).mono ?_
      rintro e w3 ⟨rfl, hz⟩
      have Z3 := Lib.hid (Z.out.calm hz.bel HT.out)
      clear hz
      go_wp2_with fail
      refine (put_any w3 p _ s1 (n + 4) 160 Z3.out.1 HO1.out HJ1.out (by omega) (by omega) (by omega) (by omega)).mono ?_
      rintro e w4 ⟨rfl, hz⟩
      rw [HS2.out] at hz
      rw [HA1.out]
      have Z4 := Lib.hid (Z3.out.then_ hz HT.out)
      clear hz
      go_wp2_with fail
      refine (refWide_any k v w4 w4 (On.start Z4.out.1.tab) HV.out).mono ?_
      rintro e w5 ⟨rfl, hz⟩
      have Z5 := Lib.hid (Z4.out.calm hz.bel HT.out)
      clear hz
      go_wp2_with fail
      refine (put_any w5 p _ s2 (n + 31) (z % 256) Z5.out.1 HO2.out HJ2.out (by omega) (by omega) hr0 hr1).mono ?_
      rintro e w7 ⟨rfl, hz⟩
      have Z7 := Lib.hid (Z5.out.then_ hz HT.out)
      clear hz
      have ha3 := acks_01 s2 (z % 256)
      obtain ⟨a3, ha3e⟩ : ∃ a3, s2.acks (z % 256) = a3 := ⟨_, rfl⟩
      rw [ha3e] at HN ha3 ⊢
      obtain ⟨ha30, ha31⟩ := ha3
      clear ha3e
      go_wp2_with fail
      go_ret
      rw [HN.out, HA.out]
      exact ⟨ret_int (by omega), Z7.out⟩
theorem aim1_ok {s : Chip} {n : Int} (k z : Int) (h : s.Ok n) (hn : 0 ≤ n) : (s.aim1 k z).Ok (n + 31) := by
  have h1 : (s.steps false beginL).Ok (n + 4) := steps_ok false beginL h hn
  have := put_ok (aimB k z) h1 (by omega)
  rwa [show n + 4 + 27 = n + 31 by omega] at this
theorem aim_ok {s : Chip} {n : Int} (k z : Int) (h : s.Ok n) (hn : 0 ≤ n) : (s.aim k z).Ok (n + 85) := by
  have h1 := aim1_ok k z h hn
  unfold Chip.aim
  split
  · have h2 := put_ok (z % 256) (put_ok (z / 256) h1 (by omega)) (by omega)
    rwa [show n + 31 + 27 + 27 = n + 85 by omega] at h2
  · exact (put_ok (z % 256) h1 (by omega)).mono (by omega)
theorem aim_join {s : Chip} (k z : Int) (h : s.join = false) : (s.aim k z).join = false := by
  unfold Chip.aim
  apply put_join
  split
  · exact put_join _ (put_join _ (steps_join _ _ h))
  · exact put_join _ (steps_join _ _ h)
/-- what a chip's calls leave of what lies below it -/
theorem Went.far {p N : Nat} {F : Nat → Prop} {s : Chip} {w w' : World} (h : Went p F s w w') (hF : ∀ b, F b → N ≤ b) (hN : N ≤ w.heap.size) : Below N w w' := h.2.below hF hN
/-- a row that was made behind the chip lies beside it -/
theorem beside {w w1 : World} {p t : Nat} {F : Nat → Prop} {s : Chip} {v : Value} {l : List Lev} (h : ChipAt w p F s) (ho : OwnM levE t w.heap.size w1 v l) : ∀ g, v.ownBlock = some g → ¬ F g :=
  fun g hg hFg => by have := (ho.lt hg).1; have := h.there g hFg; omega
end Go.Proofs.YtfcdlnpfneinlaaDoor
