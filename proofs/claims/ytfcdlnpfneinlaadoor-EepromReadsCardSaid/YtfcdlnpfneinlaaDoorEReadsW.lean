/-
  THE WALK OF EepromReads.
-/
import Derived.Test.YtfcdlnpfneinlaaDoorEReadsV
import Derived.Test.YtfcdlnpfneinlaaDoorEAwake
import Derived.Test.YtfcdlnpfneinlaaDoorBSame
import Derived.Deep.RegionHeld3
import Derived.IntWalk
namespace Go.Proofs.YtfcdlnpfneinlaaDoor
open Go.RowKit
set_option maxRecDepth 20000

/-- several bytes are read, the last one not acknowledged -/
def reads (m : Nat) (s : Chip) : Nat → Chip
  | 0 => s
  | t + 1 => (reads m s t).get (decide (t + 1 < m))
theorem reads_ok {s : Chip} {n : Int} (m t : Nat) (h : s.Ok n) (hn : 0 ≤ n) : (reads m s t).Ok (n + 27 * t) := by
  induction t with
  | zero => simpa [reads] using h
  | succ t ih =>
    have := steps_ok false (putLv 255 (!(decide (t + 1 < m)))) ih (by omega)
    rw [putLv_len] at this
    rw [show n + 27 * ((t + 1 : Nat) : Int) = n + 27 * t + (27 : Nat) by omega]
    exact this
theorem reads_join {s : Chip} (m t : Nat) (h : s.join = false) : (reads m s t).join = false := by
  induction t with
  | zero => exact h
  | succ t ih => exact steps_join false _ ih
theorem read_at (z t : Int) (n : Nat) (_ : 0 ≤ z) (hn : (0 : Int) < n) : ∃ j : Nat, (z + t) % (n : Int) = j ∧ j < n := by
  have h1 := Int.emod_nonneg (z + t) (show (n : Int) ≠ 0 by omega)
  have h2 := Int.emod_lt_of_pos (z + t) hn
  exact ⟨((z + t) % (n : Int)).toNat, by omega, by omega⟩
section
variable {k : Int} {D : List Int} {z : Int} {s : Chip} {m : Nat}
theorem reads_at (h : Sn 0 (D.getD z.toNat 0) k D ((z + 1) % (D.length : Int)) s) (hD : ∀ v ∈ D, 0 ≤ v ∧ v ≤ 255) (_ : (0 : Int) < (D.length : Int)) (hz : 0 ≤ z ∧ z < (D.length : Int)) (t : Nat) (ht : t < m) :
    Sn 0 (D.getD ((z + (t : Int)) % (D.length : Int)).toNat 0) k D ((z + (t : Int) + 1) % (D.length : Int)) (reads m s t) := by
  induction t with
  | zero =>
    have e : (z + ((0 : Nat) : Int)) % (D.length : Int) = z := by rw [show z + ((0 : Nat) : Int) = z by omega]; exact Int.emod_eq_of_lt hz.1 hz.2
    rw [e, show z + ((0 : Nat) : Int) + 1 = z + 1 by omega]
    exact h
  | succ t ih =>
    have i := (ih (by omega)).more hD
    rw [reads, show decide (t + 1 < m) = true by simp [ht]]
    rw [Int.emod_add_emod] at i
    rw [show z + ((t + 1 : Nat) : Int) = z + (t : Int) + 1 by omega]
    exact i
theorem reads_end (h : Sn 0 (D.getD z.toNat 0) k D ((z + 1) % (D.length : Int)) s) (hD : ∀ v ∈ D, 0 ≤ v ∧ v ≤ 255) (hn : (0 : Int) < (D.length : Int)) (hz : 0 ≤ z ∧ z < (D.length : Int)) (hm : 1 ≤ m) :
    Lo k D ((z + (m : Int)) % (D.length : Int)) (reads m s m) := by
  obtain ⟨t, rfl⟩ : ∃ t, m = t + 1 := ⟨m - 1, by omega⟩
  have i := (reads_at (m := t + 1) h hD hn hz t (by omega)).done
  rw [reads, show decide (t + 1 < t + 1) = false by simp]
  rw [show z + ((t + 1 : Nat) : Int) = z + (t : Int) + 1 by omega]
  exact i
end
/-- the device's byte of a read there -/
theorem kind_ask {k : Int} (h : 1 ≤ k ∧ k ≤ 10) {z : Int} (h0 : 0 ≤ z) (h1 : z < gcol k 0) :
    ∃ v, (if 0 < gcol k 3 then 161 + 2 * (z / 256) = v else v = 161) ∧ 0 ≤ v ∧ v ≤ 255 ∧ v / 16 = 10 ∧ v / 2 % 8 < 2 ^ (gcol k 3).toNat ∧ v % 2 = 1 ∧ (0 < gcol k 3 → z % 256 + v / 2 % 8 * 256 = z) := by
  have h := kinds h
  simp only [List.mem_cons, Prod.mk.injEq, List.not_mem_nil, or_false] at h
  rcases h with ⟨e0, _, e2, e1⟩ | ⟨e0, _, e2, e1⟩ | ⟨e0, _, e2, e1⟩ | ⟨e0, _, e2, e1⟩ | ⟨e0, _, e2, e1⟩ | ⟨e0, _, e2, e1⟩ | ⟨e0, _, e2, e1⟩ | ⟨e0, _, e2, e1⟩ | ⟨e0, _, e2, e1⟩ | ⟨e0, _, e2, e1⟩ <;> rw [e0] at h1 <;> rw [e1]
  · exact ⟨161, by simp, by omega, by omega, by omega, by simp, by omega, by simp⟩
  · exact ⟨161, by simp, by omega, by omega, by omega, by simp, by omega, by simp⟩
  · exact ⟨161 + 2 * (z / 256), by simp, by omega, by omega, by omega, by show (161 + 2 * (z / 256)) / 2 % 8 < 2; omega, by omega, by omega⟩
  · exact ⟨161 + 2 * (z / 256), by simp, by omega, by omega, by omega, by show (161 + 2 * (z / 256)) / 2 % 8 < 4; omega, by omega, by omega⟩
  · exact ⟨161 + 2 * (z / 256), by simp, by omega, by omega, by omega, by show (161 + 2 * (z / 256)) / 2 % 8 < 8; omega, by omega, by omega⟩
  all_goals exact ⟨161, by simp, by omega, by omega, by omega, by simp, by omega, by simp⟩

set_option maxRecDepth 100000 in
set_option maxHeartbeats 8000000 in
theorem eepromReads_walk (w : World) (a : Int) (wa : (Lit.int .u8 a).wf = true) (A1 : Option Addr) (n1 c1 : Nat) (z1 : List Int) (r1 : IsRow .u8 w A1 n1 c1 z1) (ad : Int) (wad : (Lit.int .u16 ad).wf = true) (mn : Int) (wmn : (Lit.int .u8 mn).wf = true) (hT : Tab w) :
    Calls Tryd.prog 6 #[.int .u8 a, .slice A1 n1 c1, .int .u16 ad, .int .u8 mn] w fun e w' => e = .returned (.bool true) ∧ Below w.heap.size w w' := by
  have had : 0 ≤ ad ∧ ad ≤ 65535 := by simpa [Lit.wf, IntKind.min, IntKind.max, IntKind.signed, IntKind.bits] using wad
  obtain ⟨had0, had1⟩ := had
  have hmn : 0 ≤ mn ∧ mn ≤ 255 := by simpa [Lit.wf, IntKind.min, IntKind.max, IntKind.signed, IntKind.bits] using wmn
  obtain ⟨hmn0, hmn1⟩ := hmn
  clear wad wmn
  have HT := Lib.hid hT
  have ha : 0 ≤ a ∧ a ≤ 255 := by simpa [Lit.wf, IntKind.min, IntKind.max, IntKind.signed, IntKind.bits] using wa
  have HN1 := Lib.hid r1.nums
  have hm1 := r1.len_le.2
  unfold maxLen at hm1
  obtain ⟨ha0, ha1⟩ := ha
  clear hT r1 wa
  obtain ⟨b, hl1⟩ : ∃ l, z1.take n1 = l := ⟨_, rfl⟩
  rw [hl1] at HN1
  clear hl1
  obtain ⟨k, hk⟩ : ∃ k, 1 + a % 7 = k := ⟨_, rfl⟩
  have hk1 : 1 ≤ k := by omega
  have hk5 : k ≤ 7 := by omega
  have HK := Lib.hid (show 1 ≤ k ∧ k ≤ 10 by omega)
  have hks := kind_size HK.out
  obtain ⟨z, hz⟩ : ∃ z : Nat, gcol k 0 = z := ⟨(gcol k 0).toNat, by omega⟩
  have HZ := Lib.hid hz
  have hz0 : 128 ≤ z := by omega
  have hz1 : z ≤ 65536 := by omega
  have hkr : 1 + a % 7 = k := hk
  clear hks hz
  obtain ⟨D, hD⟩ : ∃ D, fillL b z = D := ⟨_, rfl⟩
  have HD := Lib.hid hD
  have HDL := Lib.hid (show D.length = z by rw [← hD, fillL_len])
  have HDB := Lib.hid (show ∀ v ∈ D, 0 ≤ v ∧ v ≤ 255 by rw [← hD]; exact fillL_in z HN1.out.byte)
  obtain ⟨s0, hs0⟩ : ∃ s0, fresh k D = s0 := ⟨_, rfl⟩
  have HO0 := Lib.hid (show Chip.Ok 0 s0 by rw [← hs0]; exact fresh_ok k D HK.out (by rw [HDL.out, HZ.out]) HDB.out)
  have HJ0 := Lib.hid (show s0.join = false by rw [← hs0]; rfl)
  have HI0 := Lib.hid (show Id k D 0 s0 by rw [← hs0]; exact ⟨rfl, rfl, rfl, rfl, rfl, rfl, rfl, rfl, rfl, rfl, rfl⟩)
  have HS0 := Lib.hid hs0
  clear hD
  by_cases hb1 : n1 ≤ 40
  · have hb1' : decide (40 < (n1 : Int)) = false := decide_eq_false (by omega)
    have hzp : (0 : Int) < (z : Int) := by omega
    obtain ⟨at_, hat⟩ : ∃ y, ad % (z : Int) = y := ⟨_, rfl⟩
    have hat1 : 0 ≤ at_ ∧ at_ < (z : Int) := by rw [← hat]; exact ⟨Int.emod_nonneg _ (by omega), Int.emod_lt_of_pos _ hzp⟩
    obtain ⟨hat2, hat3⟩ := hat1
    obtain ⟨m, hm⟩ : ∃ m : Nat, 1 + mn % 20 = m := ⟨(1 + mn % 20).toNat, by omega⟩
    have hm1 : 1 ≤ m := by omega
    have hm20 : m ≤ 20 := by omega
    have hks := kind_size HK.out
    obtain ⟨wd, hwd⟩ : ∃ y, gcol k 2 = y := ⟨_, rfl⟩
    obtain ⟨bl, hbl⟩ : ∃ y, gcol k 3 = y := ⟨_, rfl⟩
    have hak := kind_ask HK.out hat2 (by rw [HZ.out]; exact hat3)
    rw [hbl] at hak
    rw [hwd, hbl] at hks
    obtain ⟨_, _, _, _, hwd0, hwd1, hbl0, hbl1⟩ := hks
    have HWI := Lib.hid hwd
    have HBL := Lib.hid hbl
    obtain ⟨v, hv, hv0, hv1, hv2, hv3, hv4, hv5⟩ := hak
    clear hwd hbl
    obtain ⟨s1, hs1⟩ : ∃ s1, s0.aim k at_ = s1 := ⟨_, rfl⟩
    have HS1 := Lib.hid hs1
    have HO1 := Lib.hid (show Chip.Ok 85 s1 by rw [← hs1]; exact aim_ok k at_ HO0.out (by omega))
    have HJ1 := Lib.hid (show s1.join = false by rw [← hs1]; exact aim_join k at_ HJ0.out)
    clear hs1
    obtain ⟨s2, hs2⟩ : ∃ s2, s1.steps false beginL = s2 := ⟨_, rfl⟩
    have HS2 := Lib.hid hs2
    have HO2 := Lib.hid (show Chip.Ok 89 s2 by rw [← hs2]; exact steps_ok false beginL HO1.out (by omega))
    have HJ2 := Lib.hid (show s2.join = false by rw [← hs2]; exact steps_join false beginL HJ1.out)
    clear hs2
    have HA1 := aim_rd (HI0.out.begin false) HK.out (by rw [HDL.out, HZ.out]) (z := at_) (by omega) (by rw [HZ.out]; omega)
    rw [HS1.out, HWI.out] at HA1
    have HAN := Lib.hid (show s0.aimN k at_ = 1 + wd from HA1.2)
    have R2 := HA1.1.begin false
    rw [HS2.out] at R2
    have R3 := R2.ask v hv0 hv1 hv2 (by rw [HBL.out]; exact hv3) hv4 (by rw [HBL.out]; exact hv5) HDB.out
    have HAC := Lib.hid (show s2.acks v = 1 from R3.1)
    obtain ⟨s3, hs3⟩ : ∃ s3, s2.put v = s3 := ⟨_, rfl⟩
    have HS3 := Lib.hid hs3
    have HO3 := Lib.hid (show Chip.Ok 116 s3 by rw [← hs3]; exact put_ok v HO2.out (by omega))
    have HJ3 := Lib.hid (show s3.join = false by rw [← hs3]; exact put_join v HJ2.out)
    have R4 := R3.2
    rw [hs3] at R4
    have HSND := Lib.hid (fun t ht => reads_at (m := m) R4 HDB.out (by rw [HDL.out]; exact hzp) ⟨hat2, by rw [HDL.out]; exact hat3⟩ t ht)
    rw [HDL.out] at HSND
    have HLO := reads_end (m := m) R4 HDB.out (by rw [HDL.out]; exact hzp) ⟨hat2, by rw [HDL.out]; exact hat3⟩ hm1
    rw [HDL.out] at HLO
    obtain ⟨s5, hs5⟩ : ∃ s5, (reads m s3 m).steps false endL = s5 := ⟨_, rfl⟩
    have HS5 := Lib.hid hs5
    have HOM := Lib.hid (show Chip.Ok 656 (reads m s3 m) from (reads_ok m m HO3.out (by omega)).mono (by omega))
    have HJM := Lib.hid (show (reads m s3 m).join = false from reads_join m m HJ3.out)
    have HO5 := Lib.hid (show Chip.Ok 659 s5 by rw [← hs5]; exact steps_ok false endL HOM.out (by omega))
    have R5 := HLO.end_ false
    rw [hs5] at R5
    have HV5 := Lib.hid R5.data
    have HV5L := Lib.hid R5.left
    obtain ⟨q, hq⟩ : ∃ q, (at_ + (m : Int)) % (z : Int) = q := ⟨_, rfl⟩
    have HV5P := Lib.hid (show s5.pointer = q by rw [← hq]; exact R5.ptr)
    have eq1 : ((1 + wd + 1 : Int) == IntKind.i64.wrap (2 + wd)) = true := by rw [IntWalk.i64_in _ (by omega), beq_iff_eq]; omega
    have eq2 : (IntKind.i64.wrap (at_ + (m : Int))).tmod (z : Int) = q := by rw [IntWalk.i64_in _ (by omega), Int.tmod_eq_emod_of_nonneg (by omega), hq]
    have hzn : (z : Int) ≠ 0 := by omega
    have hzm : ¬ z = 0 := by omega
    clear HA1 R2 R3 R4 R5 HLO hs3 hs5 hq
    by_cases hbp : 0 < bl
    · have hdb : decide (0 < bl) = true := decide_eq_true hbp
      rw [if_pos hbp] at hv
      go_enter Tryd.func6, Tryd.ntmps6
      go_wp2_with fail
      refine (awake_any w HT.out).mono ?_
      rintro e w1 ⟨rfl, hb⟩
      have HB1 := Lib.hid hb
      have HT1 := Lib.hid (tab_below HT.out hb (tab_pos HT.out))
      clear hb
      go_wp2_with fail
      refine (refEeprom_any k z w1 w1 (On.start HT1.out) HZ.out).mono ?_
      rintro e w2 ⟨rfl, hb⟩
      have HB2 := Lib.hid (HB1.out.trans (hb.bel.mono HB1.out.size))
      have HT2 := Lib.hid hb.tab
      clear hb
      go_wp2_with fail
      refine (fill_any A1 n1 c1 w.heap.size z b w2 (HN1.out.below HB2.out) HB2.out.size (by omega) (by omega)).mono ?_
      rintro e w3 ⟨v, rfl, hv, hb⟩
      rw [HD.out] at hv
      obtain ⟨A3, c3, rfl, _, hn3⟩ := hv.nums fun x hx => byte_wf (HDB.out x hx)
      rw [HDL.out] at hn3 ⊢
      have HN3 := Lib.hid hn3
      have HB3 := Lib.hid (HB2.out.trans (hb.mono HB2.out.size))
      have HT3 := Lib.hid (tab_below HT2.out hb (tab_pos HT2.out))
      clear hv hb hn3
      go_wp2_with fail
      refine (newChip_ok k A3 z c3 w3.heap.size D w3 HT3.out HN3.out (Nat.le_refl _) HK.out HZ.out.symm).mono ?_
      rintro e w4 ⟨p, rfl, hc, hb⟩
      rw [HS0.out] at hc
      have HB4 := Lib.hid hb
      have HT4 := Lib.hid hc.tab
      have Z0 := Lib.hid (show Went p (NewF w3 w4) s0 w4 w4 from hc.went)
      have HF3 := Lib.hid (show ∀ b, NewF w3 w4 b → w3.heap.size ≤ b from fun b hb => hb.1)
      clear hc hb
      go_wp2_with fail
      refine (aim_any w4 p _ s0 0 k at_ Z0.out.1 HO0.out HJ0.out (by omega) (by omega) HK.out (by omega) (by rw [HZ.out]; omega)).mono ?_
      rintro e w5 ⟨rfl, hz⟩
      rw [HS1.out] at hz
      have Z1 := Lib.hid (Z0.out.then_ hz HT4.out)
      clear hz
      rw [HAN.out]
      go_wp2_with fail
      refine (begin_any w5).mono ?_
      rintro e w6 ⟨vv, rfl, ho, hb⟩
      obtain ⟨A6, c6, rfl⟩ := ho.form
      have HL2 := Lib.hid ho
      have HSP2 := Lib.hid (beside Z1.out.1 ho)
      have HC2 := Lib.hid (Z1.out.1.below hb)
      have HBB2 := Lib.hid hb
      clear ho hb
      go_wp2_with fail
      refine (stepsLaw_any w6 p _ s1 85 A6 beginL.length c6 _ _ beginL false HC2.out HO1.out HJ1.out (by omega) HL2.out HSP2.out rfl (by decide)).mono ?_
      rintro e w7 ⟨rfl, hz⟩
      rw [HS2.out] at hz
      have Z2 := Lib.hid (Z1.out.then_ (Went.after HBB2.out hz Z1.out.1.tab) HT4.out)
      clear hz
      go_wp2_with fail
      refine (refBlocks_any k bl w7 w7 (On.start Z2.out.1.tab) HBL.out).mono ?_
      rintro e w8 ⟨rfl, hz⟩
      have Z2b := Lib.hid (Z2.out.calm hz.bel HT4.out)
      clear hz
      go_wp2_with fail
      refine (put_any w8 p _ s2 89 v Z2b.out.1 HO2.out HJ2.out (by omega) (by omega) (by omega) (by omega)).mono ?_
      rintro e w9 ⟨rfl, hz⟩
      rw [HS3.out] at hz
      have Z3 := Lib.hid (Z2b.out.then_ hz HT4.out)
      clear hz
      rw [HAC.out]
      have HR0 := Lib.hid (show Went p (NewF w3 w4) (reads m s3 0) w4 w9 from Z3.out)
      go_wp2_with fail
      go_loopw [19] (fun i wr => ∃ t : Nat, t ≤ m ∧ i = .int .i64 t ∧ Went p (NewF w3 w4) (reads m s3 t) w4 wr) (fun i _ => m - (intOf i).toNat)
      case atStart => exact ⟨0, Nat.zero_le _, rfl, HR0.out⟩
      case round =>
        obtain ⟨t, ht, rfl, hz⟩ := hrel
        have Z := Lib.hid hz
        clear hz
        by_cases hlt : t < m
        · have hjj := read_at at_ t z hat2 hzp
          obtain ⟨j, hj, hjz⟩ := hjj
          have HSN := Lib.hid (HSND.out t hlt)
          have e0 : (IntKind.i64.wrap (at_ + (t : Int))).tmod (z : Int) = (j : Int) := by
            rw [IntWalk.i64_in _ (by omega), Int.tmod_eq_emod_of_nonneg (by omega), hj]
          have hzn : (z : Int) ≠ 0 := by omega
          have hzm : ¬ z = 0 := by omega
          obtain ⟨bb, oo, rfl, hbb, hcb⟩ := HN3.out.2.2 (by omega)
          have HBB := Lib.hid hbb
          have HCB := Lib.hid (hcb j (by omega))
          have hfar := HB4.out.trans (Z.out.far (N := w3.heap.size) HF3.out HB4.out.size)
          have HFAR := Lib.hid hfar
          have d0 := (hfar.cell (p := ⟨bb, oo + j, none⟩) hbb).trans HCB.out
          have HXB := Lib.hid (Chip.getD_in HDB.out j)
          have HOK := Lib.hid (reads_ok m t HO3.out (by omega))
          have HJN := Lib.hid (reads_join m t HJ3.out)
          have ZD := Lib.hid (Z.out.calm (below_drew wr) HT4.out)
          have HG := Lib.hid (fun a => HSN.out.gets (Chip.getD_in HDB.out _).1 (Chip.getD_in HDB.out _).2 a)
          rw [hj, show ((j : Int)).toNat = j from rfl] at HG
          generalize D.getD j 0 = x at *
          have hxb := HXB.out
          obtain ⟨hxb0, hxb1⟩ := hxb
          have ht1 : (t : Int) < (m : Int) := by omega
          have ht0 : (0 : Int) ≤ (t : Int) := by omega
          clear hcb hbb hfar
          obtain ⟨bt, hbt⟩ : ∃ bt, decide (t + 1 < m) = bt := ⟨_, rfl⟩
          have HRN := Lib.hid (show reads m s3 (t + 1) = (reads m s3 t).get bt by rw [← hbt]; rfl)
          have e1 : decide ((t : Int) < IntKind.i64.wrap ((m : Int) - 1)) = bt := by
            rw [IntWalk.i64_in _ (by omega), ← hbt]
            exact decide_eq_decide.2 (by omega)
          have e2 : IntKind.i64.wrap x = x := IntWalk.i64_in x (by omega)
          clear hbt
          go_wp2_with fail
          go_region_held3 (fun w' => w'.cell? ⟨bb, oo + j, none⟩ = some (.int .u8 x)) (first | (with_reducible exact C9.out) | go_keep) (first
            | (go_at_call 33; go_simp; refine (get_any _ p _ _ _ bt ZD.out.1 HOK.out HJN.out (by omega) (by omega)).mono ?_; rintro e' w9 ⟨rfl, hz⟩; rw [HG.out]
               have Z9 := Lib.hid (ZD.out.then_ hz HT4.out)
               have C9 := Lib.hid (show w9.cell? ⟨bb, oo + j, none⟩ = some (.int .u8 x) from ((HB4.out.trans (Z9.out.far (N := w3.heap.size) HF3.out HB4.out.size)).cell (p := ⟨bb, oo + j, none⟩) HBB.out).trans HCB.out)
               clear hz))
          clear e0 e1 e2
          go_wp2_with fail
          go_roundw
          case rel => exact ⟨t + 1, by omega, by go_num, by rw [HRN.out]; exact Z9.out⟩
          case measure => simp [intOf]; omega
        · obtain rfl : t = m := by omega
          have ZE := Lib.hid Z.out
          go_wp2_with fail
          refine (end_any wr).mono ?_
          rintro e w10 ⟨vv, rfl, ho, hb⟩
          obtain ⟨A8, c8, rfl⟩ := ho.form
          have HL8 := Lib.hid ho
          have HSP8 := Lib.hid (beside ZE.out.1 ho)
          have HC8 := Lib.hid (ZE.out.1.below hb)
          have HBB8 := Lib.hid hb
          clear ho hb
          go_wp2_with fail
          refine (stepsLaw_any w10 p _ (reads t s3 t) 656 A8 endL.length c8 _ _ endL false HC8.out HOM.out HJM.out (by omega) HL8.out HSP8.out rfl (by decide)).mono ?_
          rintro e w11 ⟨rfl, hz⟩
          rw [HS5.out] at hz
          have Z5 := Lib.hid (ZE.out.then_ (Went.after HBB8.out hz ZE.out.1.tab) HT4.out)
          clear hz
          go_wp2_with fail
          have Z6 := Lib.hid (Z5.out.calm (below_drew w11) HT4.out)
          go_region_held3 (fun _ => True) (trivial) (first
            | (go_at_call 30; refine (refWide_any k wd _ _ (On.start Z6.out.1.tab) HWI.out).mono ?_; rintro e' w12 ⟨rfl, hb⟩
               have Z7 := Lib.hid (Z6.out.calm hb.bel HT4.out)
               clear hb)
            | (go_at_call 19; refine (pointer_any _ p _ s5 Z7.out.1).mono ?_; rintro e' w13 ⟨rfl, rfl⟩; rw [HV5P.out])
            | (go_at_call 22; refine (bytes_any _ p _ s5 659 Z7.out.1 HO5.out).mono ?_; rintro e' w14 ⟨vb, rfl, hv, hb⟩
               rw [HV5.out] at hv
               obtain ⟨B1, cb1, rfl, _, hnb⟩ := hv.nums fun x hx => byte_wf (HDB.out x hx)
               rw [HDL.out] at hnb ⊢
               have HNB1 := Lib.hid hnb
               have Z8 := Lib.hid (Z7.out.calm hb HT4.out)
               clear hv hb hnb)
            | (go_at_call 21; refine (same_refl B1 _ z cb1 c3 _ D _ (by unfold maxLen; omega) HNB1.out ((HN3.out.below (HB4.out.trans (Z8.out.far (N := w3.heap.size) HF3.out HB4.out.size))).mono (Nat.le_trans HB4.out.size Z8.out.2.size)) (Nat.le_refl _)).mono ?_; rintro e' w15 ⟨rfl, hb⟩
               have Z9 := Lib.hid (Z8.out.calm hb HT4.out)
               clear hb)
            | (go_at_call 18; refine (left_any _ p _ s5 Z9.out.1).mono ?_; rintro e' w16 ⟨rfl, rfl⟩; rw [HV5L.out]
               have HBZ := Lib.hid (HB3.out.trans ((HB4.out.trans (Z9.out.far (N := w3.heap.size) HF3.out HB4.out.size)).mono HB3.out.size))))
          go_wp2_with fail
          go_ret
          exact ⟨rfl, HBZ.out⟩
    · have hdb : decide (0 < bl) = false := decide_eq_false hbp
      rw [if_neg hbp] at hv
      subst hv
      go_enter Tryd.func6, Tryd.ntmps6
      go_wp2_with fail
      refine (awake_any w HT.out).mono ?_
      rintro e w1 ⟨rfl, hb⟩
      have HB1 := Lib.hid hb
      have HT1 := Lib.hid (tab_below HT.out hb (tab_pos HT.out))
      clear hb
      go_wp2_with fail
      refine (refEeprom_any k z w1 w1 (On.start HT1.out) HZ.out).mono ?_
      rintro e w2 ⟨rfl, hb⟩
      have HB2 := Lib.hid (HB1.out.trans (hb.bel.mono HB1.out.size))
      have HT2 := Lib.hid hb.tab
      clear hb
      go_wp2_with fail
      refine (fill_any A1 n1 c1 w.heap.size z b w2 (HN1.out.below HB2.out) HB2.out.size (by omega) (by omega)).mono ?_
      rintro e w3 ⟨v, rfl, hv, hb⟩
      rw [HD.out] at hv
      obtain ⟨A3, c3, rfl, _, hn3⟩ := hv.nums fun x hx => byte_wf (HDB.out x hx)
      rw [HDL.out] at hn3 ⊢
      have HN3 := Lib.hid hn3
      have HB3 := Lib.hid (HB2.out.trans (hb.mono HB2.out.size))
      have HT3 := Lib.hid (tab_below HT2.out hb (tab_pos HT2.out))
      clear hv hb hn3
      go_wp2_with fail
      refine (newChip_ok k A3 z c3 w3.heap.size D w3 HT3.out HN3.out (Nat.le_refl _) HK.out HZ.out.symm).mono ?_
      rintro e w4 ⟨p, rfl, hc, hb⟩
      rw [HS0.out] at hc
      have HB4 := Lib.hid hb
      have HT4 := Lib.hid hc.tab
      have Z0 := Lib.hid (show Went p (NewF w3 w4) s0 w4 w4 from hc.went)
      have HF3 := Lib.hid (show ∀ b, NewF w3 w4 b → w3.heap.size ≤ b from fun b hb => hb.1)
      clear hc hb
      go_wp2_with fail
      refine (aim_any w4 p _ s0 0 k at_ Z0.out.1 HO0.out HJ0.out (by omega) (by omega) HK.out (by omega) (by rw [HZ.out]; omega)).mono ?_
      rintro e w5 ⟨rfl, hz⟩
      rw [HS1.out] at hz
      have Z1 := Lib.hid (Z0.out.then_ hz HT4.out)
      clear hz
      rw [HAN.out]
      go_wp2_with fail
      refine (begin_any w5).mono ?_
      rintro e w6 ⟨vv, rfl, ho, hb⟩
      obtain ⟨A6, c6, rfl⟩ := ho.form
      have HL2 := Lib.hid ho
      have HSP2 := Lib.hid (beside Z1.out.1 ho)
      have HC2 := Lib.hid (Z1.out.1.below hb)
      have HBB2 := Lib.hid hb
      clear ho hb
      go_wp2_with fail
      refine (stepsLaw_any w6 p _ s1 85 A6 beginL.length c6 _ _ beginL false HC2.out HO1.out HJ1.out (by omega) HL2.out HSP2.out rfl (by decide)).mono ?_
      rintro e w7 ⟨rfl, hz⟩
      rw [HS2.out] at hz
      have Z2 := Lib.hid (Z1.out.then_ (Went.after HBB2.out hz Z1.out.1.tab) HT4.out)
      clear hz
      go_wp2_with fail
      refine (refBlocks_any k bl w7 w7 (On.start Z2.out.1.tab) HBL.out).mono ?_
      rintro e w8 ⟨rfl, hz⟩
      have Z2b := Lib.hid (Z2.out.calm hz.bel HT4.out)
      clear hz
      go_wp2_with fail
      refine (put_any w8 p _ s2 89 161 Z2b.out.1 HO2.out HJ2.out (by omega) (by omega) (by omega) (by omega)).mono ?_
      rintro e w9 ⟨rfl, hz⟩
      rw [HS3.out] at hz
      have Z3 := Lib.hid (Z2b.out.then_ hz HT4.out)
      clear hz
      rw [HAC.out]
      have HR0 := Lib.hid (show Went p (NewF w3 w4) (reads m s3 0) w4 w9 from Z3.out)
      go_wp2_with fail
      go_loopw [19] (fun i wr => ∃ t : Nat, t ≤ m ∧ i = .int .i64 t ∧ Went p (NewF w3 w4) (reads m s3 t) w4 wr) (fun i _ => m - (intOf i).toNat)
      case atStart => exact ⟨0, Nat.zero_le _, rfl, HR0.out⟩
      case round =>
        obtain ⟨t, ht, rfl, hz⟩ := hrel
        have Z := Lib.hid hz
        clear hz
        by_cases hlt : t < m
        · have hjj := read_at at_ t z hat2 hzp
          obtain ⟨j, hj, hjz⟩ := hjj
          have HSN := Lib.hid (HSND.out t hlt)
          have e0 : (IntKind.i64.wrap (at_ + (t : Int))).tmod (z : Int) = (j : Int) := by
            rw [IntWalk.i64_in _ (by omega), Int.tmod_eq_emod_of_nonneg (by omega), hj]
          have hzn : (z : Int) ≠ 0 := by omega
          have hzm : ¬ z = 0 := by omega
          obtain ⟨bb, oo, rfl, hbb, hcb⟩ := HN3.out.2.2 (by omega)
          have HBB := Lib.hid hbb
          have HCB := Lib.hid (hcb j (by omega))
          have hfar := HB4.out.trans (Z.out.far (N := w3.heap.size) HF3.out HB4.out.size)
          have HFAR := Lib.hid hfar
          have d0 := (hfar.cell (p := ⟨bb, oo + j, none⟩) hbb).trans HCB.out
          have HXB := Lib.hid (Chip.getD_in HDB.out j)
          have HOK := Lib.hid (reads_ok m t HO3.out (by omega))
          have HJN := Lib.hid (reads_join m t HJ3.out)
          have ZD := Lib.hid (Z.out.calm (below_drew wr) HT4.out)
          have HG := Lib.hid (fun a => HSN.out.gets (Chip.getD_in HDB.out _).1 (Chip.getD_in HDB.out _).2 a)
          rw [hj, show ((j : Int)).toNat = j from rfl] at HG
          generalize D.getD j 0 = x at *
          have hxb := HXB.out
          obtain ⟨hxb0, hxb1⟩ := hxb
          have ht1 : (t : Int) < (m : Int) := by omega
          have ht0 : (0 : Int) ≤ (t : Int) := by omega
          clear hcb hbb hfar
          obtain ⟨bt, hbt⟩ : ∃ bt, decide (t + 1 < m) = bt := ⟨_, rfl⟩
          have HRN := Lib.hid (show reads m s3 (t + 1) = (reads m s3 t).get bt by rw [← hbt]; rfl)
          have e1 : decide ((t : Int) < IntKind.i64.wrap ((m : Int) - 1)) = bt := by
            rw [IntWalk.i64_in _ (by omega), ← hbt]
            exact decide_eq_decide.2 (by omega)
          have e2 : IntKind.i64.wrap x = x := IntWalk.i64_in x (by omega)
          clear hbt
          go_wp2_with fail
          go_region_held3 (fun w' => w'.cell? ⟨bb, oo + j, none⟩ = some (.int .u8 x)) (first | (with_reducible exact C9.out) | go_keep) (first
            | (go_at_call 33; go_simp; refine (get_any _ p _ _ _ bt ZD.out.1 HOK.out HJN.out (by omega) (by omega)).mono ?_; rintro e' w9 ⟨rfl, hz⟩; rw [HG.out]
               have Z9 := Lib.hid (ZD.out.then_ hz HT4.out)
               have C9 := Lib.hid (show w9.cell? ⟨bb, oo + j, none⟩ = some (.int .u8 x) from ((HB4.out.trans (Z9.out.far (N := w3.heap.size) HF3.out HB4.out.size)).cell (p := ⟨bb, oo + j, none⟩) HBB.out).trans HCB.out)
               clear hz))
          clear e0 e1 e2
          go_wp2_with fail
          go_roundw
          case rel => exact ⟨t + 1, by omega, by go_num, by rw [HRN.out]; exact Z9.out⟩
          case measure => simp [intOf]; omega
        · obtain rfl : t = m := by omega
          have ZE := Lib.hid Z.out
          go_wp2_with fail
          refine (end_any wr).mono ?_
          rintro e w10 ⟨vv, rfl, ho, hb⟩
          obtain ⟨A8, c8, rfl⟩ := ho.form
          have HL8 := Lib.hid ho
          have HSP8 := Lib.hid (beside ZE.out.1 ho)
          have HC8 := Lib.hid (ZE.out.1.below hb)
          have HBB8 := Lib.hid hb
          clear ho hb
          go_wp2_with fail
          refine (stepsLaw_any w10 p _ (reads t s3 t) 656 A8 endL.length c8 _ _ endL false HC8.out HOM.out HJM.out (by omega) HL8.out HSP8.out rfl (by decide)).mono ?_
          rintro e w11 ⟨rfl, hz⟩
          rw [HS5.out] at hz
          have Z5 := Lib.hid (ZE.out.then_ (Went.after HBB8.out hz ZE.out.1.tab) HT4.out)
          clear hz
          go_wp2_with fail
          have Z6 := Lib.hid (Z5.out.calm (below_drew w11) HT4.out)
          go_region_held3 (fun _ => True) (trivial) (first
            | (go_at_call 30; refine (refWide_any k wd _ _ (On.start Z6.out.1.tab) HWI.out).mono ?_; rintro e' w12 ⟨rfl, hb⟩
               have Z7 := Lib.hid (Z6.out.calm hb.bel HT4.out)
               clear hb)
            | (go_at_call 19; refine (pointer_any _ p _ s5 Z7.out.1).mono ?_; rintro e' w13 ⟨rfl, rfl⟩; rw [HV5P.out])
            | (go_at_call 22; refine (bytes_any _ p _ s5 659 Z7.out.1 HO5.out).mono ?_; rintro e' w14 ⟨vb, rfl, hv, hb⟩
               rw [HV5.out] at hv
               obtain ⟨B1, cb1, rfl, _, hnb⟩ := hv.nums fun x hx => byte_wf (HDB.out x hx)
               rw [HDL.out] at hnb ⊢
               have HNB1 := Lib.hid hnb
               have Z8 := Lib.hid (Z7.out.calm hb HT4.out)
               clear hv hb hnb)
            | (go_at_call 21; refine (same_refl B1 _ z cb1 c3 _ D _ (by unfold maxLen; omega) HNB1.out ((HN3.out.below (HB4.out.trans (Z8.out.far (N := w3.heap.size) HF3.out HB4.out.size))).mono (Nat.le_trans HB4.out.size Z8.out.2.size)) (Nat.le_refl _)).mono ?_; rintro e' w15 ⟨rfl, hb⟩
               have Z9 := Lib.hid (Z8.out.calm hb HT4.out)
               clear hb)
            | (go_at_call 18; refine (left_any _ p _ s5 Z9.out.1).mono ?_; rintro e' w16 ⟨rfl, rfl⟩; rw [HV5L.out]
               have HBZ := Lib.hid (HB3.out.trans ((HB4.out.trans (Z9.out.far (N := w3.heap.size) HF3.out HB4.out.size)).mono HB3.out.size))))
          go_wp2_with fail
          go_ret
          exact ⟨rfl, HBZ.out⟩
  · have hb1' : decide (40 < (n1 : Int)) = true := decide_eq_true (by omega)
    go_enter Tryd.func6, Tryd.ntmps6
    go_wp2_with fail
    refine (awake_any w HT.out).mono ?_
    rintro e w1 ⟨rfl, hb⟩
    have HB1 := Lib.hid hb
    clear hb
    go_wp2_with fail
    go_ret
    exact ⟨rfl, HB1.out⟩
end Go.Proofs.YtfcdlnpfneinlaaDoor
