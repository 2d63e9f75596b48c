/-
  THE WALK OF DiskOpens.
-/
import Derived.Test.YtconholnjhjhcaaRefOpen
import Derived.Lib.QuietBelow
namespace Go.Proofs.Ytconholnjhjhcaa
open Ks Go.RowKit

/-- a new disk, behind k operations -/
def ticked (n : Nat) (l : List (List Int)) (k : Nat) : St := { fresh n l with ops := k }
theorem ticked_tick (n : Nat) (l : List (List Int)) (k : Nat) : (ticked n l k).tick = ticked n l (k + 1) := by
  unfold ticked fresh St.tick
  congr 1
  funext j
  split <;> rfl
theorem ticked_read (n : Nat) (l : List (List Int)) (k i : Nat) (hi : i < l.length) : St.read (ticked n l k) i = (l.getD i [], 0) := by
  unfold St.read
  rw [if_neg (by simp [St.fails, ticked, fresh]), if_neg (by simp [ticked, fresh]; omega)]
  simp [ticked, fresh]
theorem ticked_out (n : Nat) (l : List (List Int)) (k : Nat) : St.read (ticked n l k) l.length = ([], 2) := by
  unfold St.read
  rw [if_neg (by simp [St.fails, ticked, fresh]), if_pos (by simp [ticked, fresh])]
theorem chunks_flat {n m : Nat} {bs : List Int} (hb : bs.length = m * n) : (chunks n m bs).flatten = bs := by
  have h : ∀ k, k ≤ m → ((List.range k).map (chunk n bs)).flatten = bs.take (k * n) := by
    intro k
    induction k with
    | zero => intro _; simp
    | succ k ih =>
      intro hk
      rw [List.range_succ, List.map_append, List.flatten_append, ih (by omega)]
      simp only [List.map_cons, List.map_nil, List.flatten_cons, List.flatten_nil, List.append_nil]
      unfold chunk
      rw [Nat.add_mul, Nat.one_mul, List.take_add]
  have := h m (Nat.le_refl _)
  unfold chunks
  rw [this, ← hb, List.take_length]

set_option maxRecDepth 100000 in
set_option maxHeartbeats 4000000 in
theorem diskOpens_walk (w : World) (n : Int) (v : Value) (bs : List Int) (hv : Bys w (Lower w.heap.size) v bs) (hl : bs.length ≤ maxLen) :
    Calls Try.prog 4 #[.int .i64 n, v] w (Holds w) := by
  obtain ⟨A, c, rfl⟩ := hv.form
  have HV := Lib.hid hv
  unfold maxLen at hl
  clear hv
  by_cases h200 : (200 : Int) < (bs.length : Int)
  · go_enter Try.func4, Try.ntmps4
    go_wp2_with fail
    refine (awake_any w).mono ?_
    rintro e w1 ⟨rfl, hk1⟩
    have HK1 := Lib.hid hk1
    clear hk1
    go_wp2_with fail
    go_ret
    exact ⟨rfl, HK1.out.all⟩
  by_cases hbad : n < 1 ∨ 4096 < n ∨ (bs.length : Int) % n ≠ 0
  · have HBAD := Lib.hid hbad
    clear hbad
    go_enter Try.func4, Try.ntmps4
    go_wp2_with fail
    refine (awake_any w).mono ?_
    rintro e w1 ⟨rfl, hk1⟩
    have HK1 := Lib.hid hk1
    clear hk1
    go_wp2_with fail
    refine (open_no w1 n A bs.length c (by omega) HBAD.out).mono ?_
    rintro e w2 ⟨rfl, hk2⟩
    have HK2 := Lib.hid (HK1.out.trans hk2)
    clear hk2
    go_wp2_with fail
    refine (refOpen_no w2 n A bs.length c (by omega) HBAD.out).mono ?_
    rintro e w3 ⟨rfl, rfl⟩
    go_wp2_with fail
    go_ret
    exact ⟨rfl, HK2.out.all⟩
  obtain ⟨N, m, rfl, hN0, hN1, hNm, hm⟩ : ∃ N m : Nat, n = (N : Int) ∧ 1 ≤ N ∧ N ≤ 4096 ∧ bs.length = m * N ∧ m ≤ 200 := by
    obtain ⟨N, rfl⟩ := Int.eq_ofNat_of_zero_le (show 0 ≤ n by omega)
    have h0 : bs.length % N = 0 := by omega
    have hd := Nat.div_add_mod bs.length N
    have hN : 1 ≤ N := by omega
    refine ⟨N, bs.length / N, rfl, hN, by omega, ?_, ?_⟩
    · rw [Nat.mul_comm]; omega
    · have := Nat.div_le_self bs.length N
      omega
  have HNM := Lib.hid hNm
  clear hbad hNm
  go_enter Try.func4, Try.ntmps4
  go_wp2_with fail
  refine (awake_any w).mono ?_
  rintro e w1 ⟨rfl, hk1⟩
  have HK1 := Lib.hid hk1
  have HV1 := Lib.hid (HV.out.keeps hk1 (fun _ _ _ h => h))
  clear hk1
  go_wp2_with fail
  refine (open_ok w1 _ N m _ bs HV1.out hN0 hN1 HNM.out (by omega)).mono ?_
  rintro e w2 ⟨p, rfl, hd2, hk2⟩
  obtain ⟨l, hll⟩ : ∃ l, chunks N m bs = l := ⟨_, rfl⟩
  have HLL := Lib.hid (show l.length = m by rw [← hll]; simp [chunks])
  have HLF := Lib.hid (show l.flatten = bs by rw [← hll]; exact chunks_flat HNM.out)
  rw [hll] at hd2
  obtain ⟨F, hF⟩ : ∃ F, Grow No w1 w2 = F := ⟨_, rfl⟩
  have HFN := Lib.hid (show ∀ b, F b → w1.heap.size ≤ b ∧ b < w2.heap.size by
    intro b hb
    rw [← hF] at hb
    rcases hb with hb | hb
    · exact hb.elim
    · exact hb)
  rw [hF] at hd2
  have HD2 := Lib.hid hd2
  have HK2 := Lib.hid (HK1.out.trans hk2)
  have HV2 := Lib.hid (HV1.out.keeps hk2 (fun _ _ _ h => h))
  clear hd2 hk2 hF
  go_wp2_with fail
  refine (refOpen_ok w2 _ N m _ bs HV2.out hN0 hN1 HNM.out (by omega)).mono ?_
  rintro e w3 ⟨q, rfl, hr3, hk3⟩
  rw [hll] at hr3
  obtain ⟨G, hG⟩ : ∃ F, Grow No w2 w3 = F := ⟨_, rfl⟩
  have HGN := Lib.hid (show ∀ b, G b → w2.heap.size ≤ b ∧ b < w3.heap.size by
    intro b hb
    rw [← hG] at hb
    rcases hb with hb | hb
    · exact hb.elim
    · exact hb)
  rw [hG] at hr3
  obtain ⟨lastV, lv, cachV, cv, planV, hin⟩ := hr3
  have hll' : (rfresh N l).last = l := rfl
  obtain ⟨AL, cL, rfl⟩ := row_slice hin.row
  rw [hll', HLL.out] at hin
  have c1 := hin.c1
  have HR3 := Lib.hid hin
  have HD3 := Lib.hid (HD2.out.keeps hk3 (fun _ _ h => h))
  have HK3 := Lib.hid (HK2.out.trans hk3)
  have HV3 := Lib.hid (HV2.out.keeps hk3 (fun _ _ _ h => h))
  clear hin hk3 hG hll hll'
  go_wp2_with fail
  have HD3' := Lib.hid (HD3.out.keeps ((Keeps.refl No w3).drew) (fun _ _ h => h))
  have HV3' := Lib.hid (HV3.out.keeps ((Keeps.refl No w3).drew) (fun _ _ _ h => h))
  have HLB := Lib.hid (show l.length ≤ 4096 by have := HLL.out; omega)
  have hnil : ∀ (w : World) (b : Nat), (binOp .eql 25 (.pointer (some ⟨b, 0, none⟩)) (.pointer none)).run Try.prog w = .ok (.bool false) w := fun w b => by kernel_rfl
  go_region_held3 (fun w' => w'.cell? ⟨q, 1, none⟩ = some (.slice AL m cL)) (first | exact Z4.out | go_keep) (first
    | (go_at_call 25; refine (sectors_any w3.drew p F _ HD3'.out).mono ?_; rintro e w' ⟨rfl, rfl⟩; rw [show ((fresh N l).last.length : Int) = (m : Int) from congrArg Int.ofNat HLL.out])
    | (go_at_call 26; refine (size_any w3.drew p F _ HD3'.out).mono ?_; rintro e w' ⟨rfl, rfl⟩; rw [show ((fresh N l).size : Int) = (N : Int) from rfl])
    | (go_at_call 23; refine (bytes_any w3.drew p F _ HD3'.out HLB.out hN1).mono ?_; rintro e w4 ⟨v4, rfl, hv4, hk4⟩
       rw [show (fresh N l).last.flatten = bs from HLF.out] at hv4
       obtain ⟨A4, c4, rfl⟩ := Bys.form hv4
       have HV4 := Lib.hid hv4
       have HK4 := Lib.hid hk4
       have HW4 := Lib.hid (HV3'.out.keeps hk4 (fun _ _ _ h => h))
       have Z4 := Lib.hid ((hk4.cell (w := w3.drew) HR3.out.blk.lt (fun h => h)).trans c1)
       clear hv4 hk4)
    | (go_at_call 17; refine (same_any w4 _ _ _ _ bs bs HV4.out.bys HW4.out (by omega) (by omega)).mono ?_; rintro e w5 ⟨rfl, n5, rfl⟩; rw [show decide (bs = bs) = true by simp]))
  obtain ⟨w5, hw5⟩ : ∃ x, w4.drewN n5 = x := ⟨_, rfl⟩
  have hk5 : Keeps No w3 w5 := by rw [← hw5]; exact HK4.out.of_drew.drewN n5
  rw [hw5]
  have HD5 := Lib.hid (show DiskAt Try.prog w5 p F (ticked N l 0) from HD3.out.keeps hk5 (fun _ _ h => h))
  have HR5 := Lib.hid (HR3.out.keep (w' := w5) (fun b hb => hk5.block b (HR3.out.there b hb) (fun h => h)) hk5.size)
  have HK5 := Lib.hid (HK3.out.trans hk5)
  have HS5 := Lib.hid hk5.size
  clear hw5 hk5 c1 hnil HD3 HD3' HV3 HV3' HV4 HW4 HK4 Z4 HR3 HK3 HV2 HD2 HV1
  have HFW := Lib.hid (show ∀ b, F b → w.heap.size ≤ b from fun b hb => Nat.le_trans HK1.out.size (HFN.out b hb).1)
  have HAP := Lib.hid (show ∀ b, G b → ¬ F b from fun b hb hF => by have := HGN.out b hb; have := HFN.out b hF; omega)
  go_wp2_with fail
  go_loopw [9] (fun i wr => ∃ k : Nat, k ≤ m ∧ i = .int .i64 k ∧ DiskAt Try.prog wr p F (ticked N l k) ∧ Keeps F w5 wr) (fun i _ => m - (intOf i).toNat)
  case atStart => exact ⟨0, Nat.zero_le _, rfl, HD5.out, Keeps.refl _ _⟩
  case round =>
    obtain ⟨k, hk, rfl, hd, hkk⟩ := hrel
    have HD := Lib.hid hd
    have HKK := Lib.hid hkk
    have hr := HR5.out.keep (w' := wr) (fun b hb => hkk.block b (HR5.out.there b hb) (fun h => HAP.out b hb h)) hkk.size
    have c1 := hr.c1
    have HR := Lib.hid hr
    clear hd hkk
    by_cases hlt : k < m
    · have hrow : wr.ownsRow 0 31 1 (.slice AL m cL) m lv := by
        have := hr.row
        rwa [show (rfresh N l).last.length = m from HLL.out] at this
      obtain ⟨g, c', cur, e, hmc, hblk, hcell⟩ := row_cell_ hrow hlt
      simp only [Value.slice.injEq, true_and] at e
      obtain ⟨rfl, rfl⟩ := e
      have hsect := hr.sect k (by rw [show (rfresh N l).last.length = m from HLL.out]; exact hlt)
      have hx : (rfresh N l).last.getD k [] = l.getD k [] := rfl
      rw [hx] at hsect
      obtain ⟨x, hxx⟩ : ∃ x, l.getD k [] = x := ⟨_, rfl⟩
      rw [hxx] at hsect
      have HXL := Lib.hid (show x.length ≤ 4096 by
        have := hr.lens k (by rw [show (rfresh N l).last.length = m from HLL.out]; exact hlt)
        rw [hx, hxx] at this
        rw [this]
        exact hN1)
      obtain ⟨Ax, cx, hvx⟩ := Bys.form hsect
      rw [hvx] at hcell hsect
      have HX := Lib.hid hsect
      have HRD := Lib.hid (show St.read (ticked N l k) (k : Int) = (x, 0) by rw [ticked_read N l k k (by rw [HLL.out]; exact hlt), hxx])
      have HC := Lib.hid hcell
      have hk0 : (0 : Int) ≤ (k : Int) := by omega
      have hk1 : (k : Int) < (m : Int) := by omega
      have HBG := Lib.hid (show Blk wr g 31 cur from hblk)
      clear hr hx hxx hvx hsect hrow hblk
      go_wp2_with fail
      refine (read_any wr p F _ (k : Int) HD.out (by show k < 1000000; omega) HLB.out hN1).mono ?_
      rintro e w6 ⟨v6, rfl, hv6, hd6, hk6⟩
      rw [HRD.out] at hv6 ⊢
      rw [ticked_tick] at hd6
      obtain ⟨A6, c6, rfl⟩ := Bys.form hv6
      have HV6 := Lib.hid hv6
      have HD6 := Lib.hid hd6
      have HK6 := Lib.hid (HKK.out.trans hk6)
      have hgb := HR.out.frow g rfl
      have hq6 := (hk6.cell (b := q) (o := 1) HR.out.blk.lt (fun h => HAP.out q HR.out.fq h)).trans c1
      have hg6 := (hk6.cell (b := g) (o := k) HBG.out.lt (fun h => HAP.out g hgb h)).trans HC.out
      have HX6 := Lib.hid (HX.out.keeps hk6 (fun b hb h => HAP.out b hb.1 h))
      clear hv6 hd6 hk6 c1 hcell hgb
      go_wp2_with fail
      refine (same_any w6 _ _ _ _ x x HV6.out.bys HX6.out.bys (by have := HXL.out; omega) (by have := HXL.out; omega)).mono ?_
      rintro e w7 ⟨rfl, n7, rfl⟩
      rw [show decide (x = x) = true by simp]
      have hkq : Keeps No w6 (w6.drewN n7) := (Keeps.refl No w6).drewN n7
      have R := Lib.hid (HD6.out.keeps hkq (fun _ _ h => h))
      have R2 := Lib.hid (HK6.out.trans hkq.no)
      clear hq6 hg6 hkq
      generalize w6.drewN n7 = w7 at *
      go_wp2_with fail
      go_roundw
      case rel => exact ⟨k + 1, by omega, by go_num, R.out, R2.out⟩
      case measure => simp [intOf]; omega
    · obtain rfl : k = m := by omega
      have HRD := Lib.hid (show St.read (ticked N l k) (k : Int) = ([], 2) by have := ticked_out N l k; rwa [HLL.out] at this)
      clear hr
      go_wp2_with fail
      refine (read_any wr p F _ (k : Int) HD.out (by show k < 1000000; omega) HLB.out hN1).mono ?_
      rintro e w6 ⟨v6, rfl, hv6, hd6, hk6⟩
      rw [HRD.out] at hv6 ⊢
      obtain ⟨A6, c6, rfl⟩ := Bys.form hv6
      have HK6 := Lib.hid (HK5.out.then (HKK.out.trans hk6) (fun b hb => .inr (HFW.out b hb)))
      clear hv6 hd6 hk6 c1
      go_wp2_with fail
      go_ret
      exact ⟨rfl, HK6.out.all⟩
end Go.Proofs.Ytconholnjhjhcaa
