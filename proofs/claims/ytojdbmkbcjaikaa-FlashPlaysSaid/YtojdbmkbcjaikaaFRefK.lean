/-
  THE WALK OF THE DOCUMENT's (*Chip).Cut.
-/
import Derived.Test.YtojdbmkbcjaikaaFRefT
namespace Go.Proofs.Ytojdbmkbcjaikaa
open Go.RowKit
set_option maxRecDepth 20000

set_option maxRecDepth 100000 in
set_option maxHeartbeats 2000000 in
theorem refCut_any (N : Nat) (w : World) (q : Nat) (s : Flash) (mx : Nat) (P : Option Addr) (m cp B : Nat) (ps : List Int) (h : RefAt N w q s mx) (hok : s.Ok) (hp : Nums .u8 w B P m ps) (hB : B ≤ w.heap.size) (hm1 : m ≤ 1000) :
    Calls Try.prog 26 #[.pointer (some ⟨q, 0, none⟩), .slice P m cp] w fun e w' => ∃ v, e = .returned v ∧ OwnK .u8 5 w.heap.size w' v (s.cut ps) ∧ Below w.heap.size w w' := by
  obtain ⟨vd, vs, seq, rd, h1, _, _, _, _⟩ := h
  obtain ⟨Ad, cd, hvd⟩ := h1.data.form
  subst hvd
  have c1 := h1.blk.cell 1
  have c5 := h1.blk.cell 5
  have c6 := h1.blk.cell 6
  have c7 := h1.blk.cell 7
  simp only [refCells, List.getElem?_toArray, List.getElem?_cons_zero, List.getElem?_cons_succ] at c1 c5 c6 c7
  have hlt := h1.blk.lt
  have hlen := hok.len.2
  have HV := Lib.hid hp.byte
  have HPL := Lib.hid hp.1
  have HDR := Lib.hid (h1.data.nums_at (fun v hv => byte_wf (hok.byte v hv))).1
  have HPN := Lib.hid (hp.mono hB)
  have hkk := hok.left
  have hbd : (-1099511627776 ≤ s.wf ∧ s.wf ≤ 1099511627776) ∧ s.wm ≤ 9223372036854775807 := by
    rcases Int.lt_or_le 0 s.left with hl | hl
    · have := (hok.works hl).2; omega
    · have := (hok.rest (by omega)); omega
  have HBD := Lib.hid hbd
  obtain ⟨z, hz⟩ : ∃ z, s.data.length = z := ⟨_, rfl⟩
  have HZ := Lib.hid hz
  rw [hz] at c1 HDR hlen
  by_cases hk1 : s.wk = 1 ∧ 0 < m
  · obtain ⟨hk, hm0⟩ := hk1
    have hm0' : (0 : Int) < (m : Int) := by omega
    have hk' : (s.wk == 1) = true := by simp [hk]
    obtain ⟨bp, op, rfl, hbB, hbc⟩ := hp.2.2 hm0
    have hbp := hbc 0 hm0
    have hblt : bp < w.heap.size := by omega
    have HQ := Lib.hid (show s.cut ps = progL s.data s.wf (ps.getD 0 0) by unfold Flash.cut; rw [if_neg (by omega), if_pos ⟨hk, by rw [HPL.out]; exact hm0⟩])
    have HYB := Lib.hid (Flash.getD_in HV.out 0)
    obtain ⟨y, hy⟩ : ∃ y, ps.getD 0 0 = y := ⟨_, rfl⟩
    rw [hy] at hbp HQ HYB
    rw [Nat.add_zero] at hbp
    clear h1 hok hp hB hkk hbd hz hk hbB hbc hy
    go_enter Try.func26, Try.ntmps26
    go_wp2_with fail
    go_region_with (go_at_call 44; refine (refProgram_big Ad z cd w.heap.size s.wf y s.data _ (HDR.out.below (below_drewN (Below.refl _ w) 1)) HYB.out (Nat.le_refl _) (by omega)).mono ?_; rintro e w2 ⟨v2, rfl, h5, h6⟩)
    all_goals
      have HO5 := Lib.hid h5
      have HB6 := Lib.hid ((below_drewN (Below.refl _ w) 1).trans h6)
      clear h5 h6
      go_wp2_with fail
      go_ret
      rw [HQ.out]
      exact ⟨_, rfl, HO5.out, HB6.out⟩
  · by_cases hk2 : s.wk = 2
    · have HQ := Lib.hid (show s.cut ps = cellsL s.data (rowL s.wf s.wm) ps from if_pos hk2)
      have hk' : (s.wk == 1) = false := by simp; omega
      have hk2' : (s.wk == 2) = true := by simp [hk2]
      clear h1 hok hp hB hkk hbd hz hk1 hk2
      go_enter Try.func26, Try.ntmps26
      go_wp2_with fail
      go_region_with (go_at_call 45; refine (refRange_big Ad P z cd m cp w.heap.size s.wf s.wm s.data ps _ (HDR.out.below (below_drewN (Below.refl _ w) 1)) (HPN.out.below (below_drewN (Below.refl _ w) 1)) (Nat.le_refl _) (by omega) (by omega) HBD.out.1 HBD.out.2).mono ?_; rintro e w2 ⟨v2, rfl, h5, h6⟩)
      all_goals
        have HO5 := Lib.hid h5
        have HB6 := Lib.hid ((below_drewN (Below.refl _ w) 1).trans h6)
        clear h5 h6
        go_wp2_with fail
        go_ret
        rw [HQ.out]
        exact ⟨_, rfl, HO5.out, HB6.out⟩
    · have HQ := Lib.hid (show s.cut ps = s.data by unfold Flash.cut; rw [if_neg hk2, if_neg (by rw [HPL.out]; exact hk1)])
      have hk2' : (s.wk == 2) = false := by simp [hk2]
      obtain ⟨v', w', hrun, ho, hb⟩ := append_any elemB (w.alloc (.cells #[] 5)) w.heap.size 22 (.slice (some ⟨w.heap.size, 0, none⟩) 0 0) [] (own_empty .u8 5 _ w (Nat.le_refl _)) Ad z cd w.heap.size s.data (HDR.out.below (below_box w _)) (by simp; omega) (by simp)
      rw [List.nil_append] at ho
      have HO5 := Lib.hid ho
      have HRUN := Lib.hid hrun
      have HBB := Lib.hid ((below_box w (.cells #[] 5)).trans hb)
      have c1' : (w.alloc (.cells #[] 5)).cell? ⟨q, 1, none⟩ = some (.slice Ad z cd) := ((below_box w (.cells #[] 5)).cell (p := ⟨q, 1, none⟩) hlt).trans c1
      clear hrun ho hb h1 hok hp hB hkk hbd hz hk2
      by_cases hk : s.wk = 1
      · have hm0 : m = 0 := by omega
        subst hm0
        have hk' : (s.wk == 1) = true := by simp [hk]
        clear hk hk1
        go_enter Try.func26, Try.ntmps26
        go_wp2_with (at_builtin; refine Lib.wpList_append_run _ rfl _ _ _ _ rfl _ _ rfl rfl _ _ HRUN.out ?_)
        go_ret
        rw [HQ.out]
        exact ⟨_, rfl, HO5.out, HBB.out⟩
      · have hk' : (s.wk == 1) = false := by simp [hk]
        clear hk hk1
        go_enter Try.func26, Try.ntmps26
        go_wp2_with (at_builtin; refine Lib.wpList_append_run _ rfl _ _ _ _ rfl _ _ rfl rfl _ _ HRUN.out ?_)
        go_ret
        rw [HQ.out]
        exact ⟨_, rfl, HO5.out, HBB.out⟩
end Go.Proofs.Ytojdbmkbcjaikaa
