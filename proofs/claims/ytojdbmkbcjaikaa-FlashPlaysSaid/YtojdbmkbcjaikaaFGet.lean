/-
  THE WALKS OF (*Chip).Left, Waits, Bytes, Cut.
-/
import Derived.Test.YtojdbmkbcjaikaaFRead
import Derived.Test.YtojdbmkbcjaikaaCFun
namespace Go.Proofs.Ytojdbmkbcjaikaa
open Go.RowKit
set_option maxRecDepth 20000

theorem left_any (w : World) (p d cap : Nat) (s : Flash) (h : ChipAt w p d cap s) :
    Calls Try.prog 21 #[.pointer (some ⟨p, 0, none⟩)] w fun e w' => e = .returned (.int .i64 s.left) ∧ w = w' := by
  obtain ⟨nx, hh, _⟩ := h
  have c3 := hh.blk.cell 3
  simp only [cellsOf, List.getElem?_toArray, List.getElem?_cons_zero, List.getElem?_cons_succ] at c3
  clear hh
  go_enter Try.func21, Try.ntmps21
  go_wp2_with fail
  go_ret
  exact ⟨rfl, rfl⟩
abbrev Flash.waits (s : Flash) : Value := .agg #[.int .i64 s.wk, .int .i64 s.wf, .int .i64 s.wm, .int .u8 s.wv]
theorem waits_any (w : World) (p d cap : Nat) (s : Flash) (h : ChipAt w p d cap s) :
    Calls Try.prog 22 #[.pointer (some ⟨p, 0, none⟩)] w fun e w' => e = .returned s.waits ∧ Below w.heap.size w w' := by
  obtain ⟨nx, hh, _⟩ := h
  have hlt := hh.blk.lt
  have c4 := hh.blk.cell 4
  have c5 := hh.blk.cell 5
  have c6 := hh.blk.cell 6
  have c7 := hh.blk.cell 7
  simp only [cellsOf, List.getElem?_toArray, List.getElem?_cons_zero, List.getElem?_cons_succ] at c4 c5 c6 c7
  clear hh
  go_enter Try.func22, Try.ntmps22
  go_wp2_with fail
  go_returns
  exact ⟨rfl, below_box w _⟩
theorem bytes_any (w : World) (p d cap : Nat) (s : Flash) (h : ChipAt w p d cap s) (hok : s.Ok) :
    Calls Try.prog 24 #[.pointer (some ⟨p, 0, none⟩)] w fun e w' => ∃ v, e = .returned v ∧ OwnK .u8 5 w.heap.size w' v s.data ∧ Below w.heap.size w w' := by
  obtain ⟨nx, hh, _⟩ := h
  have c0 := hh.blk.cell 0
  simp only [cellsOf, List.getElem?_toArray, List.getElem?_cons_zero] at c0
  have HN := Lib.hid (hh.data.nums_at (fun v hv => byte_wf (hok.byte v hv))).1
  have hlen := hok.len.2
  clear hh
  go_enter Try.func24, Try.ntmps24
  go_wp2_with fail
  refine (clone_any w _ _ _ _ s.data HN.out (Nat.le_refl _) (by omega)).mono ?_
  rintro e w1 ⟨v, rfl, h1, h2⟩
  have H1 := Lib.hid h1
  have H2 := Lib.hid h2
  clear h1 h2
  go_wp2_with fail
  go_ret
  exact ⟨_, rfl, H1.out, H2.out⟩
/-- what is left when power fails -/
def Flash.cut (s : Flash) (ps : List Int) : List Int := if s.wk = 2 then cellsL s.data (rowL s.wf s.wm) ps else if s.wk = 1 ∧ 0 < ps.length then progL s.data s.wf (ps.getD 0 0) else s.data
theorem Flash.cut_len (s : Flash) (ps : List Int) : (s.cut ps).length = s.data.length := by
  unfold Flash.cut
  split
  · exact cellsL_len _ _ _
  · split
    · exact progL_len _ _ _
    · rfl
set_option maxRecDepth 100000 in
set_option maxHeartbeats 4000000 in
theorem cut_any (w : World) (p d cap : Nat) (s : Flash) (P : Option Addr) (m cp B : Nat) (ps : List Int) (h : ChipAt w p d cap s) (hok : s.Ok) (hp : Nums .u8 w B P m ps) (hB : B ≤ w.heap.size) (hcp : m ≤ cp) (hcx : cp ≤ maxLen) :
    Calls Try.prog 25 #[.pointer (some ⟨p, 0, none⟩), .slice P m cp] w (Gives w s.data.length (s.cut ps)) := by
  have HC := Lib.hid h
  have HO := Lib.hid hok
  obtain ⟨nx, hh, _⟩ := h
  have hlt := hh.blk.lt
  have c0 := hh.blk.cell 0
  have c4 := hh.blk.cell 4
  have c5 := hh.blk.cell 5
  have c6 := hh.blk.cell 6
  have c7 := hh.blk.cell 7
  simp only [cellsOf, List.getElem?_toArray, List.getElem?_cons_zero, List.getElem?_cons_succ] at c0 c4 c5 c6 c7
  have HD := Lib.hid (hh.data.nums_at (fun v hv => byte_wf (hok.byte v hv))).1
  have HP := Lib.hid hp
  have HPL := Lib.hid hp.1
  have HCP := Lib.hid hcp
  have HCX := Lib.hid hcx
  have HLEN := Lib.hid hok.len.2
  obtain ⟨n, hn⟩ : ∃ n, s.data.length = n := ⟨_, rfl⟩
  rw [hn] at c0 HD HLEN ⊢
  have HN := Lib.hid hn
  have hbb := below_box w (.cells #[.int .i64 s.wk, .int .i64 s.wf, .int .i64 s.wm, .int .u8 s.wv] 39)
  have HBB := Lib.hid hbb
  have HBD := Lib.hid (hbb.trans ((below_drew _).mono (by simp)))
  by_cases h2 : s.wk = 2
  · have HQ := Lib.hid (show s.cut ps = cellsL s.data (rowL s.wf s.wm) ps from if_pos h2)
    have hm9 : s.wm ≤ 9223372036854775807 := by
      have := hok.left
      have := hok.len.2
      rcases Int.lt_or_le 0 s.left with hl | hl
      · have := (hok.works hl).2; omega
      · have := (hok.rest (by omega)); omega
    have HM9 := Lib.hid hm9
    have e2 : (s.wk == 2) = true := by simp [h2]
    clear hh hok hp hcp hcx hn hm9 h2 hbb
    go_enter Try.func25, Try.ntmps25
    go_wp2_with fail
    go_region_with (go_at_call 46; refine (range_any _ P n cap m cp (min w.heap.size w.heap.size) s.wf s.wm s.data ps _ (by rw [Nat.min_self]; exact HD.out.below HBD.out) (by rw [Nat.min_self]; exact (HP.out.mono hB).below HBD.out) (by simp) (by have := HLEN.out; omega) HM9.out HCP.out HCX.out).mono ?_; rintro e w1 ⟨A1, c1, rfl, h3, h4, h5⟩)
    all_goals
      have H3 := Lib.hid h3
      have H4 := Lib.hid (h4.mono (base' := w.heap.size) (by simp))
      have H5 := Lib.hid (HBD.out.trans (h5.mono (by simp)))
      clear h3 h4 h5
      go_wp2_with fail
      go_ret
      rw [HQ.out]
      exact ⟨_, _, rfl, H3.out, H4.out, H5.out⟩
  · have e2 : (s.wk == 2) = false := by simp [h2]
    by_cases h1 : s.wk = 1
    · have e1 : (s.wk == 1) = true := by simp [h1]
      by_cases h0 : 0 < m
      · have HQ := Lib.hid (show s.cut ps = progL s.data s.wf (ps.getD 0 0) by unfold Flash.cut; rw [if_neg h2, if_pos ⟨h1, by rw [HPL.out]; exact h0⟩])
        have h0' : (0 : Int) < (m : Int) := by omega
        obtain ⟨bp, op, rfl, hbB, hbc⟩ := hp.2.2 h0
        have hbp := hbc 0 h0
        have hblt : bp < w.heap.size := by omega
        clear hbc hbB
        obtain ⟨y, hy⟩ : ∃ y, ps.getD 0 0 = y := ⟨_, rfl⟩
        rw [hy] at hbp HQ
        rw [Nat.add_zero] at hbp
        clear hh hok hp hcp hcx hn h1 h2 hbb hy
        go_enter Try.func25, Try.ntmps25
        go_wp2_with fail
        go_region_with (go_at_call 47; refine (program_any _ n cap w.heap.size s.wf y s.data _ (HD.out.below HBD.out) (by simp) (by have := HLEN.out; omega)).mono ?_; rintro e w1 ⟨A1, c1, rfl, h3, h4, h5⟩)
        all_goals
          have H3 := Lib.hid h3
          have H4 := Lib.hid (h4.mono (base' := w.heap.size) (by simp))
          have H5 := Lib.hid (HBD.out.trans (h5.mono (by simp)))
          clear h3 h4 h5
          go_wp2_with fail
          go_ret
          rw [HQ.out]
          exact ⟨_, _, rfl, H3.out, H4.out, H5.out⟩
      · have HQ := Lib.hid (show s.cut ps = s.data by unfold Flash.cut; rw [if_neg h2, if_neg (fun e => h0 (by rw [← HPL.out]; exact e.2))])
        have hm0 : m = 0 := by omega
        subst hm0
        clear hh hok hp hcp hcx hn h1 h2 hbb
        go_enter Try.func25, Try.ntmps25
        go_wp2_with fail
        refine (bytes_any _ p d cap s (HC.out.below HBB.out) HO.out).mono ?_
        rintro e w1 ⟨v, rfl, h3, h4⟩
        obtain ⟨A1, c1, rfl, h5, h6⟩ := h3.mine
        rw [HN.out] at h5 h6 ⊢
        have H5 := Lib.hid h5
        have H6 := Lib.hid (h6.mono (base' := w.heap.size) (by simp))
        have H4 := Lib.hid (HBB.out.trans (h4.mono (by simp)))
        clear h3 h4 h5 h6
        go_wp2_with fail
        go_ret
        rw [HQ.out]
        exact ⟨_, _, rfl, H5.out, H6.out, H4.out⟩
    · have e1 : (s.wk == 1) = false := by simp [h1]
      have HQ := Lib.hid (show s.cut ps = s.data by unfold Flash.cut; rw [if_neg h2, if_neg (fun e => h1 e.1)])
      clear hh hok hp hcp hcx hn h1 h2 hbb
      go_enter Try.func25, Try.ntmps25
      go_wp2_with fail
      refine (bytes_any _ p d cap s (HC.out.below HBB.out) HO.out).mono ?_
      rintro e w1 ⟨v, rfl, h3, h4⟩
      obtain ⟨A1, c1, rfl, h5, h6⟩ := h3.mine
      rw [HN.out] at h5 h6 ⊢
      have H5 := Lib.hid h5
      have H6 := Lib.hid (h6.mono (base' := w.heap.size) (by simp))
      have H4 := Lib.hid (HBB.out.trans (h4.mono (by simp)))
      clear h3 h4 h5 h6
      go_wp2_with fail
      go_ret
      rw [HQ.out]
      exact ⟨_, _, rfl, H5.out, H6.out, H4.out⟩
end Go.Proofs.Ytojdbmkbcjaikaa
