/-
  THE WALKS OF THE DOCUMENT's New, (*Chip).Read.
-/
import Derived.Test.YtojdbmkbcjaikaaFRefAt
import Derived.Test.YtojdbmkbcjaikaaFNew
import Derived.IntWalk
namespace Go.Proofs.Ytojdbmkbcjaikaa
open Go.RowKit
set_option maxRecDepth 20000

set_option maxRecDepth 100000 in
set_option maxHeartbeats 4000000 in
theorem refRead_any (N : Nat) (w : World) (q : Nat) (s : Flash) (m : Nat) (a : Int) (h : RefAt N w q s m) (hok : s.Ok) (hm6 : m ≤ 1000000) :
    Calls Try.prog 18 #[.pointer (some ⟨q, 0, none⟩), .int .i64 a] w fun e w' => e = .returned (.int .u8 (s.tell a)) ∧ RefWent N q s.read (m + 1) w w' := by
  have HA := Lib.hid h
  obtain ⟨vd, vs, seq, rd, h1, hm, ht, hs, hp⟩ := h
  obtain ⟨Ad, cd, hvd⟩ := h1.data.form
  obtain ⟨As, cs, hvs⟩ := h1.seq.form
  subst hvd hvs
  have hpl := hok.place a
  have hlen := hok.len
  have HOK := Lib.hid hok
  obtain ⟨b, hb⟩ : ∃ b, max 0 a % (s.data.length : Int) = b := ⟨_, rfl⟩
  have hb' : s.place a = b := by rw [← hb]; unfold Flash.place Flash.size; rw [Int.max_comm]
  rw [hb'] at hpl
  obtain ⟨hb0, hb1⟩ := hpl
  have HPL := Lib.hid hb'
  obtain ⟨z, hz⟩ : ∃ z, s.data.length = z := ⟨_, rfl⟩
  have HZ := Lib.hid hz
  have HR := Lib.hid h1
  have HM := Lib.hid hm
  have HS := Lib.hid hs
  have HP := Lib.hid hp
  have c0 := h1.blk.cell 0
  have c1 := h1.blk.cell 1
  have c3 := h1.blk.cell 3
  have c4 := h1.blk.cell 4
  have f4 := h1.blk.frozen 4
  have c5 := h1.blk.cell 5
  have c8 := h1.blk.cell 8
  have c9 := h1.blk.cell 9
  simp only [refCells, List.getElem?_toArray, List.getElem?_cons_zero, List.getElem?_cons_succ] at c0 c1 c3 c4 c5 c8 c9
  rw [hz] at c1 c0 hb hb1 HR
  have hzn : (z : Int) ≠ 0 := by omega
  have hzm : ¬ z = 0 := by omega
  have hrd : (rd : Int) ≤ 1000000 := by omega
  by_cases hl : 0 < s.left
  · have HT := Lib.hid (show s.tell a = s.status from if_pos hl)
    have HRD := Lib.hid (show s.read = { s with turn := 64 - s.turn } from if_pos hl)
    have htu := ht hl
    have HTU := Lib.hid htu
    have HNX := Lib.hid (show 64 - s.turn = turnOf (rd + 1) by
      rw [htu]
      unfold turnOf
      rcases Nat.mod_two_eq_zero_or_one rd with h | h
      · rw [if_pos h, if_neg (by omega)]; rfl
      · rw [if_neg (by omega), if_pos (by omega)]; rfl)
    have HFIN := Lib.hid (show ∀ w', w.setCell ⟨q, 4, none⟩ (.int .i64 ((rd : Int) + 1)) = w' → RefWent N q s.read (m + 1) w w' from fun w' e => by
      subst e
      obtain ⟨h3, h4⟩ := HR.out.sets (s' := { s with turn := 64 - s.turn }) (vd' := .slice Ad z cd) (vs' := .slice As seq.length cs) (seq' := seq) (rd' := rd + 1) [(4, .int .i64 ((rd : Int) + 1))] HR.out.data HR.out.seq (by simp [refCells])
      rw [HRD.out]
      exact ⟨⟨_, _, _, _, h3, by have := HM.out; omega, fun _ => HNX.out, HS.out, HP.out⟩, h4⟩)
    clear h1 hm ht hs hp hok hlen hz hb' htu
    have tail : True := trivial
    rcases Nat.mod_two_eq_zero_or_one rd with hr2 | hr2
    · have HT0 := Lib.hid (show s.turn = 0 by rw [HTU.out]; unfold turnOf; rw [if_pos hr2])
      have e1 : ((rd : Int) % 2 == 1) = false := by simp; omega
      clear hr2 tail
      by_cases hk : s.wk = 1
      · have e2 : (s.wk == 1) = true := by simp [hk]
        by_cases hv : s.wv < 128
        · have HST := Lib.hid (show s.status = 128 by unfold Flash.status; rw [if_pos ⟨hk, hv⟩, HT0.out]; rfl)
          clear hk
          go_enter Try.func18, Try.ntmps18
          go_wp2_with fail
          go_ret
          rw [HT.out, HST.out]
          exact ⟨rfl, HFIN.out _ rfl⟩
        · have hv' : ¬ s.wv < 128 := hv
          have HST := Lib.hid (show s.status = 0 by unfold Flash.status; rw [if_neg (fun e => hv e.2), HT0.out])
          clear hk
          go_enter Try.func18, Try.ntmps18
          go_wp2_with fail
          go_ret
          rw [HT.out, HST.out]
          exact ⟨rfl, HFIN.out _ rfl⟩
      · have e2 : (s.wk == 1) = false := by simp [hk]
        have HST := Lib.hid (show s.status = 0 by unfold Flash.status; rw [if_neg (fun e => hk e.1), HT0.out])
        clear hk
        go_enter Try.func18, Try.ntmps18
        go_wp2_with fail
        go_ret
        rw [HT.out, HST.out]
        exact ⟨rfl, HFIN.out _ rfl⟩
    · have HT0 := Lib.hid (show s.turn = 64 by rw [HTU.out]; unfold turnOf; rw [if_neg (by omega)])
      have e1 : ((rd : Int) % 2 == 1) = true := by simp; omega
      clear hr2 tail
      by_cases hk : s.wk = 1
      · have e2 : (s.wk == 1) = true := by simp [hk]
        by_cases hv : s.wv < 128
        · have HST := Lib.hid (show s.status = 192 by unfold Flash.status; rw [if_pos ⟨hk, hv⟩, HT0.out]; rfl)
          clear hk
          go_enter Try.func18, Try.ntmps18
          go_wp2_with fail
          go_ret
          rw [HT.out, HST.out]
          exact ⟨rfl, HFIN.out _ rfl⟩
        · have hv' : ¬ s.wv < 128 := hv
          have HST := Lib.hid (show s.status = 64 by unfold Flash.status; rw [if_neg (fun e => hv e.2), HT0.out])
          clear hk
          go_enter Try.func18, Try.ntmps18
          go_wp2_with fail
          go_ret
          rw [HT.out, HST.out]
          exact ⟨rfl, HFIN.out _ rfl⟩
      · have e2 : (s.wk == 1) = false := by simp [hk]
        have HST := Lib.hid (show s.status = 64 by unfold Flash.status; rw [if_neg (fun e => hk e.1), HT0.out])
        clear hk
        go_enter Try.func18, Try.ntmps18
        go_wp2_with fail
        go_ret
        rw [HT.out, HST.out]
        exact ⟨rfl, HFIN.out _ rfl⟩
  · have HRD := Lib.hid (show s.read = s from if_neg hl)
    have HFIN := Lib.hid (show RefWent N q s.read (m + 1) w w by rw [HRD.out]; exact ⟨HA.out.more (Nat.le_succ _), Keeps.refl _ _⟩)
    have hl' : ¬ 0 < s.left := hl
    have hlen2 := hlen.2
    cases hn : s.named
    · have HT := Lib.hid (show s.tell a = s.data.getD b.toNat 0 by unfold Flash.tell; rw [if_neg hl, if_neg (by rw [hn]; decide), HPL.out])
      rw [hn] at c3
      obtain ⟨b, rfl⟩ := Int.eq_ofNat_of_zero_le hb0
      have hbz : b < z := by omega
      obtain ⟨hm9, _⟩ := h1.data.nums_at (fun v hv => byte_wf (hok.byte v hv))
      obtain ⟨bb, oo, rfl, hcc⟩ := hm9.cell (Below.refl _ w) b (by omega)
      rw [show ((b : Nat) : Int).toNat = b from Int.toNat_natCast b] at HT
      generalize s.data.getD b 0 = y at *
      clear h1 hm ht hs hp hok hlen hz hb' hm9 hn
      go_enter Try.func18, Try.ntmps18
      go_wp2_with fail
      go_ret
      rw [HT.out]
      exact ⟨rfl, HFIN.out⟩
    · rw [hn] at c3
      by_cases he : b % 2 = 0
      · have HT := Lib.hid (show s.tell a = 191 by unfold Flash.tell; rw [if_neg hl, if_pos hn, HPL.out, if_pos he])
        have he' : (b % 2 == 0) = true := by simp [he]
        clear h1 hm ht hs hp hok hlen hz hb' hn he
        go_enter Try.func18, Try.ntmps18
        go_wp2_with fail
        go_ret
        rw [HT.out]
        exact ⟨rfl, HFIN.out⟩
      · have HT := Lib.hid (show s.tell a = (z : Int) / 256 by unfold Flash.tell; rw [if_neg hl, if_pos hn, HPL.out, if_neg he]; unfold Flash.size; rw [hz])
        have he' : (b % 2 == 0) = false := by simp [he]
        obtain ⟨g, hg⟩ : ∃ g : Int, (z : Int) / 256 = g := ⟨_, rfl⟩
        have hg0 : 0 ≤ g := by omega
        have hg1 : g ≤ 64 := by omega
        rw [hg] at c0 HT
        clear h1 hm ht hs hp hok hlen hz hb' hn he hg
        go_enter Try.func18, Try.ntmps18
        go_wp2_with fail
        go_ret
        rw [HT.out]
        exact ⟨rfl, HFIN.out⟩
end Go.Proofs.Ytojdbmkbcjaikaa
