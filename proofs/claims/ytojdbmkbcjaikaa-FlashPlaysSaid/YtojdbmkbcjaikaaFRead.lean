/-
  THE WALKS OF (*Chip).status, Read, Left, Waits, Bytes.
-/
import Derived.Test.YtojdbmkbcjaikaaFTick
import Derived.Test.YtojdbmkbcjaikaaFCmd
import Derived.Test.YtojdbmkbcjaikaaBClone
namespace Go.Proofs.Ytojdbmkbcjaikaa
open Go.RowKit
set_option maxRecDepth 20000

theorem turn_bits {t : Int} (ht : t = 0 ∨ t = 64) : bits .xor .u8 t 64 = 64 - t := by
  rcases ht with rfl | rfl <;> decide
theorem status_bits {t v : Int} (ht : t = 0 ∨ t = 64) (hv : 0 ≤ v ∧ v ≤ 255) : bits .or .u8 t (bits .and .u8 (bits .xor .u8 IntKind.u8.max v) 128) = if v < 128 then t + 128 else t := by
  obtain ⟨n, rfl⟩ := Int.eq_ofNat_of_zero_le hv.1
  have h0 : ∀ n : Nat, n < 256 → bits .or .u8 0 (bits .and .u8 (bits .xor .u8 IntKind.u8.max (n : Int)) 128) = if (n : Int) < 128 then (0 : Int) + 128 else 0 := by decide +kernel
  have h1 : ∀ n : Nat, n < 256 → bits .or .u8 64 (bits .and .u8 (bits .xor .u8 IntKind.u8.max (n : Int)) 128) = if (n : Int) < 128 then (64 : Int) + 128 else 64 := by decide +kernel
  rcases ht with rfl | rfl
  · exact h0 n (by omega)
  · exact h1 n (by omega)
set_option maxHeartbeats 4000000 in
theorem status_any (w : World) (p d cap : Nat) (s : Flash) (h : ChipAt w p d cap s) (hok : s.Ok) (hl : 0 < s.left) :
    Calls Try.prog 42 #[.pointer (some ⟨p, 0, none⟩)] w fun e w' => e = .returned (.int .u8 s.status) ∧ Went p d cap s.read w w' := by
  obtain ⟨nx, hh, hs⟩ := h
  have c4 := hh.blk.cell 4
  have c7 := hh.blk.cell 7
  have c8 := hh.blk.cell 8
  have f8 := hh.blk.frozen 8
  simp only [cellsOf, List.getElem?_toArray, List.getElem?_cons_zero, List.getElem?_cons_succ] at c4 c7 c8
  have hw := (hok.works hl).1
  have ht := hok.turn
  have hv := hok.val
  have HR := Lib.hid (show s.read = { s with turn := 64 - s.turn } from if_pos hl)
  have HH := Lib.hid hh
  have HS := Lib.hid hs
  obtain ⟨t, htt⟩ : ∃ t, s.turn = t := ⟨_, rfl⟩
  obtain ⟨v, hvv⟩ : ∃ v, s.wv = v := ⟨_, rfl⟩
  rw [htt] at c8 ht HR
  rw [hvv] at c7 hv
  have HT := Lib.hid htt
  have HV := Lib.hid hvv
  clear hh hs htt hvv hok hl
  obtain ⟨h1, h2⟩ := HH.out.sets (nx' := nx) (s' := { s with turn := 64 - t }) [(8, .int .u8 (64 - t))] rfl rfl
  have H1 := Lib.hid h1
  have H2 := Lib.hid h2
  have HTB := Lib.hid (turn_bits ht)
  clear h1 h2
  by_cases hk : s.wk = 1
  · have HSB := Lib.hid (show bits .or .u8 t (bits .and .u8 (bits .xor .u8 IntKind.u8.max v) 128) = s.status by rw [status_bits ht hv]; unfold Flash.status; rw [HT.out, HV.out]; simp only [hk, true_and])
    rw [hk] at c4
    clear hw hv ht
    go_enter Try.func42, Try.ntmps42
    go_wp2_with fail
    go_ret
    rw [HTB.out, HSB.out, HR.out]
    exact ⟨rfl, ⟨_, H1.out, HS.out.keep H2.out HH.out.plain⟩, H2.out⟩
  · have HSB := Lib.hid (show t = s.status by unfold Flash.status; rw [if_neg (fun e => hk e.1), HT.out])
    have hk2 : s.wk = 2 := by omega
    rw [hk2] at c4
    clear hw hv ht
    go_enter Try.func42, Try.ntmps42
    go_wp2_with fail
    go_ret
    rw [HTB.out, ← HSB.out, HR.out]
    exact ⟨rfl, ⟨_, H1.out, HS.out.keep H2.out HH.out.plain⟩, H2.out⟩
set_option maxHeartbeats 4000000 in
theorem read_any (w : World) (p d cap : Nat) (s : Flash) (a : Int) (h : ChipAt w p d cap s) (hok : s.Ok) :
    Calls Try.prog 17 #[.pointer (some ⟨p, 0, none⟩), .int .i64 a] w fun e w' => e = .returned (.int .u8 (s.tell a)) ∧ Went p d cap s.read w w' := by
  have HC := Lib.hid h
  obtain ⟨nx, hh, hs⟩ := h
  have c0 := hh.blk.cell 0
  have c2 := hh.blk.cell 2
  have c3 := hh.blk.cell 3
  simp only [cellsOf, List.getElem?_toArray, List.getElem?_cons_zero, List.getElem?_cons_succ] at c0 c2 c3
  have HH := Lib.hid hh
  have HO := Lib.hid hok
  have hpl := hok.place a
  obtain ⟨b, hb⟩ : ∃ b, s.place a = b := ⟨_, rfl⟩
  rw [hb] at hpl
  have HP := Lib.hid hb
  obtain ⟨hp0, hp1⟩ := hpl
  have hlen := hok.len.2
  clear hh hs hok hb
  by_cases hl : 0 < s.left
  · have HT := Lib.hid (show s.tell a = s.status from if_pos hl)
    have HST := Lib.hid (status_any w p d cap s HC.out HO.out hl)
    clear c0 c2
    go_enter Try.func17, Try.ntmps17
    go_wp2_with fail
    refine (address_any w p d cap _ s a HH.out).mono ?_
    rintro e w1 ⟨rfl, rfl⟩
    go_wp2_with fail
    refine HST.out.mono ?_
    rintro e w1 ⟨rfl, hz⟩
    have HZ := Lib.hid hz
    clear hz
    go_wp2_with fail
    go_ret
    rw [HT.out]
    exact ⟨rfl, HZ.out⟩
  · have HR := Lib.hid (show s.read = s from if_neg hl)
    by_cases hn : s.named = true
    · rw [hn] at c2
      by_cases he : b % 2 = 0
      · have HT := Lib.hid (show s.tell a = 191 by unfold Flash.tell; rw [if_neg hl, if_pos hn, HP.out, if_pos he])
        have he' : (b % 2 == 0) = true := by simp [he]
        clear c0 he
        go_enter Try.func17, Try.ntmps17
        go_wp2_with fail
        refine (address_any w p d cap _ s a HH.out).mono ?_
        rintro e w1 ⟨rfl, rfl⟩
        rw [HP.out]
        go_wp2_with fail
        go_ret
        rw [HT.out, HR.out]
        exact ⟨rfl, HC.out.went⟩
      · have HT := Lib.hid (show s.tell a = s.data.length / 256 by unfold Flash.tell; rw [if_neg hl, if_pos hn, HP.out, if_neg he]; rfl)
        have he' : (b % 2 == 0) = false := by simp [he]
        obtain ⟨n, hnn⟩ : ∃ n, s.data.length = n := ⟨_, rfl⟩
        rw [hnn] at c0 hp1 hlen HT
        clear he hnn
        go_enter Try.func17, Try.ntmps17
        go_wp2_with fail
        refine (address_any w p d cap _ s a HH.out).mono ?_
        rintro e w1 ⟨rfl, rfl⟩
        rw [HP.out]
        go_wp2_with fail
        go_ret
        rw [HT.out, HR.out]
        exact ⟨rfl, HC.out.went⟩
    · have hn' : s.named = false := by simpa using hn
      rw [hn'] at c2
      have HT := Lib.hid (show s.tell a = s.data.getD b.toNat 0 by unfold Flash.tell; rw [if_neg hl, if_neg hn, HP.out])
      obtain ⟨b, rfl⟩ := Int.eq_ofNat_of_zero_le hp0
      have hbl : b < s.data.length := by omega
      obtain ⟨q1, _⟩ := HH.out.cell b hbl
      rw [show ((b : Nat) : Int).toNat = b from Int.toNat_natCast b] at HT
      generalize s.data.getD b 0 = y at *
      obtain ⟨n, hnn⟩ : ∃ n, s.data.length = n := ⟨_, rfl⟩
      rw [hnn] at c0 hp1 hlen hbl
      clear hnn
      go_enter Try.func17, Try.ntmps17
      go_wp2_with fail
      refine (address_any w p d cap _ s a HH.out).mono ?_
      rintro e w1 ⟨rfl, rfl⟩
      rw [HP.out]
      go_wp2_with fail
      go_ret
      rw [HT.out, HR.out]
      exact ⟨rfl, HC.out.went⟩
end Go.Proofs.Ytojdbmkbcjaikaa
