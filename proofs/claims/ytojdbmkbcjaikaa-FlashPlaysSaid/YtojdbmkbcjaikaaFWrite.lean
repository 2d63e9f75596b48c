/-
  THE WALK OF (*Chip).Write.
-/
import Derived.Test.YtojdbmkbcjaikaaFCmd
namespace Go.Proofs.Ytojdbmkbcjaikaa
open Go.RowKit
set_option maxRecDepth 20000

/-- a step's call, whatever it is -/
theorem exactStep_any (w : World) (p d cap : Nat) (nx : Value) (s : Flash) (a v : Int) (x y z : Nat) (fn : Fn) (fi cs : Array Value) (h : Held w p d cap nx s) (ha : 0 ≤ a ∧ a ≤ 1000000) (hk : s.k = 0 ∨ s.k = 1 ∨ s.k = 4 ∨ s.k = 5)
    (hx : Blk w x 5 #[.int .u8 (Flash.lowOf s.k)]) (hy : Blk w y 5 #[.int .u8 (Flash.valOf s.k)]) (hz : Blk w z 65 #[.func fn fi cs]) (hn : StepAt w (s.k + 1) (.func fn fi cs)) :
    Calls Try.prog 62 #[.pointer (some ⟨p, 0, none⟩), .int .i64 a, .int .u8 v, ptrV x, ptrV y, ptrV z] w (Nexts p d cap nx (s.put a v) w) := by
  have hp : s.put a v = s.exact a v := by unfold Flash.put; rw [if_neg (by omega), if_neg (by omega), if_neg (by omega)]
  rw [hp]
  by_cases e : a % 256 = Flash.lowOf s.k ∧ v = Flash.valOf s.k
  · refine (exact_yes w p a v _ _ x y z fn fi cs ha e hx hy hz).mono ?_
    rintro e' w' ⟨rfl, rfl⟩
    unfold Flash.exact
    rw [if_pos e]
    exact ⟨_, rfl, hn, h.next _, Keeps.refl _ _⟩
  · have : s.exact a v = s.ends v := if_neg e
    rw [this]
    exact exact_no w p d cap nx s a v _ _ x y z h ha e hx hy
theorem Held.store {w : World} {p d cap : Nat} {nx V : Value} {s : Flash} (h : Held w p d cap nx s) : Held (w.setCell ⟨p, 1, none⟩ V) p d cap V s ∧ Keeps (Its p d) w (w.setCell ⟨p, 1, none⟩ V) :=
  h.sets (nx' := V) (s' := s) [(1, V)] rfl rfl
set_option maxRecDepth 100000 in
set_option maxHeartbeats 4000000 in
theorem write_any (w : World) (p d cap : Nat) (s : Flash) (a v : Int) (h : ChipAt w p d cap s) (hok : s.Ok) (hv : 0 ≤ v ∧ v ≤ 255) :
    Calls Try.prog 15 #[.pointer (some ⟨p, 0, none⟩), .int .i64 a, .int .u8 v] w (Did p d cap (s.write a v) w) := by
  obtain ⟨nx, hh, hs⟩ := h
  have c3 := hh.blk.cell 3
  simp only [cellsOf, List.getElem?_toArray, List.getElem?_cons_zero, List.getElem?_cons_succ] at c3
  by_cases hl : s.left = 0
  · have HE := Lib.hid (show s.write a v = s.put (s.place a) v from if_pos hl)
    have hlt := hh.blk.lt
    have c1 := hh.blk.cell 1
    have f1 := hh.blk.frozen 1
    simp only [cellsOf, List.getElem?_toArray, List.getElem?_cons_zero, List.getElem?_cons_succ] at c1
    have hpl := hok.place a
    have hlen := hok.len
    obtain ⟨b, hb⟩ : ∃ b, s.place a = b := ⟨_, rfl⟩
    rw [hb] at HE hpl
    have HP := Lib.hid hb
    have hb9 : 0 ≤ b ∧ b ≤ 1000000 := by omega
    have HB := Lib.hid hb9
    have HD := Lib.hid (hh.below (below_drew w))
    have HS := Lib.hid (hs.below (below_drew w))
    have HKK := Lib.hid hok.k
    have HKP := Lib.hid (show (s.put b v).k ≤ 6 from (hok.put hpl hv).k)
    have hst : ∀ (fn : Fn) (first cap : Array Value) (a : Addr) (w : World), (store a (.func fn first cap)).run Try.prog w = stored Try.prog w a (.func fn first cap) .plain := fun _ _ _ _ _ => run_store _ _ _ _ _ rfl
    rw [hl] at c3
    clear hh hs hl hpl hlen hb hb9 hok hv
    rcases HS.out.cases HKK.out with ⟨hk, rfl⟩ | ⟨hk, rfl⟩ | ⟨hk, rfl⟩ | ⟨hk, x, y, z, fn, fi, cs, rfl, hx, hy, hz, hn⟩
    · have hq : s.put b v = s.command b v := if_pos hk
      have HCALL := Lib.hid (show Calls Try.prog 51 #[.pointer (some ⟨p, 0, none⟩), .int .i64 b, .int .u8 v] w.drew (Nexts p d cap cmdV (s.put b v) w.drew) by rw [hq]; exact command_any _ p d cap _ s b v HD.out HB.out)
      clear hq
      clear hk
      go_enter Try.func15, Try.ntmps15
      go_wp2_with fail
      go_region_with (first | (go_at_call 38; refine (address_any _ p d cap _ s a HD.out).mono ?_; rintro e' w3 ⟨rfl, rfl⟩; rw [HP.out]) | (go_at_call 51; refine HCALL.out.mono ?_; rintro e' w3 ⟨V, rfl, h1, h2, h3⟩; obtain ⟨fn', fi', cs', rfl⟩ := h1.func HKP.out; have f3 := h2.blk.frozen 1; have g3 := h2.blk.cell 1))
      all_goals
        have HN := Lib.hid h1
        have HH3 := Lib.hid h2
        have HK3 := Lib.hid h3
        clear h1 h2 h3 f3 g3
        go_end0
        rw [HE.out]
        obtain ⟨h4, h5⟩ := HH3.out.store (V := .func fn' fi' cs')
        exact ⟨rfl, ⟨_, h4, HN.out.keep h5 HH3.out.plain⟩, (Keeps.of_below (below_drew w)).no.trans (HK3.out.trans h5)⟩
    · have hq : s.put b v = s.busy 10 1 b 1 v := by unfold Flash.put; rw [if_neg (by omega), if_pos hk]
      have HCALL := Lib.hid (show Calls Try.prog 59 #[.pointer (some ⟨p, 0, none⟩), .int .i64 b, .int .u8 v] w.drew (Nexts p d cap progV (s.put b v) w.drew) by rw [hq]; exact program_any' _ p d cap _ s b v HD.out)
      clear hq
      clear hk
      go_enter Try.func15, Try.ntmps15
      go_wp2_with fail
      go_region_with (first | (go_at_call 38; refine (address_any _ p d cap _ s a HD.out).mono ?_; rintro e' w3 ⟨rfl, rfl⟩; rw [HP.out]) | (go_at_call 59; refine HCALL.out.mono ?_; rintro e' w3 ⟨V, rfl, h1, h2, h3⟩; obtain ⟨fn', fi', cs', rfl⟩ := h1.func HKP.out; have f3 := h2.blk.frozen 1; have g3 := h2.blk.cell 1))
      all_goals
        have HN := Lib.hid h1
        have HH3 := Lib.hid h2
        have HK3 := Lib.hid h3
        clear h1 h2 h3 f3 g3
        go_end0
        rw [HE.out]
        obtain ⟨h4, h5⟩ := HH3.out.store (V := .func fn' fi' cs')
        exact ⟨rfl, ⟨_, h4, HN.out.keep h5 HH3.out.plain⟩, (Keeps.of_below (below_drew w)).no.trans (HK3.out.trans h5)⟩
    · have hq : s.put b v = s.erase b v := by unfold Flash.put; rw [if_neg (by omega), if_neg (by omega), if_pos hk]
      have HCALL := Lib.hid (show Calls Try.prog 60 #[.pointer (some ⟨p, 0, none⟩), .int .i64 b, .int .u8 v] w.drew (Nexts p d cap eraseV (s.put b v) w.drew) by rw [hq]; exact erase_any _ p d cap _ s b v HD.out HB.out)
      clear hq
      clear hk
      go_enter Try.func15, Try.ntmps15
      go_wp2_with fail
      go_region_with (first | (go_at_call 38; refine (address_any _ p d cap _ s a HD.out).mono ?_; rintro e' w3 ⟨rfl, rfl⟩; rw [HP.out]) | (go_at_call 60; refine HCALL.out.mono ?_; rintro e' w3 ⟨V, rfl, h1, h2, h3⟩; obtain ⟨fn', fi', cs', rfl⟩ := h1.func HKP.out; have f3 := h2.blk.frozen 1; have g3 := h2.blk.cell 1))
      all_goals
        have HN := Lib.hid h1
        have HH3 := Lib.hid h2
        have HK3 := Lib.hid h3
        clear h1 h2 h3 f3 g3
        go_end0
        rw [HE.out]
        obtain ⟨h4, h5⟩ := HH3.out.store (V := .func fn' fi' cs')
        exact ⟨rfl, ⟨_, h4, HN.out.keep h5 HH3.out.plain⟩, (Keeps.of_below (below_drew w)).no.trans (HK3.out.trans h5)⟩
    · have HCALL := Lib.hid (exactStep_any w.drew p d cap _ s b v x y z fn fi cs HD.out HB.out hk hx hy hz hn)
      clear hx hy hz hn
      clear hk
      go_enter Try.func15, Try.ntmps15
      go_wp2_with fail
      go_region_with (first | (go_at_call 38; refine (address_any _ p d cap _ s a HD.out).mono ?_; rintro e' w3 ⟨rfl, rfl⟩; rw [HP.out]) | (go_at_call 62; refine HCALL.out.mono ?_; rintro e' w3 ⟨V, rfl, h1, h2, h3⟩; obtain ⟨fn', fi', cs', rfl⟩ := h1.func HKP.out; have f3 := h2.blk.frozen 1; have g3 := h2.blk.cell 1))
      all_goals
        have HN := Lib.hid h1
        have HH3 := Lib.hid h2
        have HK3 := Lib.hid h3
        clear h1 h2 h3 f3 g3
        go_end0
        rw [HE.out]
        obtain ⟨h4, h5⟩ := HH3.out.store (V := .func fn' fi' cs')
        exact ⟨rfl, ⟨_, h4, HN.out.keep h5 HH3.out.plain⟩, (Keeps.of_below (below_drew w)).no.trans (HK3.out.trans h5)⟩
  · have HE := Lib.hid (show s.write a v = s from if_neg hl)
    have hl' : (s.left == 0) = false := by simp [hl]
    have HC := Lib.hid (show ChipAt w p d cap s from ⟨nx, hh, hs⟩)
    clear hh hs hl hok
    go_enter Try.func15, Try.ntmps15
    go_wp2_with fail
    go_end0
    rw [HE.out]
    exact ⟨rfl, HC.out.went⟩
end Go.Proofs.Ytojdbmkbcjaikaa
