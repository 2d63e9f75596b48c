/-
  THE WALKS OF (*Chip).finish, Tick.
-/
import Derived.Test.YtojdbmkbcjaikaaFAt
import Derived.IntWalk
namespace Go.Proofs.Ytojdbmkbcjaikaa
open Go.RowKit
set_option maxRecDepth 20000

theorem OwnK.put {k : IntKind} {t base d n c : Nat} {w : World} {l : List Int} (h : OwnK k t base w (.slice (some ⟨d, 0, none⟩) n c) l) (hn : n = l.length) (i : Nat) (v : Int) :
    OwnK k t base (w.setCell ⟨d, i, none⟩ (.int k v)) (.slice (some ⟨d, 0, none⟩) n c) (l.set i v) := by
  subst hn
  have := (World.ownsRow.stored (w := w) h i (.int k v)).1
  unfold OwnK
  rw [List.length_set, List.map_set]
  exact this
section
variable {w w' : World} {p d cap : Nat} {nx : Value} {s : Flash}
theorem Held.put (h : Held w p d cap nx s) (i : Nat) (c : Int) : Held (w.setCell ⟨d, i, none⟩ (.int .u8 c)) p d cap nx { s with data := s.data.set i c } ∧ Keeps (Its p d) w (w.setCell ⟨d, i, none⟩ (.int .u8 c)) := by
  have hk : Keeps (Its p d) w (w.setCell ⟨d, i, none⟩ (.int .u8 c)) := (Keeps.refl (Its p d) w).set_ (p := ⟨d, i, none⟩) (.inl (.inr rfl)) _
  refine ⟨⟨?_, ?_, by simpa using h.big⟩, hk⟩
  · have := h.blk.of_eq (w' := w.setCell ⟨d, i, none⟩ (.int .u8 c)) (Below.heap_setCell _ _ _ _ h.ne_.symm)
    unfold cellsOf at this ⊢
    simpa using this
  · have := h.data.put rfl i c
    simpa using this
/-- a byte of its own -/
theorem Held.cell (h : Held w p d cap nx s) (i : Nat) (hi : i < s.data.length) : w.cell? ⟨d, i, none⟩ = some (.int .u8 (s.data.getD i 0)) ∧ w.frozen? ⟨d, i, none⟩ = false := by
  obtain ⟨A, c, e, _, hm⟩ := h.data.mine
  injection e with e1 e2 e3
  obtain ⟨b, e4, _, _, hc⟩ := hm.2 (by omega)
  rw [← e1] at e4
  injection e4 with e4
  injection e4 with e4
  subst e4
  exact hc i hi
theorem Held.caps (h : Held w p d cap nx s) : s.data.length ≤ cap ∧ cap ≤ maxLen := h.data.cap
/-- so far -/
def Flash.upto (s : Flash) (k : Nat) : Flash := { s with data := s.doneTo k }
theorem Held.start (h : Held w p d cap nx s) : Held w p d cap nx (s.upto 0) := by
  unfold Flash.upto
  rw [Flash.doneTo_zero]
  exact h
theorem Held.next_ {f k : Nat} {x : Int} (h : Held w p d cap nx (s.upto k)) (hf : s.wf = f) (hk : f + k < s.data.length) (hx : s.upd ((s.doneTo k).getD (f + k) 0) = x) :
    Held (w.setCell ⟨d, f + k, none⟩ (.int .u8 x)) p d cap nx (s.upto (k + 1)) ∧ Keeps (Its p d) w (w.setCell ⟨d, f + k, none⟩ (.int .u8 x)) := by
  have := h.put (f + k) x
  subst hx
  unfold Flash.upto at this ⊢
  rw [← Flash.doneTo_next s f k hf hk]
  exact this
end
set_option maxRecDepth 100000 in
set_option maxHeartbeats 4000000 in
theorem finish_any (w : World) (p d cap : Nat) (nx : Value) (s : Flash) (f m : Nat) (h : Held w p d cap nx s) (hf : s.wf = f) (hm : s.wm = m) (hm0 : 0 < m) (hfm : f + m ≤ s.data.length) (hlen : s.data.length ≤ 16384) (hk : s.wk = 1 ∨ s.wk = 2) :
    Calls Try.prog 43 #[.pointer (some ⟨p, 0, none⟩)] w fun e w' => e = .returned (.tuple #[]) ∧ Held w' p d cap nx s.finish ∧ Keeps (Its p d) w w' := by
  have H := Lib.hid h
  have HF := Lib.hid hf
  have HM := Lib.hid hm
  have hcap := h.caps
  have hcap0 : s.data.length ≤ cap := hcap.1
  have hmx : cap ≤ maxLen := hcap.2
  have c0 := h.blk.cell 0
  have c5 := h.blk.cell 5
  have c6 := h.blk.cell 6
  simp only [cellsOf, List.getElem?_toArray, List.getElem?_cons_zero, List.getElem?_cons_succ] at c0 c5 c6
  rw [hf] at c5
  rw [hm] at c6
  obtain ⟨kd, hkd⟩ : ∃ kd, s.wk = kd := ⟨_, rfl⟩
  have HKD := Lib.hid hkd
  rw [hkd] at hk
  obtain ⟨n, hn⟩ : ∃ n, s.data.length = n := ⟨_, rfl⟩
  have HN := Lib.hid hn
  rw [hn] at c0 hfm hlen hcap0
  have HST := Lib.hid (show Held w.drew p d cap nx (s.upto 0) from (h.below (below_drew w)).start)
  have hcf : ¬ cap = f := by omega
  clear h hf hm hcap hkd hn
  go_enter Try.func43, Try.ntmps43
  go_wp2_with fail
  go_region
  all_goals
    clear c0 c5 c6
    go_wp2_with fail
    go_loopw [22] (fun i wr => ∃ k : Nat, k ≤ m ∧ i = .int .i64 k ∧ Held wr p d cap nx (s.upto k) ∧ Keeps (Its p d) w wr) (fun i _ => m - (intOf i).toNat)
    case atStart => exact ⟨0, Nat.zero_le _, rfl, HST.out, (Keeps.of_below (below_drew w)).no⟩
    case round =>
      obtain ⟨k, hkm, rfl, hh, hkp⟩ := hrel
      have HH := Lib.hid hh
      have HK := Lib.hid hkp
      clear hh hkp
      by_cases hlt : k < m
      · have hk1 : (k : Int) < (m : Int) := by omega
        have hk0 : (0 : Int) ≤ (k : Int) := by omega
        have hfk : f + k < s.data.length := by have := HN.out; omega
        have k4 := HH.out.blk.cell 4
        simp only [cellsOf, Flash.upto, List.getElem?_toArray, List.getElem?_cons_zero, List.getElem?_cons_succ] at k4
        rw [HKD.out] at k4
        have hlen9 : f + k < (s.upto k).data.length := by unfold Flash.upto; rw [Flash.doneTo_len]; exact hfk
        obtain ⟨q1, q2⟩ := HH.out.cell (f + k) hlen9
        have HX := Lib.hid (fun x hx => HH.out.next_ (x := x) HF.out hfk hx)
        have hup : (s.upto k).data = s.doneTo k := rfl
        rw [hup] at q1
        clear hup hlen9 hfk
        obtain ⟨y, hy⟩ : ∃ y, (s.doneTo k).getD (f + k) 0 = y := ⟨_, rfl⟩
        rw [hy] at q1 HX
        clear hy
        rcases hk with rfl | rfl
        · have k7 := HH.out.blk.cell 7
          simp only [cellsOf, Flash.upto, List.getElem?_toArray, List.getElem?_cons_zero, List.getElem?_cons_succ] at k7
          have HU := Lib.hid (show s.upd y = bits .and .u8 y s.wv from if_pos HKD.out)
          obtain ⟨v, hv⟩ : ∃ v, s.wv = v := ⟨_, rfl⟩
          rw [hv] at k7 HU
          clear hv
          go_wp2_with fail
          go_region
          all_goals
            clear q1 q2 k4 k7
            go_wp2_with fail
            go_roundw
            case rel =>
              obtain ⟨h1, h2⟩ := HX.out _ HU.out
              exact ⟨k + 1, by omega, by go_num, h1.below (below_drew _), HK.out.trans (h2.trans (Keeps.of_below (below_drew _)).no)⟩
            case measure => simp [intOf]; omega
        · have HU := Lib.hid (show s.upd y = 255 from if_neg (by rw [HKD.out]; decide))
          go_wp2_with fail
          go_roundw
          case rel =>
            obtain ⟨h1, h2⟩ := HX.out _ HU.out
            exact ⟨k + 1, by omega, by go_num, h1, HK.out.trans h2⟩
          case measure => simp [intOf]; omega
      · obtain rfl : k = m := by omega
        have p4 := HH.out.blk.frozen 4
        have p5 := HH.out.blk.frozen 5
        have p6 := HH.out.blk.frozen 6
        have p7 := HH.out.blk.frozen 7
        have k4 := HH.out.blk.cell 4
        have k5 := HH.out.blk.cell 5
        have k6 := HH.out.blk.cell 6
        have k7 := HH.out.blk.cell 7
        simp only [cellsOf, Flash.upto, List.getElem?_toArray, List.getElem?_cons_zero, List.getElem?_cons_succ] at k4 k5 k6 k7
        go_wp2_with fail
        go_end0
        have HD := (show s.finish.data = (s.upto k).data by unfold Flash.finish Flash.upto; rw [HM.out, Int.toNat_natCast])
        obtain ⟨h1, h2⟩ := HH.out.sets (nx' := nx) (s' := s.finish) [(4, .int .i64 0), (5, .int .i64 0), (6, .int .i64 0), (7, .int .u8 0)] HD (by unfold cellsOf; rw [HD]; rfl)
        exact ⟨rfl, h1, HK.out.trans h2⟩
set_option maxHeartbeats 4000000 in
theorem tick_any (w : World) (p d cap : Nat) (s : Flash) (h : ChipAt w p d cap s) (hok : s.Ok) :
    Calls Try.prog 19 #[.pointer (some ⟨p, 0, none⟩)] w (Did p d cap s.tick w) := by
  obtain ⟨nx, hh, hs⟩ := h
  have c3 := hh.blk.cell 3
  have f3 := hh.blk.frozen 3
  simp only [cellsOf, List.getElem?_toArray, List.getElem?_cons_zero, List.getElem?_cons_succ] at c3
  by_cases hl : s.left = 0
  · have HE := Lib.hid (show s.tick = s from if_pos hl)
    have hl' : (s.left == 0) = true := by simp [hl]
    have HC := Lib.hid (show ChipAt w p d cap s from ⟨nx, hh, hs⟩)
    clear hh hs hl hok
    go_enter Try.func19, Try.ntmps19
    go_wp2_with fail
    go_end0
    rw [HE.out]
    exact ⟨rfl, HC.out.went⟩
  · have hl' : (s.left == 0) = false := by simp [hl]
    have hlr := hok.left
    obtain ⟨h1, h2⟩ := hh.sets (nx' := nx) (s' := { s with left := s.left - 1 }) [(3, .int .i64 (s.left - 1))] rfl rfl
    have H1 := Lib.hid h1
    have H2 := Lib.hid h2
    have HS := Lib.hid (hs.keep h2 hh.plain)
    obtain ⟨hr0, hr1⟩ := hlr
    by_cases ho : s.left - 1 = 0
    · have HE := Lib.hid (show s.tick = ({ s with left := 0 } : Flash).finish by unfold Flash.tick; rw [if_neg hl, if_pos ho, ho])
      rw [ho] at H1 H2 HS
      have ho' : (s.left - 1 == 0) = true := by simp; omega
      have HW := Lib.hid (hok.works (by omega))
      have HL := Lib.hid hok.len
      clear hh hs hl hok h1 h2
      go_enter Try.func19, Try.ntmps19
      go_wp2_with fail
      obtain ⟨hw1, hw2, hw3, hw4⟩ := HW.out
      refine (finish_any _ p d cap nx { s with left := 0 } s.wf.toNat s.wm.toNat H1.out (Int.toNat_of_nonneg hw2).symm (Int.toNat_of_nonneg (Int.le_of_lt hw3)).symm (by omega) (by show s.wf.toNat + s.wm.toNat ≤ s.data.length; omega) HL.out.2 (by show s.wk = 1 ∨ s.wk = 2; omega)).mono ?_
      rintro e w2 ⟨rfl, h3, h4⟩
      have H3 := Lib.hid h3
      have H4 := Lib.hid h4
      clear h3 h4 hw1 hw2 hw3 hw4
      go_wp2_with fail
      go_end0
      rw [HE.out]
      exact ⟨rfl, ⟨_, H3.out, HS.out.keep H4.out H1.out.plain⟩, H2.out.trans H4.out⟩
    · have HE := Lib.hid (show s.tick = { s with left := s.left - 1 } by unfold Flash.tick; rw [if_neg hl, if_neg ho])
      have ho' : (s.left - 1 == 0) = false := by simp; omega
      clear hh hs hl hok h1 h2
      go_enter Try.func19, Try.ntmps19
      go_wp2_with fail
      go_end0
      rw [HE.out]
      exact ⟨rfl, ⟨_, H1.out, HS.out⟩, H2.out⟩
end Go.Proofs.Ytojdbmkbcjaikaa
