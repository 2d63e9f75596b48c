/-
  THE WALK OF FlashPlays.
-/
import Derived.Test.YtojdbmkbcjaikaaFAwake
import Derived.Test.YtojdbmkbcjaikaaFRefK
import Derived.Test.YtojdbmkbcjaikaaFRefW
import Derived.Test.YtojdbmkbcjaikaaBSame
import Derived.Deep.RegionHeld3
namespace Go.Proofs.Ytojdbmkbcjaikaa
open Go.RowKit
set_option maxRecDepth 20000

/-- what operations do -/
def Flash.play (s : Flash) (o : Opn) : Flash := if o.k = 0 then s.write o.a o.v else if o.k = 1 then s.read else if o.k = 2 then s.ticks o.v.toNat else s
def Flash.plays (s : Flash) (l : List Opn) : Flash := l.foldl Flash.play s
theorem plays_take (s : Flash) (l : List Opn) (k : Nat) (x : Opn) (h : l[k]? = some x) : s.plays (l.take (k + 1)) = (s.plays (l.take k)).play x := by
  unfold Flash.plays
  rw [List.take_add_one, h]
  simp
theorem play_ok {s : Flash} (x : Opn) (h : s.Ok) : (s.play x).Ok := by
  unfold Flash.play
  split
  · exact h.write x.a x.hv
  · split
    · exact h.read
    · split
      · exact ticks_ok _ h
      · exact h
theorem plays_ok {s : Flash} (l : List Opn) (h : s.Ok) : (s.plays l).Ok := by
  unfold Flash.plays
  induction l generalizing s with
  | nil => exact h
  | cons x l ih => exact ih (play_ok x h)
theorem cut_bytes {s : Flash} (h : s.Ok) (ps : List Int) (hp : ∀ v ∈ ps, 0 ≤ v ∧ v ≤ 255) : ∀ v ∈ s.cut ps, 0 ≤ v ∧ v ≤ 255 := by
  unfold Flash.cut
  split
  · exact cellsL_in h.byte hp
  · split
    · unfold progL
      split
      · intro v hv
        rcases List.mem_or_eq_of_mem_set hv with h1 | h1
        · exact h.byte v h1
        · rw [h1]; exact band_in (Flash.getD_in h.byte _) (Flash.getD_in hp _)
      · exact h.byte
    · exact h.byte
/-- both chips stand alike -/
structure Both (N p d cap q : Nat) (w0 W : World) (s : Flash) (m : Nat) : Prop where
  chip : ChipAt W p d cap s
  ref : RefAt N W q s m
  bel : Below w0.heap.size w0 W
  size : N ≤ W.heap.size
section
variable {N p d cap q m m' : Nat} {w0 W W' : World} {s s' : Flash}
theorem Both.below (h : Both N p d cap q w0 W s m) (hb : Below W.heap.size W W') : Both N p d cap q w0 W' s m :=
  ⟨h.chip.below hb, h.ref.below hb, h.bel.trans (hb.mono h.bel.size), Nat.le_trans h.size hb.size⟩
theorem RefAt.plain (h : RefAt N W q s m) : Plain W (fun b => b = q) := by
  obtain ⟨_, _, _, _, hr, _⟩ := h
  intro b e x
  subst e
  exact ⟨fun h1 => Blk.ne_ hr.blk h1 (by decide) rfl, fun h1 => Blk.ne_ hr.blk h1 (by decide) rfl⟩
theorem RefAt.low {N : Nat} (h : RefAt N W q s m) : N ≤ q ∧ q < W.heap.size := by
  obtain ⟨_, _, _, _, hr, _⟩ := h
  exact ⟨hr.low, hr.blk.lt⟩
/-- one after the other -/
theorem both_step (hpd : (p < N ∧ d < N) ∧ w0.heap.size ≤ p ∧ w0.heap.size ≤ d) {W1 W2 : World} (h : Both N p d cap q w0 W s m) (h1 : Went p d cap s' W W1) (h2 : ∀ _ : RefAt N W1 q s m, RefWent N q s' m' W1 W2) :
    Both N p d cap q w0 W2 s' m' := by
  have r1 : RefAt N W1 q s m := h.ref.keep h1.2 fun b hb e => by rcases e with e | e <;> subst e <;> omega
  have h3 := h2 r1
  have hq := r1.low
  have hN : w0.heap.size ≤ q := by omega
  have b1 := h.bel.trans (h1.far (N := w0.heap.size) hpd.2.1 hpd.2.2 h.bel.size)
  exact ⟨h1.1.keep h3.2 (fun e => by subst e; omega) (fun e => by subst e; omega) r1.plain, h3.1, b1.trans (h3.2.below (fun b e => by subst e; exact hN) b1.size), Nat.le_trans (Nat.le_trans h.size h1.2.size) h3.2.size⟩
theorem both_ref (hpd : (p < N ∧ d < N) ∧ w0.heap.size ≤ p ∧ w0.heap.size ≤ d) {W1 : World} (h : Both N p d cap q w0 W s m) (h1 : Went p d cap s' W W1) : RefAt N W1 q s m :=
  h.ref.keep h1.2 fun b hb e => by rcases e with e | e <;> subst e <;> omega
/-- another block lies as it lay -/
theorem both_blk (hpd : p < N ∧ d < N) {W1 W2 : World} {b : Nat} {t : TypeId} {cs : Array Value} (hb : Blk W b t cs) (hN : N ≤ b) (hq : b ≠ q) (h1 : Went p d cap s' W W1) (h2 : Keeps (fun b => b = q) W1 W2) : Blk W2 b t cs :=
  (hb.of_eq (h1.2.block b hb.lt (fun e => by rcases e with e | e <;> subst e <;> omega))).of_eq (h2.block b (Nat.lt_of_lt_of_le hb.lt h1.2.size) hq)
end
set_option maxRecDepth 100000 in
set_option maxHeartbeats 4000000 in
theorem flashPlays_walk (w : World) (a : Int) (wa : (Lit.int .u8 a).wf = true) (A1 : Option Addr) (n1 c1 : Nat) (z1 : List Int) (r1 : IsRow .u8 w A1 n1 c1 z1) (A2 : Option Addr) (n2 c2 : Nat) (l : List Opn) (r2 : Many opE w w.heap.size A2 n2 l ∧ n2 ≤ c2 ∧ n2 ≤ maxLen) (A3 : Option Addr) (n3 c3 : Nat) (z3 : List Int) (r3 : IsRow .u8 w A3 n3 c3 z3) :
    Calls Try.prog 3 #[.int .u8 a, .slice A1 n1 c1, .slice A2 n2 c2, .slice A3 n3 c3] w fun e w' => e = .returned (.bool true) ∧ Below w.heap.size w w' := by
  have ha : 0 ≤ a ∧ a ≤ 255 := by simpa [Lit.wf, IntKind.min, IntKind.max, IntKind.signed, IntKind.bits] using wa
  have HN1 := Lib.hid r1.nums
  have hm1 := r1.len_le.2
  unfold maxLen at hm1
  obtain ⟨ha0, ha1⟩ := ha
  clear r1 wa
  obtain ⟨b, hl1⟩ : ∃ l, z1.take n1 = l := ⟨_, rfl⟩
  rw [hl1] at HN1
  clear hl1
  obtain ⟨k, hkr⟩ : ∃ k : Nat, 1 + a % 4 = (k : Int) := ⟨(1 + a % 4).toNat, by omega⟩
  have hk1 : 1 ≤ k := by omega
  have hk4 : k ≤ 4 := by omega
  have HK := Lib.hid (show 1 ≤ k ∧ k ≤ 64 by omega)
  obtain ⟨z, hz⟩ : ∃ z : Nat, 256 * k = z := ⟨_, rfl⟩
  have hzr : 256 * (k : Int) = (z : Int) := by omega
  have hz0 : 256 ≤ z := by omega
  have hz1 : z ≤ 1024 := by omega
  have HZ := Lib.hid hz
  have HO0 := Lib.hid (show (made k b).Ok from made_ok HK.out HN1.out.byte)
  obtain ⟨D, hDD⟩ : ∃ D, (made k b).data = D := ⟨_, rfl⟩
  have HSD := Lib.hid hDD
  have HDL := Lib.hid (show D.length = z by rw [← hDD, ← hz]; exact fillL_len _ _)
  have HDB := Lib.hid (show ∀ v ∈ D, 0 ≤ v ∧ v ≤ 255 by rw [← hDD]; exact HO0.out.byte)
  have hsize : (made k b).data.length = z := by rw [hDD]; exact HDL.out
  obtain ⟨s0, hs0⟩ : ∃ s, made k b = s := ⟨_, rfl⟩
  have HS0 := Lib.hid hs0
  have hs0l : s0.left = 0 := by rw [← hs0]; rfl
  have hs0k : s0.k = 0 := by rw [← hs0]; rfl
  have hs0n : s0.named = false := by rw [← hs0]; rfl
  rw [hs0] at HO0 HSD hsize
  have HSZ := Lib.hid hsize
  clear hs0 hz hDD
  have HL := Lib.hid r2.1
  have HLL := Lib.hid r2.1.1
  have hm2 := r2.2.2
  have HOP := Lib.hid (show ∀ p d : Nat, w.heap.size ≤ p → w.heap.size ≤ d → Off (Its p d) A2 n2 from fun p d hp hd => Off.below HL.out hp hd)
  unfold maxLen at hm2
  clear r2
  have HN3 := Lib.hid r3.nums
  have HC3 := Lib.hid (And.intro r3.len_le.1 r3.cap_le)
  have hm3 := r3.len_le.2
  unfold maxLen at hm3
  clear r3
  obtain ⟨ps, hps⟩ : ∃ l, z3.take n3 = l := ⟨_, rfl⟩
  rw [hps] at HN3
  clear hps hs0l hs0k hs0n
  by_cases hb1 : n1 ≤ 40
  · have hb1' : decide (40 < (n1 : Int)) = false := decide_eq_false (by omega)
    by_cases hb2 : n2 ≤ 120
    · have hb2' : decide (120 < (n2 : Int)) = false := decide_eq_false (by omega)
      by_cases hb3 : n3 ≤ 300
      · have hb3' : decide (300 < (n3 : Int)) = false := decide_eq_false (by omega)
        have HFR := Lib.hid (show fresh D = s0 by rw [← HS0.out, ← HSD.out, ← HS0.out]; rfl)
        have HFD := Lib.hid (show fillL b z = D by rw [← HSD.out, ← HS0.out, ← HZ.out]; rfl)
        go_enter Try.func3, Try.ntmps3
        go_wp2_with fail
        refine (awake_any w).mono ?_
        rintro e w1 ⟨rfl, hb⟩
        have HB1 := Lib.hid hb
        clear hb
        go_wp2_with fail
        refine (fill_any A1 n1 c1 w.heap.size z b w1 (HN1.out.below HB1.out) HB1.out.size (by omega) (by omega)).mono ?_
        rintro e w2 ⟨v, rfl, hv, hb⟩
        rw [HFD.out] at hv
        obtain ⟨Af, cf, rfl, _, hnf⟩ := hv.nums fun x hx => byte_wf (HDB.out x hx)
        rw [HDL.out] at hnf ⊢
        have HNF := Lib.hid hnf
        have HB2 := Lib.hid (HB1.out.trans (hb.mono HB1.out.size))
        clear hv hb hnf
        go_wp2_with fail
        refine (newChip_ok k Af z cf w2.heap.size D w2 HNF.out (Nat.le_refl _) HK.out HZ.out.symm).mono ?_
        rintro e w3 ⟨v, rfl, p, d, cap, rfl, hc, hp, hd, hb⟩
        rw [HFR.out] at hc
        have HC := Lib.hid hc
        have HP := Lib.hid (show w.heap.size ≤ p ∧ w.heap.size ≤ d by have := HB2.out.size; omega)
        have HB3 := Lib.hid (HB2.out.trans (hb.mono HB2.out.size))
        have HLT := Lib.hid hc.lt
        have HNF3 := Lib.hid ((HNF.out.below hb).mono hb.size)
        clear hc hp hd hb
        go_wp2_with fail
        refine (refNew_any k Af z cf w3.heap.size D w3 HNF3.out (Nat.le_refl _) HK.out HZ.out.symm).mono ?_
        rintro e w4 ⟨q, rfl, hr, hb⟩
        rw [HFR.out] at hr
        obtain ⟨N, hNN⟩ : ∃ N, w3.heap.size = N := ⟨_, rfl⟩
        have HPD := Lib.hid (show (p < N ∧ d < N) ∧ w.heap.size ≤ p ∧ w.heap.size ≤ d from ⟨by rw [← hNN]; exact HLT.out, HP.out⟩)
        rw [hNN] at hr
        have HBO := Lib.hid (show Both N p d cap q w w4 s0 0 from ⟨HC.out.below hb, hr, HB3.out.trans (hb.mono HB3.out.size), by rw [← hNN]; exact hb.size⟩)
        clear hr hb hNN
        go_wp2_with fail
        go_loopw [15, 16, 17, 18, 19] (fun i _ _ _ _ wr => ∃ t : Nat, t ≤ n2 ∧ i = .int .i64 t ∧ Both N p d cap q w wr (s0.plays (l.take t)) t) (fun i _ _ _ _ _ => n2 - (intOf i).toNat)
        case atStart => exact ⟨0, Nat.zero_le _, rfl, HBO.out⟩
        case round =>
          obtain ⟨t, ht, rfl, hz⟩ := hrel
          have Z := Lib.hid hz
          clear hz
          by_cases hlt : t < n2
          · have ht1 : (t : Int) < (n2 : Int) := by omega
            have ht0 : (0 : Int) ≤ (t : Int) := by omega
            obtain ⟨x, hx⟩ : ∃ x, l[t]? = some x := ⟨l[t]'(by have := HLL.out; omega), by simp [show t < l.length by have := HLL.out; omega]⟩
            obtain ⟨bb, oo, rfl, hcc⟩ := HL.out.cell Z.out.bel t x hx
            have c0 := hcc 0 _ rfl
            have c1' := hcc 1 _ rfl
            have c2' := hcc 2 _ rfl
            have HXK := Lib.hid x.hk
            have HXA := Lib.hid x.ha
            have HXV := Lib.hid x.hv
            have HSN := Lib.hid (plays_take s0 l t x hx)
            clear hcc hx
            obtain ⟨xk, xa, xv, _, _, _⟩ := x
            simp only [opE, Nat.add_zero] at c0 c1' c2' HXA HXV HXK
            have HOS := Lib.hid (plays_ok (l.take t) HO0.out)
            obtain ⟨s, hs⟩ : ∃ s, s0.plays (l.take t) = s := ⟨_, rfl⟩
            rw [hs] at HOS Z HSN
            have HNEXT := Lib.hid (show ∀ (W' : World) (s' : Flash), s0.plays (l.take (t + 1)) = s' → Both N p d cap q w W' s' (t + 1) → ∃ t' : Nat, t' ≤ n2 ∧ Value.int .i64 ((t : Int) + 1) = .int .i64 t' ∧ Both N p d cap q w W' (s0.plays (l.take t')) t' from fun W' s' he h => ⟨t + 1, by omega, by go_num, by rw [he]; exact h⟩)
            clear hs
            have hbx := below_box wr (.cells #[.int .u8 xk, .int .i64 xa, .int .u8 xv] 33)
            have Z1 := Lib.hid (Z.out.below hbx)
            have HOB := Lib.hid (Blk.new wr 33 #[.int .u8 xk, .int .i64 xa, .int .u8 xv])
            have HWL := Lib.hid (show N ≤ wr.heap.size ∧ wr.heap.size ≠ q by have := Z.out.size; have := Z.out.ref.low.2; exact ⟨by omega, by omega⟩)
            obtain ⟨ob, hob⟩ : ∃ ob, wr.heap.size = ob := ⟨_, rfl⟩
            obtain ⟨W, hW⟩ : ∃ W, wr.alloc (.cells #[.int .u8 xk, .int .i64 xa, .int .u8 xv] 33) = W := ⟨_, rfl⟩
            rw [hW] at Z1 HOB
            rw [hob] at HOB HWL
            have HWE := Lib.hid hW
            have HOE := Lib.hid hob
            clear hW hob hbx
            go_upto_region 14 with fail
            rw [HWE.out, HOE.out]
            have o0 := HOB.out.cell 0
            have o1 := HOB.out.cell 1
            have o2 := HOB.out.cell 2
            simp only [List.getElem?_toArray, List.getElem?_cons_zero, List.getElem?_cons_succ] at o0 o1 o2
            clear c0 c1' c2' HWE HOE Z HBO
            by_cases hk0 : xk = 0
            · subst hk0
              have u1 : ((0 : Int) == 1) = false := rfl
              have u2 : ((0 : Int) == 2) = false := rfl
              have HST := Lib.hid (show s0.plays (l.take (t + 1)) = s.write xa xv from HSN.out.trans (if_pos rfl))
              go_wp2_with fail
              refine (write_any W p d cap s xa xv Z1.out.chip HOS.out HXV.out).mono ?_
              rintro e wx ⟨rfl, hz⟩
              have HZX := Lib.hid hz
              have HRX := Lib.hid (both_ref HPD.out Z1.out hz)
              have HOX := Lib.hid (HOB.out.of_eq (hz.2.block _ HOB.out.lt (fun e => by have := HPD.out.1; have := HWL.out.1; rcases e with e | e <;> subst e <;> omega)))
              have HSX := Lib.hid (show N ≤ wx.heap.size from Nat.le_trans Z1.out.size hz.2.size)
              have o0 := HOX.out.cell 0
              have o1 := HOX.out.cell 1
              have o2 := HOX.out.cell 2
              simp only [List.getElem?_toArray, List.getElem?_cons_zero, List.getElem?_cons_succ] at o0 o1 o2
              clear hz
              go_wp2_with fail
              refine (refWrite_any N wx q s t xa xv HRX.out HSX.out HOS.out HXA.out HXV.out).mono ?_
              rintro e ZW ⟨rfl, hz2⟩
              have Z := Lib.hid (both_step HPD.out Z1.out HZX.out fun _ => hz2)
              have HOBZ := Lib.hid (both_blk HPD.out.1 HOB.out HWL.out.1 HWL.out.2 HZX.out hz2.2)
              have o0 := HOBZ.out.cell 0
              simp only [List.getElem?_toArray, List.getElem?_cons_zero] at o0
              clear hz2
              go_wp2_with fail
              go_loopw [19] (fun i wr' => i = .int .i64 0 ∧ Below ZW.heap.size ZW wr') (fun _ _ => 0)
              case atStart => exact ⟨rfl, Below.refl _ _⟩
              case round =>
                obtain ⟨rfl, hbl⟩ := hrel
                have ZB := Lib.hid (Z.out.below hbl)
                obtain ⟨ZBW, hzb⟩ : ∃ X, X = wr := ⟨_, rfl⟩
                have HOBB := Lib.hid (HOBZ.out.of_eq (hbl.block _ HOBZ.out.lt))
                have o0 := HOBB.out.cell 0
                simp only [List.getElem?_toArray, List.getElem?_cons_zero] at o0
                clear hbl
                go_upto_region 27 with fail
                subst hzb
                have ZB := Lib.hid (show Both N p d cap q w ZBW (s.write xa xv) (t + 1) from ⟨ZB.out.chip, ZB.out.ref.more (Nat.le_succ _), ZB.out.bel, ZB.out.size⟩)
                obtain ⟨vd, vs, seq, rd, hri, _⟩ := ZB.out.ref
                have HRB := Lib.hid hri.blk
                have HQC := Lib.hid (show ∀ W', Below ZBW.heap.size ZBW W' → W'.cell? ⟨q, 9, none⟩ = some (.int .i64 (s.write xa xv).left) ∧ W'.cell? ⟨q, 5, none⟩ = some (.int .i64 (s.write xa xv).wk) ∧ W'.cell? ⟨q, 6, none⟩ = some (.int .i64 (s.write xa xv).wf) ∧ W'.cell? ⟨q, 7, none⟩ = some (.int .i64 (s.write xa xv).wm) ∧ W'.cell? ⟨q, 8, none⟩ = some (.int .u8 (s.write xa xv).wv) from fun W' hb => by
                  have hr := HRB.out.of_eq (hb.block q HRB.out.lt)
                  exact ⟨hr.cell 9, hr.cell 5, hr.cell 6, hr.cell 7, hr.cell 8⟩)
                clear hri
                obtain ⟨r9, r5, r6, r7, r8⟩ := HQC.out ZBW (Below.refl _ _)
                have HCd := Lib.hid (ZB.out.chip.below (below_drew ZBW))
                have hzz : ((s.write xa xv).left != (s.write xa xv).left) = false := by simp
                go_region_held3 (fun w' => w'.cell? ⟨q, 9, none⟩ = some (.int .i64 (s.write xa xv).left) ∧ w'.cell? ⟨q, 5, none⟩ = some (.int .i64 (s.write xa xv).wk) ∧ w'.cell? ⟨q, 6, none⟩ = some (.int .i64 (s.write xa xv).wf) ∧ w'.cell? ⟨q, 7, none⟩ = some (.int .i64 (s.write xa xv).wm) ∧ w'.cell? ⟨q, 8, none⟩ = some (.int .u8 (s.write xa xv).wv)) (first | (with_reducible exact CW.out) | go_keep) (first
                  | (go_at_call 21; refine (left_any _ p d cap (s.write xa xv) HCd.out).mono ?_; rintro e' wl ⟨rfl, rfl⟩)
                  | (go_at_call 22; refine (waits_any _ p d cap (s.write xa xv) HCd.out).mono ?_; rintro e' ww ⟨rfl, hb⟩; unfold Flash.waits
                     have HBW := Lib.hid ((below_drew ZBW).trans hb)
                     have CW := Lib.hid (HQC.out ww HBW.out)
                     clear hb))
                clear r9 r5 r6 r7 r8
                go_wp2_with fail
                have ZN := Lib.hid (ZB.out.below HBW.out)
                exact ⟨HNEXT.out _ _ HST.out ZN.out, by simp [intOf]; omega⟩
            · have u0 : (xk == 0) = false := by simp [hk0]
              by_cases hk1 : xk = 1
              · subst hk1
                have u2 : ((1 : Int) == 2) = false := rfl
                have HST := Lib.hid (show s0.plays (l.take (t + 1)) = s.read from HSN.out.trans (by unfold Flash.play; rw [if_neg (by show ¬ (1 : Int) = 0; decide), if_pos rfl]))
                obtain ⟨y, hy⟩ : ∃ y, s.tell xa = y := ⟨_, rfl⟩
                have HY := Lib.hid hy
                have hyy : (y != y) = false := by simp
                clear hy
                go_wp2_with fail
                refine (read_any W p d cap s xa Z1.out.chip HOS.out).mono ?_
                rintro e wx ⟨rfl, hz⟩
                rw [HY.out]
                have HZX := Lib.hid hz
                have HRX := Lib.hid (both_ref HPD.out Z1.out hz)
                have HOX := Lib.hid (HOB.out.of_eq (hz.2.block _ HOB.out.lt (fun e => by have := HPD.out.1; have := HWL.out.1; rcases e with e | e <;> subst e <;> omega)))
                have o0 := HOX.out.cell 0
                have o1 := HOX.out.cell 1
                have o2 := HOX.out.cell 2
                simp only [List.getElem?_toArray, List.getElem?_cons_zero, List.getElem?_cons_succ] at o0 o1 o2
                clear hz
                go_wp2_with fail
                refine (refRead_any N wx q s t xa HRX.out HOS.out (by omega)).mono ?_
                rintro e ZW ⟨rfl, hz2⟩
                rw [HY.out]
                have Z := Lib.hid (both_step HPD.out Z1.out HZX.out fun _ => hz2)
                have HOBZ := Lib.hid (both_blk HPD.out.1 HOB.out HWL.out.1 HWL.out.2 HZX.out hz2.2)
                have o0 := HOBZ.out.cell 0
                simp only [List.getElem?_toArray, List.getElem?_cons_zero] at o0
                clear hz2
                go_wp2_with fail
                go_loopw [19] (fun i wr' => i = .int .i64 0 ∧ Below ZW.heap.size ZW wr') (fun _ _ => 0)
                case atStart => exact ⟨rfl, Below.refl _ _⟩
                case round =>
                  obtain ⟨rfl, hbl⟩ := hrel
                  have ZB := Lib.hid (Z.out.below hbl)
                  obtain ⟨ZBW, hzb⟩ : ∃ X, X = wr := ⟨_, rfl⟩
                  have HOBB := Lib.hid (HOBZ.out.of_eq (hbl.block _ HOBZ.out.lt))
                  have o0 := HOBB.out.cell 0
                  simp only [List.getElem?_toArray, List.getElem?_cons_zero] at o0
                  clear hbl
                  go_upto_region 27 with fail
                  subst hzb
                  obtain ⟨vd, vs, seq, rd, hri, _⟩ := ZB.out.ref
                  have HRB := Lib.hid hri.blk
                  have HQC := Lib.hid (show ∀ W', Below ZBW.heap.size ZBW W' → W'.cell? ⟨q, 9, none⟩ = some (.int .i64 (s.read).left) ∧ W'.cell? ⟨q, 5, none⟩ = some (.int .i64 (s.read).wk) ∧ W'.cell? ⟨q, 6, none⟩ = some (.int .i64 (s.read).wf) ∧ W'.cell? ⟨q, 7, none⟩ = some (.int .i64 (s.read).wm) ∧ W'.cell? ⟨q, 8, none⟩ = some (.int .u8 (s.read).wv) from fun W' hb => by
                    have hr := HRB.out.of_eq (hb.block q HRB.out.lt)
                    exact ⟨hr.cell 9, hr.cell 5, hr.cell 6, hr.cell 7, hr.cell 8⟩)
                  clear hri
                  obtain ⟨r9, r5, r6, r7, r8⟩ := HQC.out ZBW (Below.refl _ _)
                  have HCd := Lib.hid (ZB.out.chip.below (below_drew ZBW))
                  have hzz : ((s.read).left != (s.read).left) = false := by simp
                  go_region_held3 (fun w' => w'.cell? ⟨q, 9, none⟩ = some (.int .i64 (s.read).left) ∧ w'.cell? ⟨q, 5, none⟩ = some (.int .i64 (s.read).wk) ∧ w'.cell? ⟨q, 6, none⟩ = some (.int .i64 (s.read).wf) ∧ w'.cell? ⟨q, 7, none⟩ = some (.int .i64 (s.read).wm) ∧ w'.cell? ⟨q, 8, none⟩ = some (.int .u8 (s.read).wv)) (first | (with_reducible exact CW.out) | go_keep) (first
                    | (go_at_call 21; refine (left_any _ p d cap (s.read) HCd.out).mono ?_; rintro e' wl ⟨rfl, rfl⟩)
                    | (go_at_call 22; refine (waits_any _ p d cap (s.read) HCd.out).mono ?_; rintro e' ww ⟨rfl, hb⟩; unfold Flash.waits
                       have HBW := Lib.hid ((below_drew ZBW).trans hb)
                       have CW := Lib.hid (HQC.out ww HBW.out)
                       clear hb))
                  clear r9 r5 r6 r7 r8
                  go_wp2_with fail
                  have ZN := Lib.hid (ZB.out.below HBW.out)
                  exact ⟨HNEXT.out _ _ HST.out ZN.out, by simp [intOf]; omega⟩
              · have u1 : (xk == 1) = false := by simp [hk1]
                by_cases hk2 : xk = 2
                · subst hk2
                  obtain ⟨m, rfl⟩ := Int.eq_ofNat_of_zero_le HXV.out.1
                  have hm8 : (m : Int) ≤ 255 := HXV.out.2
                  have HST := Lib.hid (show s0.plays (l.take (t + 1)) = s.ticks m from HSN.out.trans (by unfold Flash.play; rw [if_neg (by show ¬ (2 : Int) = 0; decide), if_neg (by show ¬ (2 : Int) = 1; decide), if_pos rfl]; rfl))
                  go_wp2_with fail
                  go_loopw [19] (fun i wr' => ∃ u : Nat, u ≤ m ∧ i = .int .i64 u ∧ Both N p d cap q w wr' (s.ticks u) t ∧ Blk wr' ob 33 #[.int .u8 2, .int .i64 xa, .int .u8 m]) (fun i _ => m - (intOf i).toNat)
                  case atStart => exact ⟨0, Nat.zero_le _, rfl, Z1.out, HOB.out⟩
                  case round =>
                    obtain ⟨u, hu, rfl, hz, hob⟩ := hrel
                    have ZB := Lib.hid hz
                    have HOBB := Lib.hid hob
                    have o0 := hob.cell 0
                    have o2 := hob.cell 2
                    simp only [List.getElem?_toArray, List.getElem?_cons_zero, List.getElem?_cons_succ] at o0 o2
                    have HOQ := Lib.hid (ticks_ok u HOS.out)
                    obtain ⟨ZBW, hzb⟩ : ∃ X, X = wr := ⟨_, rfl⟩
                    clear hz hob
                    have hu0 : (0 : Int) ≤ (u : Int) := by omega
                    by_cases hum : u < m
                    · have hum1 : (u : Int) < (m : Int) := by omega
                      go_wp2_with fail
                      refine (tick_any _ p d cap _ ZB.out.chip HOQ.out).mono ?_
                      rintro e' wx ⟨rfl, hz⟩
                      have HZX := Lib.hid hz
                      have HRX := Lib.hid (both_ref HPD.out ZB.out hz)
                      have HSX := Lib.hid (show N ≤ wx.heap.size from Nat.le_trans ZB.out.size hz.2.size)
                      clear hz
                      go_wp2_with fail
                      refine (refTick_any N wx q _ t HRX.out HSX.out HOQ.out).mono ?_
                      rintro e' wy ⟨rfl, hz2⟩
                      have ZM := Lib.hid (both_step HPD.out ZB.out HZX.out fun _ => hz2)
                      have HOM := Lib.hid (both_blk HPD.out.1 HOBB.out HWL.out.1 HWL.out.2 HZX.out hz2.2)
                      clear hz2
                      go_wp2_with fail
                      go_roundw
                      case rel => exact ⟨u + 1, by omega, by go_num, ZM.out, HOM.out⟩
                      case measure => simp [intOf]; omega
                    · obtain rfl : u = m := by omega
                      have hqq : decide ((u : Int) < (u : Int)) = false := decide_eq_false (by omega)
                      go_upto_region 27 with fail
                      subst hzb
                      have ZB := Lib.hid (show Both N p d cap q w ZBW (s.ticks u) (t + 1) from ⟨ZB.out.chip, ZB.out.ref.more (Nat.le_succ _), ZB.out.bel, ZB.out.size⟩)
                      obtain ⟨vd, vs, seq, rd, hri, _⟩ := ZB.out.ref
                      have HRB := Lib.hid hri.blk
                      have HQC := Lib.hid (show ∀ W', Below ZBW.heap.size ZBW W' → W'.cell? ⟨q, 9, none⟩ = some (.int .i64 (s.ticks u).left) ∧ W'.cell? ⟨q, 5, none⟩ = some (.int .i64 (s.ticks u).wk) ∧ W'.cell? ⟨q, 6, none⟩ = some (.int .i64 (s.ticks u).wf) ∧ W'.cell? ⟨q, 7, none⟩ = some (.int .i64 (s.ticks u).wm) ∧ W'.cell? ⟨q, 8, none⟩ = some (.int .u8 (s.ticks u).wv) from fun W' hb => by
                        have hr := HRB.out.of_eq (hb.block q HRB.out.lt)
                        exact ⟨hr.cell 9, hr.cell 5, hr.cell 6, hr.cell 7, hr.cell 8⟩)
                      clear hri
                      obtain ⟨r9, r5, r6, r7, r8⟩ := HQC.out ZBW (Below.refl _ _)
                      have HCd := Lib.hid (ZB.out.chip.below (below_drew ZBW))
                      have hzz : ((s.ticks u).left != (s.ticks u).left) = false := by simp
                      go_region_held3 (fun w' => w'.cell? ⟨q, 9, none⟩ = some (.int .i64 (s.ticks u).left) ∧ w'.cell? ⟨q, 5, none⟩ = some (.int .i64 (s.ticks u).wk) ∧ w'.cell? ⟨q, 6, none⟩ = some (.int .i64 (s.ticks u).wf) ∧ w'.cell? ⟨q, 7, none⟩ = some (.int .i64 (s.ticks u).wm) ∧ w'.cell? ⟨q, 8, none⟩ = some (.int .u8 (s.ticks u).wv)) (first | (with_reducible exact CW.out) | go_keep) (first
                        | (go_at_call 21; refine (left_any _ p d cap (s.ticks u) HCd.out).mono ?_; rintro e' wl ⟨rfl, rfl⟩)
                        | (go_at_call 22; refine (waits_any _ p d cap (s.ticks u) HCd.out).mono ?_; rintro e' ww ⟨rfl, hb⟩; unfold Flash.waits
                           have HBW := Lib.hid ((below_drew ZBW).trans hb)
                           have CW := Lib.hid (HQC.out ww HBW.out)
                           clear hb))
                      clear r9 r5 r6 r7 r8
                      go_wp2_with fail
                      have ZN := Lib.hid (ZB.out.below HBW.out)
                      exact ⟨HNEXT.out _ _ HST.out ZN.out, by simp [intOf]; omega⟩
                · have u2 : (xk == 2) = false := by simp [hk2]
                  have HST := Lib.hid (show s0.plays (l.take (t + 1)) = s from HSN.out.trans (by unfold Flash.play; rw [if_neg hk0, if_neg hk1, if_neg hk2]))
                  have HOBZ1 := HOB
                  obtain ⟨Z1W, hz1w⟩ : ∃ X, X = W := ⟨_, rfl⟩
                  subst hz1w
                  go_wp2_with fail
                  go_loopw [19] (fun i wr' => i = .int .i64 0 ∧ Below Z1W.heap.size Z1W wr') (fun _ _ => 0)
                  case atStart => exact ⟨rfl, Below.refl _ _⟩
                  case round =>
                    obtain ⟨rfl, hbl⟩ := hrel
                    have ZB := Lib.hid (Z1.out.below hbl)
                    obtain ⟨ZBW, hzb⟩ : ∃ X, X = wr := ⟨_, rfl⟩
                    have HOBB := Lib.hid (HOBZ1.out.of_eq (hbl.block _ HOBZ1.out.lt))
                    have o0 := HOBB.out.cell 0
                    simp only [List.getElem?_toArray, List.getElem?_cons_zero] at o0
                    clear hbl
                    go_upto_region 27 with fail
                    subst hzb
                    have ZB := Lib.hid (show Both N p d cap q w ZBW (s) (t + 1) from ⟨ZB.out.chip, ZB.out.ref.more (Nat.le_succ _), ZB.out.bel, ZB.out.size⟩)
                    obtain ⟨vd, vs, seq, rd, hri, _⟩ := ZB.out.ref
                    have HRB := Lib.hid hri.blk
                    have HQC := Lib.hid (show ∀ W', Below ZBW.heap.size ZBW W' → W'.cell? ⟨q, 9, none⟩ = some (.int .i64 (s).left) ∧ W'.cell? ⟨q, 5, none⟩ = some (.int .i64 (s).wk) ∧ W'.cell? ⟨q, 6, none⟩ = some (.int .i64 (s).wf) ∧ W'.cell? ⟨q, 7, none⟩ = some (.int .i64 (s).wm) ∧ W'.cell? ⟨q, 8, none⟩ = some (.int .u8 (s).wv) from fun W' hb => by
                      have hr := HRB.out.of_eq (hb.block q HRB.out.lt)
                      exact ⟨hr.cell 9, hr.cell 5, hr.cell 6, hr.cell 7, hr.cell 8⟩)
                    clear hri
                    obtain ⟨r9, r5, r6, r7, r8⟩ := HQC.out ZBW (Below.refl _ _)
                    have HCd := Lib.hid (ZB.out.chip.below (below_drew ZBW))
                    have hzz : ((s).left != (s).left) = false := by simp
                    go_region_held3 (fun w' => w'.cell? ⟨q, 9, none⟩ = some (.int .i64 (s).left) ∧ w'.cell? ⟨q, 5, none⟩ = some (.int .i64 (s).wk) ∧ w'.cell? ⟨q, 6, none⟩ = some (.int .i64 (s).wf) ∧ w'.cell? ⟨q, 7, none⟩ = some (.int .i64 (s).wm) ∧ w'.cell? ⟨q, 8, none⟩ = some (.int .u8 (s).wv)) (first | (with_reducible exact CW.out) | go_keep) (first
                      | (go_at_call 21; refine (left_any _ p d cap (s) HCd.out).mono ?_; rintro e' wl ⟨rfl, rfl⟩)
                      | (go_at_call 22; refine (waits_any _ p d cap (s) HCd.out).mono ?_; rintro e' ww ⟨rfl, hb⟩; unfold Flash.waits
                         have HBW := Lib.hid ((below_drew ZBW).trans hb)
                         have CW := Lib.hid (HQC.out ww HBW.out)
                         clear hb))
                    clear r9 r5 r6 r7 r8
                    go_wp2_with fail
                    have ZN := Lib.hid (ZB.out.below HBW.out)
                    exact ⟨HNEXT.out _ _ HST.out ZN.out, by simp [intOf]; omega⟩
          · obtain rfl : t = n2 := by omega
            have HOS := Lib.hid (plays_ok (l.take t) HO0.out)
            obtain ⟨s, hs⟩ : ∃ s, s0.plays (l.take t) = s := ⟨_, rfl⟩
            rw [hs] at HOS Z
            clear hs
            obtain ⟨vd, vs, seq, rd, hri, _⟩ := Z.out.ref
            obtain ⟨Ad, cd, hvd⟩ := hri.data.form
            subst hvd
            obtain ⟨E, hE⟩ : ∃ E, s.data = E := ⟨_, rfl⟩
            obtain ⟨C, hC⟩ : ∃ C, s.cut ps = C := ⟨_, rfl⟩
            have HE := Lib.hid hE
            have HCC := Lib.hid hC
            have HEB := Lib.hid (show ∀ v ∈ E, 0 ≤ v ∧ v ≤ 255 by rw [← hE]; exact HOS.out.byte)
            have HCB := Lib.hid (show ∀ v ∈ C, 0 ≤ v ∧ v ≤ 255 by rw [← hC]; exact cut_bytes HOS.out ps HN3.out.byte)
            have hd := hri.data
            rw [hE] at hd
            obtain ⟨zz, hzz⟩ : ∃ zz, E.length = zz := ⟨_, rfl⟩
            have HEL := Lib.hid hzz
            have HCL := Lib.hid (show C.length = zz by rw [← hC, Flash.cut_len, hE]; exact hzz)
            have hzz6 : zz ≤ 16384 := by rw [← hzz, ← hE]; exact HOS.out.len.2
            have hblk := hri.blk
            have q1 := hblk.cell 1
            simp only [refCells, List.getElem?_toArray, List.getElem?_cons_zero, List.getElem?_cons_succ] at q1
            rw [hE] at q1
            rw [hzz] at q1 hd
            have HRB := Lib.hid hblk
            have HDN := Lib.hid (hd.nums_at (fun v hv => byte_wf (HEB.out v hv))).1
            obtain ⟨X, hX⟩ : ∃ X, X = wr := ⟨_, rfl⟩
            have HQ1 := Lib.hid (show ∀ W', Below X.heap.size X W' → W'.cell? ⟨q, 1, none⟩ = some (.slice Ad zz cd) from fun W' hb => by subst hX; exact (hb.cell (p := ⟨q, 1, none⟩) HRB.out.lt).trans q1)
            clear hE hC hzz hri hd hblk
            go_upto_region 29 with fail
            subst hX
            have ZD := Lib.hid (Z.out.below (below_drew X))
            have HPN := Lib.hid (HN3.out.below Z.out.bel)
            go_region_held3 (fun w' => w'.cell? ⟨q, 1, none⟩ = some (.slice Ad zz cd)) (first | (with_reducible exact K1.out) | (with_reducible exact K2.out) | (with_reducible exact K3.out) | (with_reducible exact K4.out) | (with_reducible exact K5.out) | go_keep) (first
              | (go_at_call 24; refine (bytes_any _ p d cap s ZD.out.chip HOS.out).mono ?_; rintro e' x1 ⟨vb, rfl, hv, hb⟩
                 rw [HE.out] at hv
                 obtain ⟨B1, cb1, rfl, _, hnb⟩ := hv.nums fun x hx => byte_wf (HEB.out x hx)
                 rw [HEL.out] at hnb ⊢
                 have HN1' := Lib.hid hnb
                 have HX1 := Lib.hid ((below_drew X).trans hb)
                 have K1 := Lib.hid (HQ1.out x1 HX1.out)
                 clear hv hb hnb)
              | (have hh := HX2.out; clear hh; go_at_call 25; refine (cut_any _ p d cap s A3 n3 c3 w.heap.size ps (Z.out.chip.below HX2.out) HOS.out (HN3.out.below (Z.out.bel.trans (HX2.out.mono Z.out.bel.size))) (Nat.le_trans Z.out.bel.size HX2.out.size) HC3.out.1 HC3.out.2).mono ?_; rintro e' x3 ⟨B3, cb3, rfl, _, hm, hb⟩
                 rw [HCC.out] at hm
                 rw [show s.data.length = zz by rw [HE.out]; exact HEL.out] at hm ⊢
                 have HN3' := Lib.hid (hm.nums fun x hx => byte_wf (HCB.out x hx))
                 have HX3 := Lib.hid (HX2.out.trans (hb.mono HX2.out.size))
                 have K3 := Lib.hid (HQ1.out x3 HX3.out)
                 clear hm hb)
              | (have hh := HX3.out; clear hh; go_at_call 26; refine (refCut_any N _ q s t A3 n3 c3 w.heap.size ps (Z.out.ref.below HX3.out) HOS.out (HN3.out.below (Z.out.bel.trans (HX3.out.mono Z.out.bel.size))) (Nat.le_trans Z.out.bel.size HX3.out.size) (by omega)).mono ?_; rintro e' x4 ⟨vb, rfl, hv, hb⟩
                 rw [HCC.out] at hv
                 obtain ⟨B4, cb4, rfl, _, hnb⟩ := hv.nums fun x hx => byte_wf (HCB.out x hx)
                 rw [HCL.out] at hnb ⊢
                 have HN4' := Lib.hid hnb
                 have HN34 := Lib.hid ((HN3'.out.below hb).mono hb.size)
                 have HX4 := Lib.hid (HX3.out.trans (hb.mono HX3.out.size))
                 have K4 := Lib.hid (HQ1.out x4 HX4.out)
                 clear hv hb hnb)
              | (have hh := HX4.out; clear hh; go_at_call 23; refine (same_refl B3 B4 zz cb3 cb4 x4.heap.size C _ (by unfold maxLen; omega) HN34.out HN4'.out (Nat.le_refl _)).mono ?_; rintro e' x5 ⟨rfl, hb⟩
                 have HX5 := Lib.hid (HX4.out.trans (hb.mono HX4.out.size))
                 have K5 := Lib.hid (HQ1.out x5 HX5.out)
                 clear hb)
              | (have hh := HX1.out; clear hh; go_at_call 23; refine (same_refl B1 Ad zz cb1 cd x1.heap.size E _ (by unfold maxLen; omega) HN1'.out ((HDN.out.below HX1.out).mono HX1.out.size) (Nat.le_refl _)).mono ?_; rintro e' x2 ⟨rfl, hb⟩
                 have HX2 := Lib.hid (HX1.out.trans (hb.mono HX1.out.size))
                 have K2 := Lib.hid (HQ1.out x2 HX2.out)
                 clear hb)
              | fail)
            go_wp2_with fail
            go_ret
            exact ⟨rfl, Z.out.bel.trans (HX5.out.mono Z.out.bel.size)⟩
      · have hb3' : decide (300 < (n3 : Int)) = true := decide_eq_true (by omega)
        go_enter Try.func3, Try.ntmps3
        go_wp2_with fail
        refine (awake_any w).mono ?_
        rintro e w1 ⟨rfl, hb⟩
        have HB1 := Lib.hid hb
        clear hb
        go_wp2_with fail
        go_ret
        exact ⟨rfl, HB1.out⟩
    · have hb2' : decide (120 < (n2 : Int)) = true := decide_eq_true (by omega)
      go_enter Try.func3, Try.ntmps3
      go_wp2_with fail
      refine (awake_any w).mono ?_
      rintro e w1 ⟨rfl, hb⟩
      have HB1 := Lib.hid hb
      clear hb
      go_wp2_with fail
      go_ret
      exact ⟨rfl, HB1.out⟩
  · have hb1' : decide (40 < (n1 : Int)) = true := decide_eq_true (by omega)
    go_enter Try.func3, Try.ntmps3
    go_wp2_with fail
    refine (awake_any w).mono ?_
    rintro e w1 ⟨rfl, hb⟩
    have HB1 := Lib.hid hb
    clear hb
    go_wp2_with fail
    go_ret
    exact ⟨rfl, HB1.out⟩
end Go.Proofs.Ytojdbmkbcjaikaa
