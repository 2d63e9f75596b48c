/-
  THE WALK OF HeadBack.
-/
import Derived.Test.YtdafmjklkggbgaaDoorReads
import Derived.Deep.RegionHeld3
import Derived.Deep.DeepCutAuto
namespace Go.Proofs.YtdafmjklkggbgaaDoor
open Ks Go.RowKit
theorem wf8 {q : Int} (h : (Lit.int .u8 q).wf = true) : 0 ≤ q ∧ q ≤ 255 := by
  simpa [Lit.wf, IntKind.min, IntKind.max, IntKind.signed, IntKind.bits] using h
theorem boxed3 (w : World) (a b c : Value) (t : TypeId) : (w.alloc (.cells #[a, b, c] t)).cell? ⟨w.heap.size, 0, none⟩ = some a ∧ (w.alloc (.cells #[a, b, c] t)).cell? ⟨w.heap.size, 1, none⟩ = some b ∧ (w.alloc (.cells #[a, b, c] t)).cell? ⟨w.heap.size, 2, none⟩ = some c := by
  simp [go_sem]
/-- chips in a box -/
def Tri (W : World) (p : Nat) (a b c : Int) : Prop := W.cell? ⟨p, 0, none⟩ = some (.int .i64 a) ∧ W.cell? ⟨p, 1, none⟩ = some (.int .i64 b) ∧ W.cell? ⟨p, 2, none⟩ = some (.int .i64 c)
theorem Tri.below {W W' : World} {p : Nat} {a b c : Int} (h : Tri W p a b c) (hb : Below W.heap.size W W') : Tri W' p a b c := by
  have hp := block_lt_of_cell h.1
  have hc : ∀ i, W'.cell? ⟨p, i, none⟩ = W.cell? ⟨p, i, none⟩ := fun i => hb.cell (p := ⟨p, i, none⟩) hp
  exact ⟨(hc 0).trans h.1, (hc 1).trans h.2.1, (hc 2).trans h.2.2⟩
theorem Tri.only {W W' : World} {p g : Nat} {a b c : Int} (h : Tri W p a b c) (hb : Only g W W') (hp : p ≠ g) : Tri W' p a b c :=
  ⟨(hb.cell hp).trans h.1, (hb.cell hp).trans h.2.1, (hb.cell hp).trans h.2.2⟩
theorem bytes_only_lt {w w' : World} {B n g : Nat} {A : Option Addr} {l : List Int} (h : Bytes w B A n l) (hb : Only g w w') (hg : B ≤ g) : Bytes w' B A n l := bytes_below h (hb.below hg)
/-- a head of chips that can be, in a box of its own -/
def BackAt (w : World) (A : Option Addr) (n : Nat) (l : List Int) (xa xb xc N q s : Int) (v : Value) (wx : World) : Prop :=
  ∃ p2, v = .pointer (some ⟨p2, 0, none⟩) ∧ Box wx p2 xa xb xc N q s ∧ On w wx ∧ Bytes wx wx.heap.size A n l
section
variable {w W w4 : World} {A : Option Addr} {n : Nat} {l : List Int} {xa xb xc N q s : Int}
theorem backAt_new (h2 : On w W) (hb : Bytes W W.heap.size A n l) (h4 : On W w4) :
    BackAt w A n l xa xb xc N q s (.pointer (some ⟨w4.heap.size, 0, none⟩)) (w4.alloc (.cells #[.int .i64 xa, .int .i64 xb, .int .i64 xc, .int .i64 N, .int .u64 q, .int .u32 s] 27)) :=
  ⟨_, rfl, Box.new w4 xa xb xc N q s, (h2.next h4.bel).next (below_box _ _), bytes_more (bytes_below (bytes_more (bytes_below hb h4.bel) h4.bel.size) (below_box _ _)) (below_box _ _).size⟩
theorem backAt_old (h2 : On w W) (hb : Bytes W W.heap.size A n l) (h1 : 1 < w.heap.size) (h4 : On (W.alloc (.cells #[.int .i64 0, .int .i64 0, .int .i64 0, .int .i64 0, .int .u64 0, .int .u32 0] 27)) w4) :
    Box w4 W.heap.size 0 0 0 0 0 0 ∧ BackAt w A n l xa xb xc N q s (.pointer (some ⟨W.heap.size, 0, none⟩)) (sets w4 W.heap.size xa xb xc N q s) := by
  have hbx := below_box W (.cells #[.int .i64 0, .int .i64 0, .int .i64 0, .int .i64 0, .int .u64 0, .int .u32 0] 27)
  have hX := (Box.new W 0 0 0 0 0 0).below h4.bel (Box.new W 0 0 0 0 0 0).lt
  have hO := sets_only w4 W.heap.size xa xb xc N q s
  have hs : W.heap.size ≤ w4.heap.size := Nat.le_trans hbx.size h4.bel.size
  refine ⟨hX, _, rfl, sets_box hX xa xb xc N q s, ((h2.next hbx).next h4.bel).only hO h2.bel.size (Nat.lt_of_lt_of_le h1 h2.bel.size), ?_⟩
  exact bytes_more (bytes_only_lt (bytes_below (bytes_below hb hbx) (h4.bel.mono hbx.size)) hO (Nat.le_refl _)) (Nat.le_trans hs (Nat.le_of_eq hO.size.symm))
end
theorem headBack_walk (w : World) (ee : Int) (we : (Lit.int .u8 ee).wf = true) (ff : Int) (wf : (Lit.int .u8 ff).wf = true) (ss : Int) (wss : (Lit.int .u8 ss).wf = true) (q : Int) (wq : (Lit.int .u64 q).wf = true) (s : Int) (ws : (Lit.int .u32 s).wf = true) (A : Option Addr) (n c : Nat) (z : List Int) (hr : IsRow .u8 w A n c z) (hT : Tab w) :
    Calls Tryd.prog 5 #[.int .u8 ee, .int .u8 ff, .int .u8 ss, .int .u64 q, .int .u32 s, .slice A n c] w fun e w' => e = .returned (.bool true) ∧ Below w.heap.size w w' := by
  obtain ⟨e0, e1⟩ := wf8 we
  obtain ⟨f0, f1⟩ := wf8 wf
  obtain ⟨s0, s1⟩ := wf8 wss
  have HQ := Lib.hid (wf64 wq)
  have HS := Lib.hid (wf32 ws)
  have HN := Lib.hid hr.len_le
  have HT := Lib.hid hT
  have HR := Lib.hid hr.bytes
  clear hT hr we wf wss wq ws
  obtain ⟨l, hl⟩ : ∃ l, z.take n = l := ⟨_, rfl⟩
  rw [hl] at HR
  clear hl
  by_cases h20 : (20 : Int) < (n : Int)
  · go_enter Tryd.func5, Tryd.ntmps5
    go_wp2_with fail
    refine (awake_any _ _ (On.start HT.out)).mono ?_
    rintro e w1 ⟨rfl, hw1⟩
    have H1 := Lib.hid hw1.bel
    clear hw1
    go_wp2_with fail
    go_ret
    exact ⟨rfl, H1.out⟩
  have hd : decide ((20 : Int) < (n : Int)) = false := by simp; omega
  go_enter Tryd.func5, Tryd.ntmps5
  go_wp2_with fail
  refine (awake_any _ _ (On.start HT.out)).mono ?_
  rintro e w1 ⟨rfl, hw1⟩
  have H1 := Lib.hid hw1
  have HB1 := Lib.hid (bytes_more (bytes_below HR.out hw1.bel) hw1.bel.size)
  clear hw1 HR
  go_upto_region 5 with fail
  obtain ⟨xa, hxa⟩ : ∃ x, ee % 11 = x := ⟨_, rfl⟩
  obtain ⟨xb, hxb⟩ : ∃ x, ff % 65 = x := ⟨_, rfl⟩
  obtain ⟨xc, hxc⟩ : ∃ x, ss % 129 = x := ⟨_, rfl⟩
  have HCAN := Lib.hid (show can xa xb xc (total xa xb xc) = true by
    unfold can right
    rw [decide_eq_true (by omega), decide_eq_true (by omega), decide_eq_true (by omega)]; simp)
  rw [hxa, hxb, hxc]
  clear hxa hxb hxc
  have HC := Lib.hid (show Tri _ _ xa xb xc from boxed3 w1 (.int .i64 xa) (.int .i64 xb) (.int .i64 xc) 23)
  have HZ := Lib.hid H1.out.bel.size
  have hbx := below_box w1 (.cells #[.int .i64 xa, .int .i64 xb, .int .i64 xc] 23)
  have H2 := Lib.hid (H1.out.next hbx)
  have HB2 := Lib.hid (bytes_more (bytes_below HB1.out hbx) hbx.size)
  clear hbx HB1 H1
  generalize w1.alloc (.cells #[.int .i64 xa, .int .i64 xb, .int .i64 xc] 23) = W at *
  generalize w1.heap.size = p at *
  obtain ⟨x0, x1, x2⟩ := HC.out
  obtain ⟨N, hN⟩ : ∃ N, total xa xb xc = N := ⟨_, rfl⟩
  have HNN := Lib.hid hN
  rw [hN] at HCAN
  clear hN
  go_cut [15] (fun s15 wx => BackAt w A n l xa xb xc N q s s15 wx)
  case first =>
    have hbx := below_box W (.cells #[.int .i64 0, .int .i64 0, .int .i64 0, .int .i64 0, .int .u64 0, .int .u32 0] 27)
    have G2 := Lib.hid (tab_below H2.out.tab hbx (tab_pos H2.out.tab))
    have GC := Lib.hid (HC.out.below hbx)
    have GP := Lib.hid (block_lt_of_cell HC.out.1)
    have G1 := Lib.hid (tab_pos HT.out)
    clear hbx
    go_region_held3 (fun w' => w'.cell? ⟨p, 0, none⟩ = some (.int .i64 xa) ∧ w'.cell? ⟨p, 1, none⟩ = some (.int .i64 xb) ∧ w'.cell? ⟨p, 2, none⟩ = some (.int .i64 xc)) (first | (with_reducible exact Z4.out) | (with_reducible exact Z44.out) | (with_reducible exact Z5.out) | (with_reducible exact Z6.out) | go_keep) (first
      | (go_at_call 17; refine (total_any xa xb xc N W W.drew (On.start H2.out.tab).drew HNN.out).mono ?_; rintro e w4 ⟨rfl, hw4⟩
         have z4 := HC.out.below hw4.bel
         have z44 := z4.below (below_box w4 (.cells #[.int .i64 xa, .int .i64 xb, .int .i64 xc, .int .i64 N, .int .u64 q, .int .u32 s] 27))
         unfold Tri at z4 z44
         have Z4 := Lib.hid z4
         have Z44 := Lib.hid z44
         have HF := Lib.hid (backAt_new (xa := xa) (xb := xb) (xc := xc) (N := N) (q := q) (s := s) H2.out HB2.out hw4)
         clear hw4 z4 z44)
      | (go_at_call 17; refine (total_any xa xb xc N (W.alloc (.cells #[.int .i64 0, .int .i64 0, .int .i64 0, .int .i64 0, .int .u64 0, .int .u32 0] 27)) (W.alloc (.cells #[.int .i64 0, .int .i64 0, .int .i64 0, .int .i64 0, .int .u64 0, .int .u32 0] 27)).drew (On.start G2.out).drew HNN.out).mono ?_; rintro e w5 ⟨rfl, hw5⟩
         have z5 := GC.out.below hw5.bel
         have z6 := z5.only (sets_only w5 W.heap.size xa xb xc N q s) (Nat.ne_of_lt GP.out)
         unfold Tri at z5 z6
         unfold sets at z6
         have Z5 := Lib.hid z5
         have Z6 := Lib.hid z6
         have HF2 := Lib.hid (backAt_old (xa := xa) (xb := xb) (xc := xc) (N := N) (q := q) (s := s) H2.out HB2.out G1.out hw5)
         have HF := Lib.hid HF2.out.2
         obtain ⟨y0, y1, y2, y3, y4, y5⟩ := HF2.out.1.six
         have yf := HF2.out.1.fr
         clear hw5 z5 z6))
    all_goals
      go_wp2_with fail
      go_meet
      case rel => exact HF.out
  case rest =>
    obtain ⟨p2, rfl, hx2, h2, hb2⟩ := hcut
    have X1 := Lib.hid hx2
    have G1 := Lib.hid h2
    have B1 := Lib.hid hb2
    clear hx2 h2 hb2 H2 HB2 HC HNN
    obtain ⟨x0, x1, x2, x3, x4, x5⟩ := X1.out.six
    go_wp2_with fail
    clear x0 x1 x2 x3 x4 x5
    refine (enc_ok xa xb xc N q s _ _ (On.start G1.out.tab) HCAN.out HQ.out HS.out).mono ?_
    rintro e w2 ⟨g, rfl, hw2, hg, hrow⟩
    have X2 := Lib.hid (X1.out.below hw2.bel X1.out.lt)
    have G2 := Lib.hid (G1.out.next hw2.bel)
    have B2 := Lib.hid (bytes_more (bytes_below B1.out hw2.bel) hw2.bel.size)
    have R2 := Lib.hid (hrow.bytes (enc_in xa xb xc N q s) (enc_len xa xb xc N q s))
    clear hw2 hg hrow X1 G1 B1
    obtain ⟨v3, w3, hap, hown, hb3⟩ := clone_run w2 _ rfl _ 28 28 _ _ R2.out (Nat.le_refl _) (by omega)
    have hl0 := B2.out.1
    obtain ⟨v4, w4, hap4, hown4, hb4⟩ := append_own w3 w2.heap.size 29 v3 _ hown A n c _ l (bytes_below B2.out hb3) (by rw [enc_len]; omega) hb3.size
    have hb24 := hb3.trans hb4
    have hin4 : ∀ v ∈ enc xa xb xc N q s ++ l, 0 ≤ v ∧ v ≤ 255 := fun v hv => (List.mem_append.1 hv).elim (enc_in _ _ _ _ _ _ v) (B2.out.2.1 v)
    obtain ⟨A4, c4, rfl, hc4, hby4⟩ := hown4.bytes hin4
    have hl4 : (enc xa xb xc N q s ++ l).length = 28 + n := by rw [List.length_append, enc_len, hl0]
    rw [hl4] at hc4 hby4 hap4
    have AP := Lib.hid hap
    have AP4 := Lib.hid hap4
    have X4 := Lib.hid (X2.out.below hb24 X2.out.lt)
    have G4 := Lib.hid (G2.out.next hb24)
    have B4 := Lib.hid hby4
    have R4 := Lib.hid (bytes_more (bytes_below R2.out hb24) hb24.size)
    have DE := Lib.hid (decT_enc xa xb xc N q s l HCAN.out HQ.out HS.out)
    clear hap hap4 hown hown4 hb3 hb4 hb24 hin4 hby4 hl4 hl0 X2 G2 B2 R2
    obtain ⟨t4, ht4⟩ : ∃ t, enc xa xb xc N q s ++ l = t := ⟨_, rfl⟩
    rw [ht4] at B4 DE
    clear ht4
    go_wp2_with (at_builtin; first | refine Lib.wpList_append_run _ rfl _ _ _ _ rfl _ _ rfl rfl _ _ AP.out ?_ | refine Lib.wpList_append_run _ rfl _ _ _ _ rfl _ _ rfl rfl _ _ AP4.out ?_)
    clear AP AP4
    refine (dec_any A4 (28 + n) c4 _ t4 _ _ (On.start G4.out.tab) hc4 B4.out (Nat.le_refl _)).mono ?_
    rw [DE.out]
    rintro e w5 ⟨rfl, hw5⟩
    have X5 := Lib.hid (X4.out.below hw5.bel X4.out.lt)
    have hbx := below_box w5 (.cells #[.int .i64 xa, .int .i64 xb, .int .i64 xc, .int .i64 N, .int .u64 q, .int .u32 s] 27)
    have X6 := Lib.hid (And.intro (X5.out.below hbx X5.out.lt) (Box.new w5 xa xb xc N q s))
    have G6 := Lib.hid ((G4.out.next hw5.bel).next hbx)
    have R6 := Lib.hid (bytes_more (bytes_below (bytes_more (bytes_below R4.out hw5.bel) hw5.bel.size) hbx) hbx.size)
    clear hw5 hbx X5 X4 G4 R4 B4 DE
    go_wp2_with fail
    generalize w5.alloc (.cells #[.int .i64 xa, .int .i64 xb, .int .i64 xc, .int .i64 N, .int .u64 q, .int .u32 s] 27) = W6 at *
    generalize w5.heap.size = p6 at *
    have R7 := Lib.hid (bytes_part R6.out 0 27 (by omega))
    have DS := Lib.hid (show decT (Ks.part (enc xa xb xc N q s) 0 27) = .tuple #[headV 0 0 0 0 0 0, .int .i64 5] from decT_of (by unfold decErr; rw [if_pos (by rw [R7.out.1]; omega)]) (by decide))
    refine (dec_any _ 27 28 _ _ _ _ (On.start G6.out.tab) (by omega) R7.out (Nat.le_refl _)).mono ?_
    rw [DS.out]
    rintro e w7 ⟨rfl, hw7⟩
    have X7 := Lib.hid (And.intro (X6.out.1.below hw7.bel X6.out.1.lt) (X6.out.2.below hw7.bel X6.out.2.lt))
    have G7 := Lib.hid (G6.out.next hw7.bel)
    clear hw7 R6 R7 DS X6 G6
    have hbx := below_box w7 (.cells #[.int .i64 0, .int .i64 0, .int .i64 0, .int .i64 0, .int .u64 0, .int .u32 0] 27)
    have X8 := Lib.hid (And.intro (X7.out.1.below hbx X7.out.1.lt) (X7.out.2.below hbx X7.out.2.lt))
    have G8 := Lib.hid (G7.out.next hbx)
    obtain ⟨x0, x1, x2, x3, x4, x5⟩ := X8.out.1.six
    obtain ⟨y0, y1, y2, y3, y4, y5⟩ := X8.out.2.six
    clear hbx X7 G7
    go_wp2_with fail
    go_ret
    exact ⟨rfl, G8.out.bel⟩
end Go.Proofs.YtdafmjklkggbgaaDoor
