/-
  THE WALK OF HeadNumbers.
-/
import Derived.Test.YtdafmjklkggbgaaDoorAwake
import Derived.Test.YtdafmjklkggbgaaDoorRefDec
namespace Go.Proofs.YtdafmjklkggbgaaDoor
open Ks Go.RowKit

theorem wf64 {q : Int} (h : (Lit.int .u64 q).wf = true) : 0 ≤ q ∧ q < 18446744073709551616 := by
  have : 0 ≤ q ∧ q ≤ 18446744073709551615 := by simpa [Lit.wf, IntKind.min, IntKind.max, IntKind.signed, IntKind.bits] using h
  omega
theorem wf32 {q : Int} (h : (Lit.int .u32 q).wf = true) : 0 ≤ q ∧ q < 4294967296 := by
  have : 0 ≤ q ∧ q ≤ 4294967295 := by simpa [Lit.wf, IntKind.min, IntKind.max, IntKind.signed, IntKind.bits] using h
  omega
/-- six cells -/
def Six (W : World) (p : Nat) (a b c n q s : Int) : Prop :=
  W.cell? ⟨p, 0, none⟩ = some (.int .i64 a) ∧ W.cell? ⟨p, 1, none⟩ = some (.int .i64 b) ∧ W.cell? ⟨p, 2, none⟩ = some (.int .i64 c) ∧ W.cell? ⟨p, 3, none⟩ = some (.int .i64 n) ∧ W.cell? ⟨p, 4, none⟩ = some (.int .u64 q) ∧ W.cell? ⟨p, 5, none⟩ = some (.int .u32 s)
theorem Six.below {W w3 : World} {p : Nat} {a b c n q s : Int} (hz : Six W p a b c n q s) (h : Below W.heap.size W w3) : Six w3 p a b c n q s := cells6 h (block_lt_of_cell hz.1) hz
/-- Encode, whatever the head is -/
def EncPost (w0 : World) (a b c n q s : Int) (e : Ending) (w' : World) : Prop :=
  On w0 w' ∧ ((can a b c n = false ∧ e = .returned (.tuple #[.slice none 0 0, .int .i64 9])) ∨ (can a b c n = true ∧ ∃ g, e = .returned (.tuple #[.slice (some ⟨g, 0, none⟩) 28 28, .int .i64 0]) ∧ Row w' g (enc a b c n q s)))
theorem enc_any (a b c n q s : Int) (w0 w : World) (H : On w0 w) (hq : 0 ≤ q ∧ q < 18446744073709551616) (hs : 0 ≤ s ∧ s < 4294967296) :
    Calls Tryd.prog 10 #[headV a b c n q s] w (EncPost w0 a b c n q s) := by
  cases h : can a b c n
  · exact (enc_no a b c n q s w0 w H h).mono fun e w' hh => ⟨hh.2, .inl ⟨h, hh.1⟩⟩
  · exact (enc_ok a b c n q s w0 w H h hq hs).mono fun e w' hh => by
      obtain ⟨g, h1, h2, _, h4⟩ := hh
      exact ⟨h2, .inr ⟨h, g, h1, h4⟩⟩
theorem six_two (w : World) (a b c n q s a' b' c' n' q' s' : Int) (o1 o2 : Obj) (h1 : o1 = .cells #[.int .i64 a, .int .i64 b, .int .i64 c, .int .i64 n, .int .u64 q, .int .u32 s] 27) (h2 : o2 = .cells #[.int .i64 a', .int .i64 b', .int .i64 c', .int .i64 n', .int .u64 q', .int .u32 s'] 27) :
    Six ((w.alloc o1).alloc o2) w.heap.size a b c n q s ∧ Six ((w.alloc o1).alloc o2) (w.heap.size + 1) a' b' c' n' q' s' := by
  subst h1 h2
  refine ⟨Six.below (boxed6 w _ _ _ _ _ _ 27) (below_box _ _), ?_⟩
  have := boxed6 (w.alloc (.cells #[.int .i64 a, .int .i64 b, .int .i64 c, .int .i64 n, .int .u64 q, .int .u32 s] 27)) (.int .i64 a') (.int .i64 b') (.int .i64 c') (.int .i64 n') (.int .u64 q') (.int .u32 s') 27
  rw [World.size_alloc] at this
  exact this
set_option maxHeartbeats 2000000 in
theorem headNumbers_walk (a : Int) (_wa : (Lit.int .i64 a).wf = true) (b : Int) (_wb : (Lit.int .i64 b).wf = true) (c : Int) (_wc : (Lit.int .i64 c).wf = true) (n : Int) (_wn : (Lit.int .i64 n).wf = true) (q : Int) (wq : (Lit.int .u64 q).wf = true) (s : Int) (ws : (Lit.int .u32 s).wf = true)
    (a' : Int) (_wa' : (Lit.int .i64 a').wf = true) (b' : Int) (_wb' : (Lit.int .i64 b').wf = true) (c' : Int) (_wc' : (Lit.int .i64 c').wf = true) (n' : Int) (_wn' : (Lit.int .i64 n').wf = true) (q' : Int) (wq' : (Lit.int .u64 q').wf = true) (s' : Int) (ws' : (Lit.int .u32 s').wf = true) (w : World) (hT : Tab w) :
    Calls Tryd.prog 8 #[headV a b c n q s, headV a' b' c' n' q' s'] w fun e w' => e = .returned (.bool true) ∧ Below w.heap.size w w' := by
  have HQ := Lib.hid (wf64 wq)
  have HS := Lib.hid (wf32 ws)
  have HQ' := Lib.hid (wf64 wq')
  have HS' := Lib.hid (wf32 ws')
  have HO := Lib.hid (fun o1 o2 => ((On.start hT).next (below_box w o1)).next (below_box (w.alloc o1) o2))
  have HX := Lib.hid (six_two w a b c n q s a' b' c' n' q' s' _ _ rfl rfl)
  clear hT wq ws wq' ws' _wa _wb _wc _wn _wa' _wb' _wc' _wn'
  go_enter Tryd.func8, Tryd.ntmps8
  go_wp2_with fail
  have HO1 := Lib.hid (HO.out (.cells #[.int .i64 a, .int .i64 b, .int .i64 c, .int .i64 n, .int .u64 q, .int .u32 s] 27) (.cells #[.int .i64 a', .int .i64 b', .int .i64 c', .int .i64 n', .int .u64 q', .int .u32 s'] 27))
  clear HO
  generalize (w.alloc (.cells #[.int .i64 a, .int .i64 b, .int .i64 c, .int .i64 n, .int .u64 q, .int .u32 s] 27)).alloc (.cells #[.int .i64 a', .int .i64 b', .int .i64 c', .int .i64 n', .int .u64 q', .int .u32 s'] 27) = W at *
  refine (awake_any _ _ (On.start HO1.out.tab)).mono ?_
  rintro e w1 ⟨rfl, hw1⟩
  have H1 := Lib.hid (HO1.out.next hw1.bel)
  replace HX := Lib.hid (And.intro (HX.out.1.below hw1.bel) (HX.out.2.below hw1.bel))
  clear hw1
  obtain ⟨x0, x1, x2, x3, x4, x5⟩ := HX.out.1
  go_wp2_with fail
  clear x0 x1 x2 x3 x4 x5
  refine (enc_any a b c n q s _ _ (On.start H1.out.tab) HQ.out HS.out).mono ?_
  rintro e w2 ⟨hw2, he⟩
  have H2 := Lib.hid (H1.out.next hw2.bel)
  replace HX := Lib.hid (And.intro (HX.out.1.below hw2.bel) (HX.out.2.below hw2.bel))
  clear hw2
  obtain ⟨x0, x1, x2, x3, x4, x5⟩ := HX.out.2
  rcases he with ⟨hc, rfl⟩ | ⟨hc, g, rfl, hrow⟩
  · clear hc
    go_wp2_with fail
    clear x0 x1 x2 x3 x4 x5
    refine (enc_any a' b' c' n' q' s' _ _ H2.out HQ'.out HS'.out).mono ?_
    rintro e w3 ⟨hw3, he⟩
    have H3 := Lib.hid hw3.bel
    clear hw3
    rcases he with ⟨_, rfl⟩ | ⟨_, g, rfl, _⟩
    · go_wp2_with fail
      go_ret
      exact ⟨rfl, H3.out⟩
    · go_wp2_with fail
      go_ret
      exact ⟨rfl, H3.out⟩
  · have HC := Lib.hid hc
    have HR := Lib.hid hrow
    clear hc hrow
    go_wp2_with fail
    clear x0 x1 x2 x3 x4 x5
    refine (enc_any a' b' c' n' q' s' _ _ (On.start H2.out.tab) HQ'.out HS'.out).mono ?_
    rintro e w3 ⟨hw3, he⟩
    have H3 := Lib.hid (H2.out.next hw3.bel)
    replace HX := Lib.hid (And.intro (HX.out.1.below hw3.bel) (HX.out.2.below hw3.bel))
    have HA := Lib.hid (bytes_more (bytes_below (HR.out.bytes (enc_in a b c n q s) (enc_len a b c n q s)) hw3.bel) hw3.bel.size)
    clear hw3 HR
    rcases he with ⟨_, rfl⟩ | ⟨hc', g', rfl, hrow⟩
    · go_wp2_with fail
      go_ret
      exact ⟨rfl, H3.out.bel⟩
    · have HC' := Lib.hid hc'
      have HB := Lib.hid (hrow.bytes (enc_in a' b' c' n' q' s') (enc_len a' b' c' n' q' s'))
      clear hc' hrow
      have K1 := Lib.hid (enc_inj HC.out HQ.out HS.out HC'.out HQ'.out HS'.out)
      have K2 := Lib.hid (enc12_inj (q := q) (s := s) (q' := q') (s' := s') HC.out HC'.out)
      go_wp2_with fail
      refine (same_any _ _ 28 _ _ _ _ _ w3 (by unfold maxLen; omega) HA.out HB.out (Nat.le_refl _)).mono ?_
      rintro e w4 ⟨rfl, hw4⟩
      obtain ⟨t1, ht1⟩ : ∃ t, decide (enc a b c n q s = enc a' b' c' n' q' s') = t := ⟨_, rfl⟩
      rw [ht1]
      have H4 := Lib.hid (H3.out.next hw4)
      replace HX := Lib.hid (And.intro (HX.out.1.below hw4) (HX.out.2.below hw4))
      replace HA := Lib.hid (bytes_more (bytes_below HA.out hw4) hw4.size)
      replace HB := Lib.hid (bytes_more (bytes_below HB.out hw4) hw4.size)
      have T1 := Lib.hid ht1
      clear hw4 ht1
      go_wp2_with fail
      go_still_tail 4, (by kernel_rfl)
      change wpList _ _ _ _ _ w4.drew
      go_wp2_with fail
      refine (same_any _ _ 12 _ _ _ _ _ w4.drew (by unfold maxLen; omega) (bytes_part (bytes_drew HA.out) 0 12 (by omega)) (bytes_part (bytes_drew HB.out) 0 12 (by omega)) (Nat.le_refl _)).mono ?_
      rintro e w5 ⟨rfl, hw5⟩
      obtain ⟨t2, ht2⟩ : ∃ t, decide (Ks.part (enc a b c n q s) 0 12 = Ks.part (enc a' b' c' n' q' s') 0 12) = t := ⟨_, rfl⟩
      rw [ht2]
      replace hw5 : Below w4.heap.size w4 w5 := below_of_drew hw5
      have H5 := Lib.hid (H4.out.next hw5).bel
      obtain ⟨x0, x1, x2, x3, x4, x5⟩ := HX.out.1.below hw5
      obtain ⟨y0, y1, y2, y3, y4, y5⟩ := HX.out.2.below hw5
      have T2 := Lib.hid ht2
      clear hw5 ht2 HX
      have HN := Lib.hid (fun (h1 : a = a') (h2 : b = b') (h3 : c = c') => show n = n' by rw [can_total HC.out, can_total HC'.out, h1, h2, h3])
      by_cases k0 : a = a'
      rotate_left
      · obtain rfl : t1 = false := by rw [← T1.out]; exact decide_eq_false (fun e => k0 (K1.out.1 e).1)
        obtain rfl : t2 = false := by rw [← T2.out]; exact decide_eq_false (fun e => k0 (K2.out.1 e).1)
        have e : (a == a') = false := by simpa using k0
        clear k0 T1 T2 K1 K2 HN HC HC' HQ HS HQ' HS' HA HB
        go_wp2_with fail
        go_ret
        exact ⟨rfl, H5.out⟩
      by_cases k1 : b = b'
      rotate_left
      · obtain rfl : t1 = false := by rw [← T1.out]; exact decide_eq_false (fun e => k1 (K1.out.1 e).2.1)
        obtain rfl : t2 = false := by rw [← T2.out]; exact decide_eq_false (fun e => k1 (K2.out.1 e).2.1)
        have e : (b == b') = false := by simpa using k1
        clear k1 T1 T2 K1 K2 HN HC HC' HQ HS HQ' HS' HA HB
        go_wp2_with fail
        go_ret
        exact ⟨rfl, H5.out⟩
      by_cases k2 : c = c'
      rotate_left
      · obtain rfl : t1 = false := by rw [← T1.out]; exact decide_eq_false (fun e => k2 (K1.out.1 e).2.2.1)
        obtain rfl : t2 = false := by rw [← T2.out]; exact decide_eq_false (fun e => k2 (K2.out.1 e).2.2)
        have e : (c == c') = false := by simpa using k2
        clear k2 T1 T2 K1 K2 HN HC HC' HQ HS HQ' HS' HA HB
        go_wp2_with fail
        go_ret
        exact ⟨rfl, H5.out⟩
      have kn := HN.out k0 k1 k2
      subst k0 k1 k2 kn
      obtain rfl : t2 = true := by rw [← T2.out]; exact decide_eq_true (K2.out.2 ⟨rfl, rfl, rfl⟩)
      by_cases k0 : q = q'
      rotate_left
      · obtain rfl : t1 = false := by rw [← T1.out]; exact decide_eq_false (fun e => k0 (K1.out.1 e).2.2.2.2.1)
        have e : (q == q') = false := by simpa using k0
        clear k0 T1 T2 K1 K2 HN HC HC' HQ HS HQ' HS' HA HB
        go_wp2_with fail
        go_ret
        exact ⟨rfl, H5.out⟩
      subst k0
      by_cases k1 : s = s'
      rotate_left
      · obtain rfl : t1 = false := by rw [← T1.out]; exact decide_eq_false (fun e => k1 (K1.out.1 e).2.2.2.2.2)
        have e : (s == s') = false := by simpa using k1
        clear k1 T1 T2 K1 K2 HN HC HC' HQ HS HQ' HS' HA HB
        go_wp2_with fail
        go_ret
        exact ⟨rfl, H5.out⟩
      subst k1
      obtain rfl : t1 = true := by rw [← T1.out]; exact decide_eq_true rfl
      clear T1 T2 K1 K2 HN HC HC' HQ HS HQ' HS' HA HB
      go_wp2_with fail
      go_ret
      exact ⟨rfl, H5.out⟩
end Go.Proofs.YtdafmjklkggbgaaDoor
