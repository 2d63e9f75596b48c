/-
  THE WALKS OF HeadTells, HeadNumbers.
-/
import Derived.Test.YtdafmjklkggbgaaDoorAwake
import Derived.Test.YtdafmjklkggbgaaDoorRefDec
namespace Go.Proofs.YtdafmjklkggbgaaDoor
open Ks Go.RowKit

theorem headTells_walk (a : Int) (_wa : (Lit.int .i64 a).wf = true) (b : Int) (_wb : (Lit.int .i64 b).wf = true) (c : Int) (_wc : (Lit.int .i64 c).wf = true) (n : Int) (_wn : (Lit.int .i64 n).wf = true) (q : Int) (wq : (Lit.int .u64 q).wf = true) (s : Int) (ws : (Lit.int .u32 s).wf = true) (w : World) (hT : Tab w) :
    Calls Tryd.prog 3 #[headV a b c n q s] w fun e w' => e = .returned (.bool true) ∧ Below w.heap.size w w' := by
  have hq : 0 ≤ q ∧ q ≤ 18446744073709551615 := by simpa [Lit.wf, IntKind.min, IntKind.max, IntKind.signed, IntKind.bits] using wq
  have hs : 0 ≤ s ∧ s ≤ 4294967295 := by simpa [Lit.wf, IntKind.min, IntKind.max, IntKind.signed, IntKind.bits] using ws
  have HQ := Lib.hid (show 0 ≤ q ∧ q < 18446744073709551616 by omega)
  have HS := Lib.hid (show 0 ≤ s ∧ s < 4294967296 by omega)
  have HT := Lib.hid (fun o => (On.start hT).next (below_box w o))
  have HB := Lib.hid (boxed6 w (.int .i64 a) (.int .i64 b) (.int .i64 c) (.int .i64 n) (.int .u64 q) (.int .u32 s) 27)
  clear hT hq hs wq ws _wa _wb _wc _wn
  go_enter Tryd.func3, Tryd.ntmps3
  go_wp2_with fail
  have HP := Lib.hid (show w.heap.size < (w.alloc (.cells #[.int .i64 a, .int .i64 b, .int .i64 c, .int .i64 n, .int .u64 q, .int .u32 s] 27)).heap.size by simp)
  have HO := Lib.hid (HT.out (.cells #[.int .i64 a, .int .i64 b, .int .i64 c, .int .i64 n, .int .u64 q, .int .u32 s] 27))
  clear HT
  generalize w.alloc (.cells #[.int .i64 a, .int .i64 b, .int .i64 c, .int .i64 n, .int .u64 q, .int .u32 s] 27) = W at *
  refine (awake_any _ _ (On.start HO.out.tab)).mono ?_
  rintro e w1 ⟨rfl, hw1⟩
  have H1 := Lib.hid hw1
  obtain ⟨x0, x1, x2, x3, x4, x5⟩ := cells6 hw1.bel HP.out HB.out
  clear hw1
  go_wp2_with fail
  clear x0 x1 x2 x3 x4 x5
  cases hr : can a b c n
  · have HR := Lib.hid hr
    clear hr
    refine (enc_no a b c n q s _ _ H1.out HR.out).mono ?_
    rintro e w2 ⟨rfl, hw2⟩
    have H2 := Lib.hid hw2
    obtain ⟨x0, x1, x2, x3, x4, x5⟩ := cells6 hw2.bel HP.out HB.out
    clear hw2
    go_wp2_with fail
    clear x0 x1 x2 x3 x4 x5
    refine (refEnc_no a b c n q s _ _ H2.out HR.out).mono ?_
    rintro e w3 ⟨rfl, hw3⟩
    have H3 := Lib.hid hw3
    clear hw3
    go_wp2_with fail
    refine (same_any none none 0 0 0 0 [] [] w3 (by unfold maxLen; omega) ⟨rfl, by simp, fun h => absurd h (by omega)⟩ ⟨rfl, by simp, fun h => absurd h (by omega)⟩ (Nat.zero_le _)).mono ?_
    rintro e w4 ⟨rfl, hw4⟩
    have HF := Lib.hid (HO.out.next (H3.out.next hw4).bel).bel
    clear hw4
    go_wp2_with fail
    go_ret
    exact ⟨rfl, HF.out⟩
  · have HR := Lib.hid hr
    clear hr
    refine (enc_ok a b c n q s _ _ H1.out HR.out HQ.out HS.out).mono ?_
    rintro e w2 ⟨g, rfl, hw2, hg, hrow⟩
    have H2 := Lib.hid hw2
    have HROW := Lib.hid (hrow.bytes (enc_in a b c n q s) (enc_len a b c n q s))
    obtain ⟨x0, x1, x2, x3, x4, x5⟩ := cells6 hw2.bel HP.out HB.out
    clear hw2 hg hrow
    go_wp2_with fail
    clear x0 x1 x2 x3 x4 x5
    refine (refEnc_ok a b c n q s _ _ (On.start H2.out.tab) HR.out HQ.out HS.out).mono ?_
    rintro e w3 ⟨A, cc, rfl, hw3, hby⟩
    have H3 := Lib.hid (H2.out.next hw3.bel)
    have HA := Lib.hid (bytes_more (bytes_below HROW.out hw3.bel) hw3.bel.size)
    have HBY := Lib.hid hby
    clear hw3 hby HROW
    go_wp2_with fail
    refine (same_any _ A 28 _ _ w3.heap.size _ _ w3 (by unfold maxLen; omega) HA.out HBY.out (Nat.le_refl _)).mono ?_
    rw [decide_eq_true rfl]
    rintro e w4 ⟨rfl, hw4⟩
    have HF := Lib.hid (HO.out.next (H3.out.next hw4).bel).bel
    clear hw4
    go_wp2_with fail
    go_ret
    exact ⟨rfl, HF.out⟩
end Go.Proofs.YtdafmjklkggbgaaDoor
