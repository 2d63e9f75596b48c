/-
  THE WALK OF keepsakelaw05.ImageFactory.
-/
import Derived.Test.YtcojpiepbdcohaaDoorRefFac
namespace Go.Proofs.YtcojpiepbdcohaaDoor
open Go.RowKit

theorem fac_len {a b c : Int} (h : right a b c = true) : (fac a b c).length = facM a b c := by
  unfold fac
  exact facAt_len _ _ (fac_nums h).2.2.1
theorem refFactory_at (a b c : Int) (w : World) (H : Tab w) (hr : right a b c = true) :
    Calls Tryd.prog 12 #[geoV a b c] w fun e w' => ∃ A k, e = .returned (.tuple #[.slice A (facM a b c) k, .int .i64 0]) ∧ On w w' ∧ Bytes w' w'.heap.size A (facM a b c) (fac a b c) := by
  refine (refFactory_ok a b c w w (On.start H) hr).mono ?_
  rintro e w' ⟨v, rfl, ho, hown⟩
  obtain ⟨A, k, rfl, _, hy⟩ := hown.bytes (facAt_in _ _)
  rw [fac_len hr] at hy ⊢
  exact ⟨A, k, rfl, ho, hy⟩
theorem factory_at (a b c : Int) (w : World) (H : Tab w) (hr : right a b c = true) :
    Calls Tryd.prog 11 #[geoV a b c] w fun e w' => ∃ g, e = .returned (.tuple #[.slice (some ⟨g, 0, none⟩) (facM a b c) (facM a b c), .int .i64 0]) ∧ On w w' ∧ Bytes w' w'.heap.size (some ⟨g, 0, none⟩) (facM a b c) (fac a b c) := by
  refine (factory_ok a b c w w (On.start H) hr).mono ?_
  rintro e w' ⟨g, rfl, ho, _, hR⟩
  exact ⟨g, rfl, ho, hR.bytes (facAt_in _ _) (fac_len hr)⟩

theorem imageFactory_walk (a : Int) (_wa : (Lit.int .i64 a).wf = true) (b : Int) (_wb : (Lit.int .i64 b).wf = true) (c : Int) (_wc : (Lit.int .i64 c).wf = true) (w : World) (hT : Tab w) :
    Calls Tryd.prog 3 #[.agg #[.int .i64 a, .int .i64 b, .int .i64 c]] w fun e w' => e = .returned (.bool true) ∧ Below w.heap.size w w' := by
  have HT := Lib.hid (fun o => (On.start hT).next (below_box w o))
  clear hT
  by_cases h1 : 6 < a ∧ a ≤ 10
  · obtain ⟨h1, h2⟩ := h1
    go_enter Tryd.func3, Tryd.ntmps3
    go_wp2_with fail
    refine (awake_any _ (HT.out _).tab).mono ?_
    rintro e w1 ⟨rfl, hw1⟩
    have HO := Lib.hid ((HT.out _).next hw1.bel)
    have ht1 := (Tri.new w a b c 23).next hw1.bel
    clear hw1
    obtain ⟨hc0, hc1, hc2⟩ := ht1
    go_wp2_with fail
    go_ret
    exact ⟨rfl, HO.out.bel⟩
  · have h2 : a ≤ 6 ∨ 10 < a := by omega
    clear h1
    cases hr : right a b c
    · have HR := Lib.hid hr
      clear hr
      rcases h2 with h2 | h2
      · go_enter Tryd.func3, Tryd.ntmps3
        go_wp2_with fail
        refine (awake_any _ (HT.out _).tab).mono ?_
        rintro e w1 ⟨rfl, hw1⟩
        have HO := Lib.hid ((HT.out _).next hw1.bel)
        have ht1 := (Tri.new w a b c 23).next hw1.bel
        clear hw1
        have HTR := Lib.hid ht1
        obtain ⟨hc0, hc1, hc2⟩ := ht1
        go_wp2_with fail
        refine (factory_bad a b c _ _ (On.start HO.out.tab) HR.out).mono ?_
        rintro e w2 ⟨rfl, hw2⟩
        have HO2 := Lib.hid (HO.out.next hw2.bel)
        have ht2 := HTR.out.next hw2.bel
        clear hw2 hc0 hc1 hc2
        obtain ⟨hc0, hc1, hc2⟩ := ht2
        go_wp2_with fail
        refine (refFactory_bad a b c _ _ (On.start HO2.out.tab) HR.out).mono ?_
        rintro e w3 ⟨rfl, hw3⟩
        have HO3 := Lib.hid (HO2.out.next hw3.bel)
        clear hw3 hc0 hc1 hc2
        go_wp2_with fail
        refine (same_refl none none 0 0 0 0 [] w3 (by decide) (bytes_nil _ _) (bytes_nil _ _) (Nat.zero_le _)).mono ?_
        rintro e w4 ⟨rfl, hw4⟩
        have HO4 := Lib.hid (HO3.out.next hw4)
        clear hw4
        go_wp2_with fail
        go_ret
        exact ⟨rfl, HO4.out.bel⟩
      · go_enter Tryd.func3, Tryd.ntmps3
        go_wp2_with fail
        refine (awake_any _ (HT.out _).tab).mono ?_
        rintro e w1 ⟨rfl, hw1⟩
        have HO := Lib.hid ((HT.out _).next hw1.bel)
        have ht1 := (Tri.new w a b c 23).next hw1.bel
        clear hw1
        have HTR := Lib.hid ht1
        obtain ⟨hc0, hc1, hc2⟩ := ht1
        go_wp2_with fail
        refine (factory_bad a b c _ _ (On.start HO.out.tab) HR.out).mono ?_
        rintro e w2 ⟨rfl, hw2⟩
        have HO2 := Lib.hid (HO.out.next hw2.bel)
        have ht2 := HTR.out.next hw2.bel
        clear hw2 hc0 hc1 hc2
        obtain ⟨hc0, hc1, hc2⟩ := ht2
        go_wp2_with fail
        refine (refFactory_bad a b c _ _ (On.start HO2.out.tab) HR.out).mono ?_
        rintro e w3 ⟨rfl, hw3⟩
        have HO3 := Lib.hid (HO2.out.next hw3.bel)
        clear hw3 hc0 hc1 hc2
        go_wp2_with fail
        refine (same_refl none none 0 0 0 0 [] w3 (by decide) (bytes_nil _ _) (bytes_nil _ _) (Nat.zero_le _)).mono ?_
        rintro e w4 ⟨rfl, hw4⟩
        have HO4 := Lib.hid (HO3.out.next hw4)
        clear hw4
        go_wp2_with fail
        go_ret
        exact ⟨rfl, HO4.out.bel⟩
    · have HR := Lib.hid hr
      have hfm := (fac_nums hr).2.2.2.1
      clear hr
      rcases h2 with h2 | h2
      · go_enter Tryd.func3, Tryd.ntmps3
        go_wp2_with fail
        refine (awake_any _ (HT.out _).tab).mono ?_
        rintro e w1 ⟨rfl, hw1⟩
        have HO := Lib.hid ((HT.out _).next hw1.bel)
        have ht1 := (Tri.new w a b c 23).next hw1.bel
        clear hw1
        have HTR := Lib.hid ht1
        obtain ⟨hc0, hc1, hc2⟩ := ht1
        go_wp2_with fail
        refine (factory_at a b c _ HO.out.tab HR.out).mono ?_
        rintro e w2 ⟨g, rfl, hw2, hy2⟩
        have HO2 := Lib.hid (HO.out.next hw2.bel)
        have HY2 := Lib.hid hy2
        have ht2 := HTR.out.next hw2.bel
        clear hw2 hc0 hc1 hc2 hy2
        obtain ⟨hc0, hc1, hc2⟩ := ht2
        go_wp2_with fail
        refine (refFactory_at a b c _ HO2.out.tab HR.out).mono ?_
        rintro e w3 ⟨A3, k3, rfl, hw3, hy3⟩
        have HO3 := Lib.hid (HO2.out.next hw3.bel)
        have HY3 := Lib.hid hy3
        have HY2' := Lib.hid (bytes_mono (bytes_below HY2.out hw3.bel) hw3.bel.size)
        clear hw3 hc0 hc1 hc2 hy3
        go_wp2_with fail
        refine (same_refl _ _ (facM a b c) _ _ w3.heap.size (fac a b c) w3 (by unfold maxLen; omega) HY2'.out HY3.out (Nat.le_refl _)).mono ?_
        rintro e w4 ⟨rfl, hw4⟩
        have HO4 := Lib.hid (HO3.out.next hw4)
        clear hw4
        go_wp2_with fail
        go_ret
        exact ⟨rfl, HO4.out.bel⟩
      · go_enter Tryd.func3, Tryd.ntmps3
        go_wp2_with fail
        refine (awake_any _ (HT.out _).tab).mono ?_
        rintro e w1 ⟨rfl, hw1⟩
        have HO := Lib.hid ((HT.out _).next hw1.bel)
        have ht1 := (Tri.new w a b c 23).next hw1.bel
        clear hw1
        have HTR := Lib.hid ht1
        obtain ⟨hc0, hc1, hc2⟩ := ht1
        go_wp2_with fail
        refine (factory_at a b c _ HO.out.tab HR.out).mono ?_
        rintro e w2 ⟨g, rfl, hw2, hy2⟩
        have HO2 := Lib.hid (HO.out.next hw2.bel)
        have HY2 := Lib.hid hy2
        have ht2 := HTR.out.next hw2.bel
        clear hw2 hc0 hc1 hc2 hy2
        obtain ⟨hc0, hc1, hc2⟩ := ht2
        go_wp2_with fail
        refine (refFactory_at a b c _ HO2.out.tab HR.out).mono ?_
        rintro e w3 ⟨A3, k3, rfl, hw3, hy3⟩
        have HO3 := Lib.hid (HO2.out.next hw3.bel)
        have HY3 := Lib.hid hy3
        have HY2' := Lib.hid (bytes_mono (bytes_below HY2.out hw3.bel) hw3.bel.size)
        clear hw3 hc0 hc1 hc2 hy3
        go_wp2_with fail
        refine (same_refl _ _ (facM a b c) _ _ w3.heap.size (fac a b c) w3 (by unfold maxLen; omega) HY2'.out HY3.out (Nat.le_refl _)).mono ?_
        rintro e w4 ⟨rfl, hw4⟩
        have HO4 := Lib.hid (HO3.out.next hw4)
        clear hw4
        go_wp2_with fail
        go_ret
        exact ⟨rfl, HO4.out.bel⟩
end Go.Proofs.YtcojpiepbdcohaaDoor
