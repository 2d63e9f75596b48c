/-
  THE WALK OF keepsakelaw05.ImagePacks.
-/
import Derived.Test.YtcojpiepbdcohaaDoorPack
namespace Go.Proofs.YtcojpiepbdcohaaDoor
open Go.RowKit

theorem packs_long (w : World) (a b c : Int) (A1 A2 A3 : Option Addr) (n1 c1 n2 c2 n3 c3 : Nat) (m1 : n1 ≤ maxLen) (m2 : n2 ≤ maxLen) (m3 : n3 ≤ maxLen) (h : 1000 < n1 ∨ 1000 < n2 ∨ 1000 < n3) (hT : Tab w) : Calls Tryd.prog 4 #[.agg #[.int .i64 a, .int .i64 b, .int .i64 c], .slice A1 n1 c1, .slice A2 n2 c2, .slice A3 n3 c3] w fun e w' => e = .returned (.bool true) ∧ Below w.heap.size w w' := by
  unfold maxLen at m1 m2 m3
  have HT := Lib.hid (fun o => (On.start hT).next (below_box w o))
  clear hT
  by_cases h1 : 1000 < n1
  · clear h
    go_enter Tryd.func4, Tryd.ntmps4
    go_wp2_with fail
    refine (awake_any _ (HT.out _).tab).mono ?_
    rintro e w1 ⟨rfl, hw1⟩
    have HO := Lib.hid ((HT.out _).next hw1.bel)
    have ht1 := (Tri.new w a b c 23).next hw1.bel
    clear hw1
    have HTR := Lib.hid ht1
    obtain ⟨hc0, hc1, hc2⟩ := ht1
    go_wp2_with fail
    go_ret
    exact ⟨rfl, HO.out.bel⟩
  · by_cases h2 : 1000 < n2
    · clear h
      go_enter Tryd.func4, Tryd.ntmps4
      go_wp2_with fail
      refine (awake_any _ (HT.out _).tab).mono ?_
      rintro e w1 ⟨rfl, hw1⟩
      have HO := Lib.hid ((HT.out _).next hw1.bel)
      have ht1 := (Tri.new w a b c 23).next hw1.bel
      clear hw1
      have HTR := Lib.hid ht1
      obtain ⟨hc0, hc1, hc2⟩ := ht1
      go_wp2_with fail
      go_ret
      exact ⟨rfl, HO.out.bel⟩
    · have h3 : 1000 < n3 := by omega
      clear h
      go_enter Tryd.func4, Tryd.ntmps4
      go_wp2_with fail
      refine (awake_any _ (HT.out _).tab).mono ?_
      rintro e w1 ⟨rfl, hw1⟩
      have HO := Lib.hid ((HT.out _).next hw1.bel)
      have ht1 := (Tri.new w a b c 23).next hw1.bel
      clear hw1
      have HTR := Lib.hid ht1
      obtain ⟨hc0, hc1, hc2⟩ := ht1
      go_wp2_with fail
      go_ret
      exact ⟨rfl, HO.out.bel⟩

theorem packs_geo (w : World) (a b c : Int) (A1 A2 A3 : Option Addr) (n1 c1 n2 c2 n3 c3 : Nat) (h1 : n1 ≤ 1000) (h2 : n2 ≤ 1000) (h3 : n3 ≤ 1000) (hr : right a b c = false) (hT : Tab w) : Calls Tryd.prog 4 #[.agg #[.int .i64 a, .int .i64 b, .int .i64 c], .slice A1 n1 c1, .slice A2 n2 c2, .slice A3 n3 c3] w fun e w' => e = .returned (.bool true) ∧ Below w.heap.size w w' := by
  have HT := Lib.hid (fun o => (On.start hT).next (below_box w o))
  have HR := Lib.hid hr
  clear hr
  clear hT
  go_enter Tryd.func4, Tryd.ntmps4
  go_wp2_with fail
  refine (awake_any _ (HT.out _).tab).mono ?_
  rintro e w1 ⟨rfl, hw1⟩
  have HO := Lib.hid ((HT.out _).next hw1.bel)
  have ht1 := (Tri.new w a b c 23).next hw1.bel
  clear hw1
  have HTR := Lib.hid ht1
  obtain ⟨hc0, hc1, hc2⟩ := ht1
  go_wp2_with fail
  refine (pack_geo a b c A1 A2 A3 n1 c1 n2 c2 n3 c3 _ HO.out.tab HR.out).mono ?_
  rintro e w2 ⟨rfl, hw2⟩
  have HO2 := Lib.hid (HO.out.next hw2.bel)
  have ht2 := HTR.out.next hw2.bel
  clear hw2 hc0 hc1 hc2
  obtain ⟨hc0, hc1, hc2⟩ := ht2
  go_wp2_with fail
  refine (refPack_geo a b c A1 A2 A3 n1 c1 n2 c2 n3 c3 _ HO2.out.tab HR.out).mono ?_
  rintro e w3 ⟨rfl, hw3⟩
  have HO3 := Lib.hid (HO2.out.next hw3.bel)
  clear hw3 hc0 hc1 hc2
  go_wp2_with fail
  refine (same_refl none none 0 0 0 0 [] w3 (by decide) (bytes_nil _ _) (bytes_nil _ _) (Nat.zero_le _)).mono ?_
  rintro e w4 ⟨rfl, hw4⟩
  have HO4 := Lib.hid (HO3.out.next hw4)
  clear hw4
  go_wp2_with fail
  go_ret
  exact ⟨rfl, HO4.out.bel⟩

theorem packs_arg (w : World) (a b c : Int) (A1 A2 A3 : Option Addr) (n1 c1 n2 c2 n3 c3 : Nat) (h1 : n1 ≤ 1000) (h2 : n2 ≤ 1000) (h3 : n3 ≤ 1000) (hr : right a b c = true) (hne : ¬ ((n1 : Int) = col a 0 ∧ (n2 : Int) = bytesOf b 64 256 ∧ (n3 : Int) = bytesOf c 128 64)) (hT : Tab w) : Calls Tryd.prog 4 #[.agg #[.int .i64 a, .int .i64 b, .int .i64 c], .slice A1 n1 c1, .slice A2 n2 c2, .slice A3 n3 c3] w fun e w' => e = .returned (.bool true) ∧ Below w.heap.size w w' := by
  have HT := Lib.hid (fun o => (On.start hT).next (below_box w o))
  have HR := Lib.hid hr
  have HN := Lib.hid hne
  clear hr hne
  clear hT
  go_enter Tryd.func4, Tryd.ntmps4
  go_wp2_with fail
  refine (awake_any _ (HT.out _).tab).mono ?_
  rintro e w1 ⟨rfl, hw1⟩
  have HO := Lib.hid ((HT.out _).next hw1.bel)
  have ht1 := (Tri.new w a b c 23).next hw1.bel
  clear hw1
  have HTR := Lib.hid ht1
  obtain ⟨hc0, hc1, hc2⟩ := ht1
  go_wp2_with fail
  refine (pack_arg a b c _ _ _ A1 A2 A3 n1 c1 n2 c2 n3 c3 _ HO.out.tab HR.out rfl rfl rfl HN.out).mono ?_
  rintro e w2 ⟨rfl, hw2⟩
  have HO2 := Lib.hid (HO.out.next hw2.bel)
  have ht2 := HTR.out.next hw2.bel
  clear hw2 hc0 hc1 hc2
  obtain ⟨hc0, hc1, hc2⟩ := ht2
  go_wp2_with fail
  refine (refPack_arg a b c _ _ _ A1 A2 A3 n1 c1 n2 c2 n3 c3 _ HO2.out.tab HR.out rfl rfl rfl HN.out).mono ?_
  rintro e w3 ⟨rfl, hw3⟩
  have HO3 := Lib.hid (HO2.out.next hw3.bel)
  clear hw3 hc0 hc1 hc2
  go_wp2_with fail
  refine (same_refl none none 0 0 0 0 [] w3 (by decide) (bytes_nil _ _) (bytes_nil _ _) (Nat.zero_le _)).mono ?_
  rintro e w4 ⟨rfl, hw4⟩
  have HO4 := Lib.hid (HO3.out.next hw4)
  clear hw4
  go_wp2_with fail
  go_ret
  exact ⟨rfl, HO4.out.bel⟩

theorem packs_ok (w : World) (a b c : Int) (A1 A2 A3 : Option Addr) (n1 c1 n2 c2 n3 c3 : Nat) (l1 l2 l3 : List Int) (h1 : n1 ≤ 1000) (h2 : n2 ≤ 1000) (h3 : n3 ≤ 1000) (hr : right a b c = true) (he : (n1 : Int) = col a 0 ∧ (n2 : Int) = bytesOf b 64 256 ∧ (n3 : Int) = bytesOf c 128 64)
    (b1 : Byv w w.heap.size (.slice A1 n1 c1) l1) (b2 : Byv w w.heap.size (.slice A2 n2 c2) l2) (b3 : Byv w w.heap.size (.slice A3 n3 c3) l3) (hT : Tab w) : Calls Tryd.prog 4 #[.agg #[.int .i64 a, .int .i64 b, .int .i64 c], .slice A1 n1 c1, .slice A2 n2 c2, .slice A3 n3 c3] w fun e w' => e = .returned (.bool true) ∧ Below w.heap.size w w' := by
  have HT := Lib.hid (fun o => (On.start hT).next (below_box w o))
  have HR := Lib.hid hr
  have HN := Lib.hid he
  have B1 := Lib.hid b1
  have B2 := Lib.hid b2
  have B3 := Lib.hid b3
  have HIN := Lib.hid (show ∀ v ∈ l1 ++ l2 ++ l3, 0 ≤ v ∧ v ≤ 255 by
    intro v hv
    rcases List.mem_append.1 hv with hv | hv
    · rcases List.mem_append.1 hv with hv | hv
      · exact b1.of.2.2.1 v hv
      · exact b2.of.2.2.1 v hv
    · exact b3.of.2.2.1 v hv)
  obtain ⟨m, hm⟩ : ∃ m, (l1 ++ l2 ++ l3).length = m := ⟨_, rfl⟩
  have hm1 : m ≤ 3000 := by have := b1.of.1; have := b2.of.1; have := b3.of.1; simp at hm; omega
  have HM := Lib.hid hm
  clear hT hr he b1 b2 b3 hm
  go_enter Tryd.func4, Tryd.ntmps4
  go_wp2_with fail
  refine (awake_any _ (HT.out _).tab).mono ?_
  rintro e w1 ⟨rfl, hw1⟩
  have HO := Lib.hid ((HT.out _).next hw1.bel)
  have ht1 := (Tri.new w a b c 23).next hw1.bel
  clear hw1
  have HTR := Lib.hid ht1
  obtain ⟨hc0, hc1, hc2⟩ := ht1
  go_wp2_with fail
  refine (pack_ok a b c _ _ _ A1 A2 A3 n1 c1 n2 c2 n3 c3 l1 l2 l3 _ HO.out.tab HR.out rfl rfl rfl HN.out.1 HN.out.2.1 HN.out.2.2 (B1.out.next HO.out.bel) (B2.out.next HO.out.bel) (B3.out.next HO.out.bel)).mono ?_
  rintro e w2 ⟨v2, rfl, hw2, ho2⟩
  obtain ⟨A4, c4, rfl, _, hy2⟩ := ho2.bytes HIN.out
  rw [HM.out] at hy2 ⊢
  have HY2 := Lib.hid hy2
  have HO2 := Lib.hid (HO.out.next hw2.bel)
  have ht2 := HTR.out.next hw2.bel
  clear hw2 hc0 hc1 hc2 ho2 hy2
  obtain ⟨hc0, hc1, hc2⟩ := ht2
  go_wp2_with fail
  refine (refPack_ok a b c _ _ _ A1 A2 A3 n1 c1 n2 c2 n3 c3 l1 l2 l3 _ HO2.out.tab HR.out rfl rfl rfl HN.out.1 HN.out.2.1 HN.out.2.2 (B1.out.next HO2.out.bel) (B2.out.next HO2.out.bel) (B3.out.next HO2.out.bel)).mono ?_
  rintro e w3 ⟨v3, rfl, hw3, ho3⟩
  obtain ⟨A5, c5, rfl, _, hy3⟩ := ho3.bytes HIN.out
  rw [HM.out] at hy3 ⊢
  have HY3 := Lib.hid hy3
  have HO3 := Lib.hid (HO2.out.next hw3.bel)
  have HY4 := Lib.hid (bytes_mono (bytes_below HY2.out hw3.bel) hw3.bel.size)
  clear hw3 hc0 hc1 hc2 ho3 hy3
  go_wp2_with fail
  refine (same_refl A4 A5 m c4 c5 w3.heap.size _ w3 (by unfold maxLen; omega) HY4.out HY3.out (Nat.le_refl _)).mono ?_
  rintro e w4 ⟨rfl, hw4⟩
  have HO4 := Lib.hid (HO3.out.next hw4)
  clear hw4
  go_wp2_with fail
  go_ret
  exact ⟨rfl, HO4.out.bel⟩

theorem imagePacks_walk (w : World) (a : Int) (_wa : (Lit.int .i64 a).wf = true) (b : Int) (_wb : (Lit.int .i64 b).wf = true) (c : Int) (_wc : (Lit.int .i64 c).wf = true) (A1 : Option Addr) (n1 c1 : Nat) (z1 : List Int) (r1 : IsRow .u8 w A1 n1 c1 z1) (A2 : Option Addr) (n2 c2 : Nat) (z2 : List Int) (r2 : IsRow .u8 w A2 n2 c2 z2) (A3 : Option Addr) (n3 c3 : Nat) (z3 : List Int) (r3 : IsRow .u8 w A3 n3 c3 z3) (hT : Tab w) : Calls Tryd.prog 4 #[.agg #[.int .i64 a, .int .i64 b, .int .i64 c], .slice A1 n1 c1, .slice A2 n2 c2, .slice A3 n3 c3] w fun e w' => e = .returned (.bool true) ∧ Below w.heap.size w w' := by
  by_cases h : 1000 < n1 ∨ 1000 < n2 ∨ 1000 < n3
  · exact packs_long w a b c A1 A2 A3 n1 c1 n2 c2 n3 c3 r1.len_le.2 r2.len_le.2 r3.len_le.2 h hT
  · cases hr : right a b c
    · exact packs_geo w a b c A1 A2 A3 n1 c1 n2 c2 n3 c3 (by omega) (by omega) (by omega) hr hT
    · by_cases he : (n1 : Int) = col a 0 ∧ (n2 : Int) = bytesOf b 64 256 ∧ (n3 : Int) = bytesOf c 128 64
      · exact packs_ok w a b c A1 A2 A3 n1 c1 n2 c2 n3 c3 _ _ _ (by omega) (by omega) (by omega) hr he r1.byv r2.byv r3.byv hT
      · exact packs_arg w a b c A1 A2 A3 n1 c1 n2 c2 n3 c3 (by omega) (by omega) (by omega) hr he hT
end Go.Proofs.YtcojpiepbdcohaaDoor
