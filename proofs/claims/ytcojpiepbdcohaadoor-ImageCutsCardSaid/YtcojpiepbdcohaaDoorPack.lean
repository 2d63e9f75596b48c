/-
  THE WALKS OF image.Pack AND OF THE DOCUMENT's.
-/
import Derived.Test.YtcojpiepbdcohaaDoorConcat
import Derived.Test.YtcojpiepbdcohaaDoorRefFac
namespace Go.Proofs.YtcojpiepbdcohaaDoor
open Go.RowKit

/-- three lists of bytes in a row -/
theorem lsts3 (w : World) (v1 v2 v3 : Value) (x y z : List Int) (h1 : Byv w w.heap.size v1 x) (h2 : Byv w w.heap.size v2 y) (h3 : Byv w w.heap.size v3 z) :
    Lsts (w.alloc (.cells #[v1, v2, v3] 25)) (w.heap.size + 1) (some ⟨w.heap.size, 0, none⟩) 3 [x, y, z] := by
  have hV : Vals (w.alloc (.cells #[v1, v2, v3] 25)) w.heap.size 25 [v1, v2, v3] := heap_alloc_new w _
  have up : ∀ v l, Byv w w.heap.size v l → Byv (w.alloc (.cells #[v1, v2, v3] 25)) (w.heap.size + 1) v l := by
    intro v l h
    obtain ⟨A, c, e, a1, a2, a3⟩ := h.below (below_box w _)
    exact ⟨A, c, e, a1, a2, bytes_mono a3 (by omega)⟩
  refine ⟨rfl, fun _ => ⟨w.heap.size, 0, rfl, by omega, fun k hk => ?_⟩⟩
  rw [Nat.zero_add, hV.cell]
  rcases k with _ | _ | _ | k
  · exact ⟨v1, rfl, up _ _ h1⟩
  · exact ⟨v2, rfl, up _ _ h2⟩
  · exact ⟨v3, rfl, up _ _ h3⟩
  · omega
theorem Byv.mono {w : World} {B C : Nat} {v : Value} {l : List Int} (h : Byv w B v l) (hBC : B ≤ C) : Byv w C v l := by
  obtain ⟨A, c, e, a1, a2, a3⟩ := h
  exact ⟨A, c, e, a1, a2, bytes_mono a3 hBC⟩
theorem Byv.next {w w' : World} {v : Value} {l : List Int} (h : Byv w w.heap.size v l) (hb : Below w.heap.size w w') : Byv w' w'.heap.size v l := (h.below hb).mono hb.size
theorem Byv.of {w : World} {B n c : Nat} {A : Option Addr} {l : List Int} (h : Byv w B (.slice A n c) l) : l.length = n ∧ Bytes w B A n l := by
  obtain ⟨A', c', e, _, _, h3⟩ := h
  injection e with e1 e2 e3
  subst e1 e2 e3
  exact ⟨rfl, h3⟩
theorem Own.byv {base : Nat} {w : World} {v : Value} {l : List Int} (h : Own base w v l) (hv : ∀ v ∈ l, 0 ≤ v ∧ v ≤ 255) : Byv w w.heap.size v l := by
  rcases h.2 with ⟨rfl, h0⟩ | ⟨g, cap, cur, rfl, hg, hh, hn, _⟩
  · exact ⟨none, 0, by rw [h0], by omega, fun _ => rfl, by rw [h0]; exact ⟨h0, hv, fun h => absurd h (by omega)⟩⟩
  · obtain ⟨A, c, e, h1, h2⟩ := h.bytes hv
    injection e with e1 e2 e3
    subst e1 e3
    exact ⟨_, _, rfl, h1, fun h => (by cases h), h2⟩
theorem IsRow.byv {w : World} {a : Option Addr} {len cap : Nat} {zs : List Int} (h : IsRow .u8 w a len cap zs) : Byv w w.heap.size (.slice a len cap) (zs.take len) := by
  have hb := h.bytes
  have hl := hb.1
  refine ⟨a, cap, by rw [hl], by rw [hl]; exact h.len_le.1, fun e => ?_, by rw [hl]; exact hb⟩
  rcases h with ⟨_, _, h3, _⟩ | ⟨x, h1, _⟩
  · exact h3
  · rw [e] at h1; cases h1

theorem pack_geo (a b c : Int) (A1 A2 A3 : Option Addr) (n1 c1 n2 c2 n3 c3 : Nat) (w : World) (hT : Tab w) (hr : right a b c = false) : Calls Tryd.prog 14 #[geoV a b c, .slice A1 n1 c1, .slice A2 n2 c2, .slice A3 n3 c3] w fun e w' => e = .returned (.tuple #[.slice none 0 0, .int .i64 9]) ∧ On w w' := by
  have HT := Lib.hid (fun o => (On.start hT).next (below_box w o))
  have HR := Lib.hid hr
  clear hT hr
  go_enter Tryd.func14, Tryd.ntmps14
  go_wp2_with fail
  refine (right_at a b c false _ (HT.out _).tab HR.out).mono ?_
  rintro e w1 ⟨rfl, hw1⟩
  have HW1 := Lib.hid ((HT.out _).next hw1.bel)
  clear hw1
  go_wp2_with fail
  go_returns
  exact ⟨rfl, HW1.out⟩

theorem pack_arg (a b c x y z : Int) (A1 A2 A3 : Option Addr) (n1 c1 n2 c2 n3 c3 : Nat) (w : World) (hT : Tab w) (hr : right a b c = true) (hx : col a 0 = x) (hy : bytesOf b 64 256 = y) (hz : bytesOf c 128 64 = z) (hne : ¬ ((n1 : Int) = x ∧ (n2 : Int) = y ∧ (n3 : Int) = z)) : Calls Tryd.prog 14 #[geoV a b c, .slice A1 n1 c1, .slice A2 n2 c2, .slice A3 n3 c3] w fun e w' => e = .returned (.tuple #[.slice none 0 0, .int .i64 1]) ∧ On w w' := by
  have HT := Lib.hid (fun o => (On.start hT).next (below_box w o))
  have HR := Lib.hid hr
  have HX := Lib.hid hx
  have HY := Lib.hid hy
  have HZ := Lib.hid hz
  clear hT hr hx hy hz
  cases e1 : ((n1 : Int) != x)
  · cases e2 : ((n2 : Int) != y)
    · have e3 : ((n3 : Int) != z) = true := by
        simp at e1 e2 ⊢
        exact fun h => hne ⟨e1, e2, h⟩
      clear hne
      go_enter Tryd.func14, Tryd.ntmps14
      go_wp2_with fail
      refine (right_at a b c true _ (HT.out _).tab HR.out).mono ?_
      rintro e w1 ⟨rfl, hw1⟩
      have HW1 := Lib.hid ((HT.out _).next hw1.bel)
      have ht1 := (Tri.new w a b c 23).next hw1.bel
      clear hw1
      have HT1 := Lib.hid ht1
      obtain ⟨hc0, hc1, hc2⟩ := ht1
      go_wp2_with fail
      refine (eeprom_any a x _ _ (On.start HW1.out.tab) HX.out).mono ?_
      rintro e w2 ⟨rfl, hw2⟩
      have HW2 := Lib.hid (HW1.out.next hw2.bel)
      have ht2 := HT1.out.next hw2.bel
      clear hw2 hc0 hc1 hc2
      obtain ⟨hc0, hc1, hc2⟩ := ht2
      go_wp2_with fail
      refine (flash_any b y _ HY.out).mono ?_
      rintro e w2 ⟨rfl, rfl⟩
      go_wp2_with fail
      refine (sram_any c z _ HZ.out).mono ?_
      rintro e w2 ⟨rfl, rfl⟩
      go_wp2_with fail
      go_returns
      exact ⟨rfl, HW2.out⟩
    · clear hne
      go_enter Tryd.func14, Tryd.ntmps14
      go_wp2_with fail
      refine (right_at a b c true _ (HT.out _).tab HR.out).mono ?_
      rintro e w1 ⟨rfl, hw1⟩
      have HW1 := Lib.hid ((HT.out _).next hw1.bel)
      have ht1 := (Tri.new w a b c 23).next hw1.bel
      clear hw1
      have HT1 := Lib.hid ht1
      obtain ⟨hc0, hc1, hc2⟩ := ht1
      go_wp2_with fail
      refine (eeprom_any a x _ _ (On.start HW1.out.tab) HX.out).mono ?_
      rintro e w2 ⟨rfl, hw2⟩
      have HW2 := Lib.hid (HW1.out.next hw2.bel)
      have ht2 := HT1.out.next hw2.bel
      clear hw2 hc0 hc1 hc2
      obtain ⟨hc0, hc1, hc2⟩ := ht2
      go_wp2_with fail
      refine (flash_any b y _ HY.out).mono ?_
      rintro e w2 ⟨rfl, rfl⟩
      go_wp2_with fail
      go_returns
      exact ⟨rfl, HW2.out⟩
  · clear hne
    go_enter Tryd.func14, Tryd.ntmps14
    go_wp2_with fail
    refine (right_at a b c true _ (HT.out _).tab HR.out).mono ?_
    rintro e w1 ⟨rfl, hw1⟩
    have HW1 := Lib.hid ((HT.out _).next hw1.bel)
    have ht1 := (Tri.new w a b c 23).next hw1.bel
    clear hw1
    have HT1 := Lib.hid ht1
    obtain ⟨hc0, hc1, hc2⟩ := ht1
    go_wp2_with fail
    refine (eeprom_any a x _ _ (On.start HW1.out.tab) HX.out).mono ?_
    rintro e w2 ⟨rfl, hw2⟩
    have HW2 := Lib.hid (HW1.out.next hw2.bel)
    have ht2 := HT1.out.next hw2.bel
    clear hw2 hc0 hc1 hc2
    obtain ⟨hc0, hc1, hc2⟩ := ht2
    go_wp2_with fail
    go_returns
    exact ⟨rfl, HW2.out⟩

theorem pack_ok (a b c x y z : Int) (A1 A2 A3 : Option Addr) (n1 c1 n2 c2 n3 c3 : Nat) (l1 l2 l3 : List Int) (w : World) (hT : Tab w) (hr : right a b c = true) (hx : col a 0 = x) (hy : bytesOf b 64 256 = y) (hz : bytesOf c 128 64 = z) (h1 : (n1 : Int) = x) (h2 : (n2 : Int) = y) (h3 : (n3 : Int) = z)
    (b1 : Byv w w.heap.size (.slice A1 n1 c1) l1) (b2 : Byv w w.heap.size (.slice A2 n2 c2) l2) (b3 : Byv w w.heap.size (.slice A3 n3 c3) l3) :
    Calls Tryd.prog 14 #[geoV a b c, .slice A1 n1 c1, .slice A2 n2 c2, .slice A3 n3 c3] w fun e w' => ∃ v, e = .returned (.tuple #[v, .int .i64 0]) ∧ On w w' ∧ Own w.heap.size w' v (l1 ++ l2 ++ l3) := by
  have HT := Lib.hid (fun o => (On.start hT).next (below_box w o))
  have HR := Lib.hid hr
  have HX := Lib.hid hx
  have HY := Lib.hid hy
  have HZ := Lib.hid hz
  have hxb := hx ▸ col0_bounds a
  have hyb := hy ▸ bytesOf_bounds b 64 256 (by omega) (by omega) (by omega)
  have hzb := hz ▸ bytesOf_bounds c 128 64 (by omega) (by omega) (by omega)
  have HF := Lib.hid (show [l1, l2, l3].flatten.length ≤ 1000000 by have := b1.of.1; have := b2.of.1; have := b3.of.1; simp; omega)
  have HFE := Lib.hid (show [l1, l2, l3].flatten = l1 ++ l2 ++ l3 by simp)
  have B1 := Lib.hid b1
  have B2 := Lib.hid b2
  have B3 := Lib.hid b3
  have e1 : ((n1 : Int) != x) = false := by simp [h1]
  have e2 : ((n2 : Int) != y) = false := by simp [h2]
  have e3 : ((n3 : Int) != z) = false := by simp [h3]
  clear hT hr hx hy hz b1 b2 b3 h1 h2 h3 hxb hyb hzb
  go_enter Tryd.func14, Tryd.ntmps14
  go_wp2_with fail
  refine (right_at a b c true _ (HT.out _).tab HR.out).mono ?_
  rintro e w1 ⟨rfl, hw1⟩
  have HW1 := Lib.hid ((HT.out _).next hw1.bel)
  have ht1 := (Tri.new w a b c 23).next hw1.bel
  clear hw1
  have HT1 := Lib.hid ht1
  obtain ⟨hc0, hc1, hc2⟩ := ht1
  go_wp2_with fail
  refine (eeprom_any a x _ _ (On.start HW1.out.tab) HX.out).mono ?_
  rintro e w2 ⟨rfl, hw2⟩
  have HW2 := Lib.hid (HW1.out.next hw2.bel)
  have ht2 := HT1.out.next hw2.bel
  clear hw2 hc0 hc1 hc2
  obtain ⟨hc0, hc1, hc2⟩ := ht2
  go_wp2_with fail
  refine (flash_any b y _ HY.out).mono ?_
  rintro e w2 ⟨rfl, rfl⟩
  go_wp2_with fail
  refine (sram_any c z _ HZ.out).mono ?_
  rintro e w2 ⟨rfl, rfl⟩
  go_wp2_with fail
  refine (concat_any _ 3 3 (w2.heap.size + 1) [l1, l2, l3] _ (lsts3 w2 _ _ _ l1 l2 l3 (B1.out.next HW2.out.bel) (B2.out.next HW2.out.bel) (B3.out.next HW2.out.bel)) (by simp) HF.out (by omega)).mono ?_
  rintro e w3 ⟨v, rfl, ho, hb⟩
  rw [HFE.out] at ho
  have HW3 := Lib.hid (HW2.out.next ((below_box w2 (.cells #[.slice A1 n1 c1, .slice A2 n2 c2, .slice A3 n3 c3] 25)).trans (hb.mono (by simp))))
  have HO3 := Lib.hid (show Own w.heap.size w3 v (l1 ++ l2 ++ l3) from ⟨ho.1, ho.2.imp id fun ⟨g, cap, cur, e, hg, r⟩ => ⟨g, cap, cur, e, by have := HW2.out.bel.size; simp at hg; omega, r⟩⟩)
  clear ho hb
  go_wp2_with fail
  go_returns
  exact ⟨_, rfl, HW3.out, HO3.out⟩

theorem refPack_geo (a b c : Int) (A1 A2 A3 : Option Addr) (n1 c1 n2 c2 n3 c3 : Nat) (w : World) (hT : Tab w) (hr : right a b c = false) : Calls Tryd.prog 15 #[geoV a b c, .slice A1 n1 c1, .slice A2 n2 c2, .slice A3 n3 c3] w fun e w' => e = .returned (.tuple #[.slice none 0 0, .int .i64 9]) ∧ On w w' := by
  have HT := Lib.hid (fun o => (On.start hT).next (below_box w o))
  have HR := Lib.hid hr
  clear hT hr
  go_enter Tryd.func15, Tryd.ntmps15
  go_wp2_with fail
  refine (refRight_at a b c false _ (HT.out _).tab HR.out).mono ?_
  rintro e w1 ⟨rfl, hw1⟩
  have HW1 := Lib.hid ((HT.out _).next hw1.bel)
  clear hw1
  go_wp2_with fail
  go_returns
  exact ⟨rfl, HW1.out⟩

theorem refPack_arg (a b c x y z : Int) (A1 A2 A3 : Option Addr) (n1 c1 n2 c2 n3 c3 : Nat) (w : World) (hT : Tab w) (hr : right a b c = true) (hx : col a 0 = x) (hy : bytesOf b 64 256 = y) (hz : bytesOf c 128 64 = z) (hne : ¬ ((n1 : Int) = x ∧ (n2 : Int) = y ∧ (n3 : Int) = z)) : Calls Tryd.prog 15 #[geoV a b c, .slice A1 n1 c1, .slice A2 n2 c2, .slice A3 n3 c3] w fun e w' => e = .returned (.tuple #[.slice none 0 0, .int .i64 1]) ∧ On w w' := by
  have HT := Lib.hid (fun o => (On.start hT).next (below_box w o))
  have HR := Lib.hid hr
  have HX := Lib.hid hx
  have HY := Lib.hid hy
  have HZ := Lib.hid hz
  clear hT hr hx hy hz
  cases e1 : ((n1 : Int) != x)
  · cases e2 : ((n2 : Int) != y)
    · have e3 : ((n3 : Int) != z) = true := by
        simp at e1 e2 ⊢
        exact fun h => hne ⟨e1, e2, h⟩
      clear hne
      go_enter Tryd.func15, Tryd.ntmps15
      go_wp2_with fail
      refine (refRight_at a b c true _ (HT.out _).tab HR.out).mono ?_
      rintro e w1 ⟨rfl, hw1⟩
      have HW1 := Lib.hid ((HT.out _).next hw1.bel)
      have ht1 := (Tri.new w a b c 23).next hw1.bel
      clear hw1
      have HT1 := Lib.hid ht1
      obtain ⟨hc0, hc1, hc2⟩ := ht1
      go_wp2_with fail
      refine (refEeprom_any a x _ _ (On.start HW1.out.tab) HX.out).mono ?_
      rintro e w2 ⟨rfl, hw2⟩
      have HW2 := Lib.hid (HW1.out.next hw2.bel)
      have ht2 := HT1.out.next hw2.bel
      clear hw2 hc0 hc1 hc2
      obtain ⟨hc0, hc1, hc2⟩ := ht2
      go_wp2_with fail
      refine (refFlash_any b y _ HY.out).mono ?_
      rintro e w2 ⟨rfl, rfl⟩
      go_wp2_with fail
      refine (refSram_any c z _ HZ.out).mono ?_
      rintro e w2 ⟨rfl, rfl⟩
      go_wp2_with fail
      go_returns
      exact ⟨rfl, HW2.out⟩
    · clear hne
      go_enter Tryd.func15, Tryd.ntmps15
      go_wp2_with fail
      refine (refRight_at a b c true _ (HT.out _).tab HR.out).mono ?_
      rintro e w1 ⟨rfl, hw1⟩
      have HW1 := Lib.hid ((HT.out _).next hw1.bel)
      have ht1 := (Tri.new w a b c 23).next hw1.bel
      clear hw1
      have HT1 := Lib.hid ht1
      obtain ⟨hc0, hc1, hc2⟩ := ht1
      go_wp2_with fail
      refine (refEeprom_any a x _ _ (On.start HW1.out.tab) HX.out).mono ?_
      rintro e w2 ⟨rfl, hw2⟩
      have HW2 := Lib.hid (HW1.out.next hw2.bel)
      have ht2 := HT1.out.next hw2.bel
      clear hw2 hc0 hc1 hc2
      obtain ⟨hc0, hc1, hc2⟩ := ht2
      go_wp2_with fail
      refine (refFlash_any b y _ HY.out).mono ?_
      rintro e w2 ⟨rfl, rfl⟩
      go_wp2_with fail
      go_returns
      exact ⟨rfl, HW2.out⟩
  · clear hne
    go_enter Tryd.func15, Tryd.ntmps15
    go_wp2_with fail
    refine (refRight_at a b c true _ (HT.out _).tab HR.out).mono ?_
    rintro e w1 ⟨rfl, hw1⟩
    have HW1 := Lib.hid ((HT.out _).next hw1.bel)
    have ht1 := (Tri.new w a b c 23).next hw1.bel
    clear hw1
    have HT1 := Lib.hid ht1
    obtain ⟨hc0, hc1, hc2⟩ := ht1
    go_wp2_with fail
    refine (refEeprom_any a x _ _ (On.start HW1.out.tab) HX.out).mono ?_
    rintro e w2 ⟨rfl, hw2⟩
    have HW2 := Lib.hid (HW1.out.next hw2.bel)
    have ht2 := HT1.out.next hw2.bel
    clear hw2 hc0 hc1 hc2
    obtain ⟨hc0, hc1, hc2⟩ := ht2
    go_wp2_with fail
    go_returns
    exact ⟨rfl, HW2.out⟩

theorem refPack_ok (a b c x y z : Int) (A1 A2 A3 : Option Addr) (n1 c1 n2 c2 n3 c3 : Nat) (l1 l2 l3 : List Int) (w : World) (hT : Tab w) (hr : right a b c = true) (hx : col a 0 = x) (hy : bytesOf b 64 256 = y) (hz : bytesOf c 128 64 = z) (h1 : (n1 : Int) = x) (h2 : (n2 : Int) = y) (h3 : (n3 : Int) = z)
    (b1 : Byv w w.heap.size (.slice A1 n1 c1) l1) (b2 : Byv w w.heap.size (.slice A2 n2 c2) l2) (b3 : Byv w w.heap.size (.slice A3 n3 c3) l3) :
    Calls Tryd.prog 15 #[geoV a b c, .slice A1 n1 c1, .slice A2 n2 c2, .slice A3 n3 c3] w fun e w' => ∃ v, e = .returned (.tuple #[v, .int .i64 0]) ∧ On w w' ∧ Own w.heap.size w' v (l1 ++ l2 ++ l3) := by
  have HT := Lib.hid (fun o => (On.start hT).next (below_box w o))
  have HR := Lib.hid hr
  have HX := Lib.hid hx
  have HY := Lib.hid hy
  have HZ := Lib.hid hz
  have hxb := hx ▸ col0_bounds a
  have hyb := hy ▸ bytesOf_bounds b 64 256 (by omega) (by omega) (by omega)
  have hzb := hz ▸ bytesOf_bounds c 128 64 (by omega) (by omega) (by omega)
  have HN := Lib.hid (show n1 + n2 + n3 ≤ 1000000 by omega)
  have B1 := Lib.hid b1
  have B2 := Lib.hid b2
  have B3 := Lib.hid b3
  have e1 : ((n1 : Int) != x) = false := by simp [h1]
  have e2 : ((n2 : Int) != y) = false := by simp [h2]
  have e3 : ((n3 : Int) != z) = false := by simp [h3]
  clear hT hr hx hy hz b1 b2 b3 h1 h2 h3 hxb hyb hzb
  go_enter Tryd.func15, Tryd.ntmps15
  go_wp2_with fail
  refine (refRight_at a b c true _ (HT.out _).tab HR.out).mono ?_
  rintro e w1 ⟨rfl, hw1⟩
  have HW1 := Lib.hid ((HT.out _).next hw1.bel)
  have ht1 := (Tri.new w a b c 23).next hw1.bel
  clear hw1
  have HT1 := Lib.hid ht1
  obtain ⟨hc0, hc1, hc2⟩ := ht1
  go_wp2_with fail
  refine (refEeprom_any a x _ _ (On.start HW1.out.tab) HX.out).mono ?_
  rintro e w2 ⟨rfl, hw2⟩
  have HW2 := Lib.hid (HW1.out.next hw2.bel)
  have ht2 := HT1.out.next hw2.bel
  clear hw2 hc0 hc1 hc2
  obtain ⟨hc0, hc1, hc2⟩ := ht2
  go_wp2_with fail
  refine (refFlash_any b y _ HY.out).mono ?_
  rintro e w2 ⟨rfl, rfl⟩
  go_wp2_with fail
  refine (refSram_any c z _ HZ.out).mono ?_
  rintro e w2 ⟨rfl, rfl⟩
  have hB0 := (On.next (On.start HW2.out.tab) (below_box w2 (.cells #[] 5))).bel
  obtain ⟨v1, w3, r1, o1, q1⟩ := append_own (w2.alloc (.cells #[] 5)) w2.heap.size 25 _ [] (own_none w2.heap.size w2 _ (Nat.le_refl _) rfl) A1 n1 c1 _ l1 ((B1.out.next HW2.out.bel).next hB0).of.2 (by have := HN.out; simp; omega) (by simp)
  have q1' : Below w2.heap.size w2 w3 := hB0.trans q1
  obtain ⟨v2, w4, r2, o2, q2⟩ := append_own w3 w2.heap.size 25 _ _ o1 A2 n2 c2 _ l2 ((B2.out.next HW2.out.bel).next q1').of.2 (by have := HN.out; have := B1.out.of.1; simp; omega) q1'.size
  have q2' : Below w2.heap.size w2 w4 := q1'.trans q2
  obtain ⟨v3, w5, r3, o3, q3⟩ := append_own w4 w2.heap.size 25 _ _ o2 A3 n3 c3 _ l3 ((B3.out.next HW2.out.bel).next q2').of.2 (by have := HN.out; have := B1.out.of.1; have := B2.out.of.1; simp; omega) q2'.size
  rw [List.nil_append] at o3
  have HW3 := Lib.hid (HW2.out.next (q2'.trans q3))
  have HO3 := Lib.hid (show Own w.heap.size w5 v3 (l1 ++ l2 ++ l3) from ⟨o3.1, o3.2.imp id fun ⟨g, cap, cur, e, hg, r⟩ => ⟨g, cap, cur, e, by have := HW2.out.bel.size; omega, r⟩⟩)
  have R1 := Lib.hid r1
  have R2 := Lib.hid r2
  have R3 := Lib.hid r3
  clear hB0 r1 r2 r3 o1 o2 o3 q1 q2 q3 q1' q2'
  go_wp2_with (at_builtin; first | refine Lib.wpList_append_run _ rfl _ _ _ _ rfl _ _ rfl rfl _ _ R1.out ?_ | refine Lib.wpList_append_run _ rfl _ _ _ _ rfl _ _ rfl rfl _ _ R2.out ?_ | refine Lib.wpList_append_run _ rfl _ _ _ _ rfl _ _ rfl rfl _ _ R3.out ?_)
  go_returns
  exact ⟨_, rfl, HW3.out, HO3.out⟩
end Go.Proofs.YtcojpiepbdcohaaDoor
