/-
  THE WALK OF image.Unpack.
-/
import Derived.Test.YtcojpiepbdcohaaDoorPack
namespace Go.Proofs.YtcojpiepbdcohaaDoor
open Go.RowKit

/-- a piece of bytes of the call's own -/
theorem piece_own (base : Nat) (w : World) (A : Option Addr) (n c i m j : Nat) (l : List Int) (ho : Own base w (.slice A n c) l) (hv : ∀ v ∈ l, 0 ≤ v ∧ v ≤ 255) (hj : i + m = j) (hn : j ≤ n) :
    Calls Tryd.prog 36 #[.slice A n c, .int .i64 i, .int .i64 j] w fun e w' => ∃ A' c', e = .returned (.slice A' m c') ∧ Byv w' w'.heap.size (.slice A' m c') ((l.drop i).take m) ∧ w' = w := by
  rcases ho.2 with ⟨e, h0⟩ | ⟨g, cap, cur, e, hg, hh, hnc, _⟩
  · injection e with e1 e2 e3
    subst e1 e2 e3
    obtain rfl : i = 0 := by omega
    obtain rfl : m = 0 := by omega
    obtain rfl : j = 0 := by omega
    refine (piece_none w).mono ?_
    rintro e w' ⟨rfl, rfl⟩
    exact ⟨none, 0, rfl, ⟨none, 0, by simp, by simp, fun _ => rfl, by simpa using bytes_nil _ _⟩, rfl⟩
  · obtain ⟨A', c', e', _, hy⟩ := ho.bytes hv
    injection e with e1 e2 e3
    injection e' with f1 f2 f3
    subst e1 e2 f1 f3
    subst hj
    refine (piece_some g 0 l.length c i m w (by omega)).mono ?_
    rintro e w' ⟨rfl, rfl⟩
    have hp := bytes_piece hy i m hn
    have hl := hp.1
    exact ⟨_, _, rfl, ⟨_, _, by rw [hl], by rw [hl]; exact Nat.le_refl _, fun h => (by cases h), by rw [hl]; exact hp⟩, rfl⟩

theorem piece_first (base : Nat) (w : World) (A : Option Addr) (n c m : Nat) (l : List Int) (ho : Own base w (.slice A n c) l) (hv : ∀ v ∈ l, 0 ≤ v ∧ v ≤ 255) (hn : m ≤ n) :
    Calls Tryd.prog 36 #[.slice A n c, .int .i64 0, .int .i64 m] w fun e w' => ∃ A' c', e = .returned (.slice A' m c') ∧ Byv w' w'.heap.size (.slice A' m c') (l.take m) ∧ w' = w :=
  piece_own base w A n c 0 m m l ho hv (by omega) hn
theorem unpack_geo (a b c : Int) (A : Option Addr) (n k : Nat) (w : World) (hT : Tab w) (hr : right a b c = false) : Calls Tryd.prog 16 #[geoV a b c, .slice A n k] w fun e w' => e = .returned (.tuple #[.slice none 0 0, .slice none 0 0, .slice none 0 0, .int .i64 9]) ∧ On w w' := by
  have HT := Lib.hid (fun o => (On.start hT).next (below_box w o))
  have HR := Lib.hid hr
  clear hT hr
  go_enter Tryd.func16, Tryd.ntmps16
  go_wp2_with fail
  refine (right_at a b c false _ (HT.out _).tab HR.out).mono ?_
  rintro e w1 ⟨rfl, hw1⟩
  have HW1 := Lib.hid ((HT.out _).next hw1.bel)
  clear hw1
  go_wp2_with fail
  go_returns
  exact ⟨rfl, HW1.out⟩

theorem unpack_arg (a b c : Int) (t : Int) (A : Option Addr) (n k : Nat) (w : World) (hT : Tab w) (hr : right a b c = true) (ht : total a b c = t) (hne : ¬ (n : Int) = t) : Calls Tryd.prog 16 #[geoV a b c, .slice A n k] w fun e w' => e = .returned (.tuple #[.slice none 0 0, .slice none 0 0, .slice none 0 0, .int .i64 1]) ∧ On w w' := by
  have HT := Lib.hid (fun o => (On.start hT).next (below_box w o))
  have HR := Lib.hid hr
  have HTO := Lib.hid ht
  have hb : ((n : Int) != t) = true := by simpa using hne
  clear hT hr ht hne
  go_enter Tryd.func16, Tryd.ntmps16
  go_wp2_with fail
  refine (right_at a b c true _ (HT.out _).tab HR.out).mono ?_
  rintro e w1 ⟨rfl, hw1⟩
  have HW1 := Lib.hid ((HT.out _).next hw1.bel)
  have ht1 := (Tri.new w a b c 23).next hw1.bel
  clear hw1
  have HT1 := Lib.hid ht1
  obtain ⟨hc0, hc1, hc2⟩ := ht1
  go_wp2_with fail
  refine (total_at a b c t _ HW1.out.tab HTO.out).mono ?_
  rintro e w2 ⟨rfl, hw2⟩
  have HW2 := Lib.hid (HW1.out.next hw2.bel)
  have ht2 := HT1.out.next hw2.bel
  clear hw2 hc0 hc1 hc2 HT1
  have HT2 := Lib.hid ht2
  obtain ⟨hc0, hc1, hc2⟩ := ht2
  go_wp2_with fail
  go_returns
  exact ⟨rfl, HW2.out⟩

theorem unpack_ok (a b c : Int) (x y z n p : Nat) (A : Option Addr) (k B : Nat) (l : List Int) (w : World) (hT : Tab w) (hr : right a b c = true) (hx : col a 0 = (x : Nat)) (hy : bytesOf b 64 256 = (y : Nat)) (ht : total a b c = (n : Nat)) (hp : x + y = p) (hn : p + z = n) (hl : Bytes w B A n l) (hB : B ≤ w.heap.size) (hn1 : n ≤ 100000) :
    Calls Tryd.prog 16 #[geoV a b c, .slice A n k] w fun e w' => ∃ A1 k1 A2 k2 A3 k3, e = .returned (.tuple #[.slice A1 x k1, .slice A2 y k2, .slice A3 z k3, .int .i64 0]) ∧ On w w' ∧ Byv w' w'.heap.size (.slice A1 x k1) (l.take x) ∧ Byv w' w'.heap.size (.slice A2 y k2) ((l.drop x).take y) ∧ Byv w' w'.heap.size (.slice A3 z k3) ((l.drop p).take z) := by
  have HT := Lib.hid (fun o => (On.start hT).next (below_box w o))
  have HR := Lib.hid hr
  obtain ⟨t, hte⟩ : ∃ t : Int, t = (n : Nat) := ⟨_, rfl⟩
  have HTO := Lib.hid (show total a b c = t by rw [ht, hte])
  have HX := Lib.hid hx
  have HY := Lib.hid hy
  have HP := Lib.hid hp
  have HN := Lib.hid hn
  have HL := Lib.hid hl
  have HB := Lib.hid hB
  have hb : ((n : Int) != t) = false := by simp [hte]
  have hxy : (x : Int) + (y : Int) = (p : Nat) := by omega
  have hpn : p ≤ n := by omega
  have hxp : x ≤ p := by omega
  have HLN := Lib.hid hl.1
  have HLI := Lib.hid hl.2.1
  clear hT hr hte hx hy ht hl hB hp hn
  go_enter Tryd.func16, Tryd.ntmps16
  go_wp2_with fail
  refine (right_at a b c true _ (HT.out _).tab HR.out).mono ?_
  rintro e w1 ⟨rfl, hw1⟩
  have HW1 := Lib.hid ((HT.out _).next hw1.bel)
  have ht1 := (Tri.new w a b c 23).next hw1.bel
  clear hw1
  have HT1 := Lib.hid ht1
  obtain ⟨hc0, hc1, hc2⟩ := ht1
  go_wp2_with fail
  refine (total_at a b c t _ HW1.out.tab HTO.out).mono ?_
  rintro e w2 ⟨rfl, hw2⟩
  have HW2 := Lib.hid (HW1.out.next hw2.bel)
  have ht2 := HT1.out.next hw2.bel
  clear hw2 hc0 hc1 hc2 HT1
  have HT2 := Lib.hid ht2
  obtain ⟨hc0, hc1, hc2⟩ := ht2
  go_wp2_with fail
  refine (clone_any A n k B l _ (bytes_below HL.out (HW2.out.bel.mono HB.out)) (Nat.le_trans HB.out HW2.out.bel.size) hn1).mono ?_
  rintro e w3 ⟨v, rfl, ho, hb3⟩
  obtain ⟨A0, k0, rfl, _, _⟩ := ho.bytes HLI.out
  rw [HLN.out] at ho ⊢
  have HOW := Lib.hid ho
  have HW3 := Lib.hid (HW2.out.next hb3)
  have ht3 := HT2.out.next hb3
  clear hb3 hc0 hc1 hc2 HT2 ho
  have HT3 := Lib.hid ht3
  obtain ⟨hc0, hc1, hc2⟩ := ht3
  go_wp2_with fail
  refine (eeprom_any a x _ _ (On.start HW3.out.tab) HX.out).mono ?_
  rintro e w4 ⟨rfl, hw4⟩
  have HW4 := Lib.hid (HW3.out.next hw4.bel)
  have HOW4 := Lib.hid (HOW.out.below hw4.bel)
  have ht4 := HT3.out.next hw4.bel
  clear hw4 hc0 hc1 hc2 HT3
  obtain ⟨hc0, hc1, hc2⟩ := ht4
  go_wp2_with fail
  refine (flash_any b y _ HY.out).mono ?_
  rintro e w4 ⟨rfl, rfl⟩
  go_wp2_with fail
  refine (piece_first _ w4 A0 n k0 x l HOW4.out HLI.out (by omega)).mono ?_
  rintro e w4 ⟨A1, k1, rfl, hb1, rfl⟩
  have HB1 := Lib.hid hb1
  clear hb1
  go_wp2_with fail
  refine (piece_own _ w4 A0 n k0 x y p l HOW4.out HLI.out HP.out hpn).mono ?_
  rintro e w4 ⟨A2, k2, rfl, hb2, rfl⟩
  have HB2 := Lib.hid hb2
  clear hb2
  go_wp2_with fail
  refine (piece_own _ w4 A0 n k0 p z n l HOW4.out HLI.out HN.out (Nat.le_refl _)).mono ?_
  rintro e w4 ⟨A3, k3, rfl, hb3, rfl⟩
  have HB3 := Lib.hid hb3
  clear hb3
  go_wp2_with fail
  go_returns
  exact ⟨A1, k1, A2, k2, A3, k3, rfl, HW4.out, HB1.out, HB2.out, HB3.out⟩
end Go.Proofs.YtcojpiepbdcohaaDoor
