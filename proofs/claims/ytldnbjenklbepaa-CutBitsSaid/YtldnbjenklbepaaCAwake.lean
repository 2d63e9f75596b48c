/-
  THE WALK OF keepsakelaw08.awake.
-/
import Derived.Test.YtldnbjenklbepaaCBits
import Derived.Test.YtldnbjenklbepaaBSame
namespace Go.Proofs.Ytldnbjenklbepaa
open Go.RowKit
set_option maxRecDepth 20000

theorem nums_new (k : IntKind) (w : World) (t : TypeId) (l : List Int) (h : ∀ v ∈ l, (Lit.int k v).wf = true) : Nums k (w.alloc (.cells (l.map (Value.int k)).toArray t)) (w.heap.size + 1) (some ⟨w.heap.size, 0, none⟩) l.length l := by
  refine ⟨rfl, h, fun _ => ⟨_, 0, rfl, by omega, fun i hi => ?_⟩⟩
  rw [cell_of_row _ _ _ _ t (0, 0) (heap_alloc_new w _)]
  simp [hi, List.getD]
theorem Mine.nums' {base n : Nat} {w : World} {A : Option Addr} {l : List Int} (h : Mine .u8 base w A n l) (hv : ∀ v ∈ l, 0 ≤ v ∧ v ≤ 255) : Nums .u8 w w.heap.size A n l := h.nums fun v hx => byte_wf (hv v hx)
theorem apartTo_wf (a b : List Int) (k : Nat) (hk : k ≤ 1000) : ∀ v ∈ apartTo a b k, (Lit.int .i64 v).wf = true := by
  intro v hv
  obtain ⟨i, h1, rfl, _⟩ := (apartTo_mem a b k v).1 hv
  exact int_wf.2 (by omega)
theorem apartL_wf {a b : List Int} (ha : a.length ≤ 1000) (hb : b.length ≤ 1000) : ∀ v ∈ apartL a b, (Lit.int .i64 v).wf = true := apartTo_wf a b _ (by omega)

set_option maxRecDepth 100000 in
set_option maxHeartbeats 4000000 in
theorem awake_any (w : World) : Calls Try.prog 9 #[] w fun e w' => e = .returned (.bool true) ∧ Below w.heap.size w w' := by
  go_enter Try.func9, Try.ntmps9
  go_wp2_with fail
  have n1 := nums_new .u8 w 5 [1, 2, 3] (by decide)
  obtain ⟨W1, hW1⟩ : ∃ W1, w.alloc (.cells #[.int .u8 1, .int .u8 2, .int .u8 3] 5) = W1 := ⟨_, rfl⟩
  have s1 : W1.heap.size = w.heap.size + 1 := by rw [← hW1]; simp
  have n1 : Nums .u8 W1 W1.heap.size (some ⟨w.heap.size, 0, none⟩) 3 [1, 2, 3] := by rw [s1, ← hW1]; exact n1
  have b1 : Below w.heap.size w W1 := by rw [← hW1]; exact below_box w _
  rw [hW1, ← s1]
  have n2 := nums_new .i64 W1 3 [2, 0] (by decide)
  obtain ⟨W2, hW2⟩ : ∃ W2, W1.alloc (.cells #[.int .i64 2, .int .i64 0] 3) = W2 := ⟨_, rfl⟩
  have s2 : W2.heap.size = W1.heap.size + 1 := by rw [← hW2]; simp
  have n2 : Nums .i64 W2 W2.heap.size (some ⟨W1.heap.size, 0, none⟩) 2 [2, 0] := by rw [s2, ← hW2]; exact n2
  have b2 : Below W1.heap.size W1 W2 := by rw [← hW2]; exact below_box W1 _
  rw [hW2, ← s2]
  have n3 := nums_new .u8 W2 5 [9, 8] (by decide)
  obtain ⟨W3, hW3⟩ : ∃ W3, W2.alloc (.cells #[.int .u8 9, .int .u8 8] 5) = W3 := ⟨_, rfl⟩
  have s3 : W3.heap.size = W2.heap.size + 1 := by rw [← hW3]; simp
  have n3 : Nums .u8 W3 W3.heap.size (some ⟨W2.heap.size, 0, none⟩) 2 [9, 8] := by rw [s3, ← hW3]; exact n3
  have b3 : Below W2.heap.size W2 W3 := by rw [← hW3]; exact below_box W2 _
  rw [hW3]
  have n2 := (n2.below b3).mono (show W2.heap.size ≤ W3.heap.size by omega)
  have n1 := ((n1.below b2).mono (show W1.heap.size ≤ W2.heap.size by omega)).below b3 |>.mono (show W2.heap.size ≤ W3.heap.size by omega)
  have HBW := Lib.hid (show Below w.heap.size w W3 from (b1.trans (b2.mono (by omega))).trans (b3.mono (by omega)))
  clear hW1 hW2 hW3 b1 b2 b3
  refine (cells_any _ _ _ 3 3 2 2 2 2 W3.heap.size [1, 2, 3] [2, 0] [9, 8] W3 n1 n2 n3 (Nat.le_refl _) (by omega) (by decide) (by omega) (by decide)).mono ?_
  rintro e w1 ⟨A, c, rfl, _, hm, hb⟩
  have hc : cellsL [1, 2, 3] [2, 0] [9, 8] = [8, 2, 9] := by decide
  rw [hc] at hm
  have HM := Lib.hid (hm.nums' (by decide))
  have HB := Lib.hid (HBW.out.trans (hb.mono HBW.out.size))
  clear hm hb hc n1 n2 n3 HBW s1 s2 s3
  go_wp2_with fail
  have n4 := nums_new .u8 w1 5 [8, 2, 9] (by decide)
  obtain ⟨W4, hW4⟩ : ∃ W4, w1.alloc (.cells #[.int .u8 8, .int .u8 2, .int .u8 9] 5) = W4 := ⟨_, rfl⟩
  have s4 : W4.heap.size = w1.heap.size + 1 := by rw [← hW4]; simp
  have n4 : Nums .u8 W4 W4.heap.size (some ⟨w1.heap.size, 0, none⟩) 3 [8, 2, 9] := by rw [s4, ← hW4]; exact n4
  have b4 : Below w1.heap.size w1 W4 := by rw [← hW4]; exact below_box w1 _
  rw [hW4]
  have HB4 := Lib.hid (HB.out.trans (b4.mono HB.out.size))
  have h5 := (HM.out.below b4).mono (show w1.heap.size ≤ W4.heap.size by omega)
  clear hW4 b4
  refine (same_refl A _ 3 c 3 W4.heap.size [8, 2, 9] W4 (by decide) h5 n4 (Nat.le_refl _)).mono ?_
  rintro e w5 ⟨rfl, hb5⟩
  have HB5 := Lib.hid (HB4.out.trans (hb5.mono HB4.out.size))
  clear hb5 n4 h5 HB4 HB HM
  go_wp2_with fail
  have n6 := nums_new .u8 w5 5 [1, 2] (by decide)
  obtain ⟨W6, hW6⟩ : ∃ W6, w5.alloc (.cells #[.int .u8 1, .int .u8 2] 5) = W6 := ⟨_, rfl⟩
  have s6 : W6.heap.size = w5.heap.size + 1 := by rw [← hW6]; simp
  have n6 : Nums .u8 W6 W6.heap.size (some ⟨w5.heap.size, 0, none⟩) 2 [1, 2] := by rw [s6, ← hW6]; exact n6
  have b6 : Below w5.heap.size w5 W6 := by rw [← hW6]; exact below_box w5 _
  rw [hW6, ← s6]
  have n7 := nums_new .u8 W6 5 [1] (by decide)
  obtain ⟨W7, hW7⟩ : ∃ W7, W6.alloc (.cells #[.int .u8 1] 5) = W7 := ⟨_, rfl⟩
  have s7 : W7.heap.size = W6.heap.size + 1 := by rw [← hW7]; simp
  have n7 : Nums .u8 W7 W7.heap.size (some ⟨W6.heap.size, 0, none⟩) 1 [1] := by rw [s7, ← hW7]; exact n7
  have b7 : Below W6.heap.size W6 W7 := by rw [← hW7]; exact below_box W6 _
  rw [hW7]
  have n6 := (n6.below b7).mono (show W6.heap.size ≤ W7.heap.size by omega)
  have HB7 := Lib.hid ((HB5.out.trans (b6.mono HB5.out.size)).trans (b7.mono (show w.heap.size ≤ W6.heap.size by have := HB5.out.size; omega)))
  clear hW6 hW7 b6 b7 HB5
  refine (apart_any _ _ 2 2 1 1 W7.heap.size [1, 2] [1] W7 n6 n7 (Nat.le_refl _) (by omega) (by omega)).mono ?_
  rintro e w8 ⟨v, rfl, ho, hb⟩
  have hc : apartL [1, 2] [1] = [1] := by decide
  rw [hc] at ho
  obtain ⟨A8, c8, rfl, _, hn⟩ := ho.nums (by decide)
  have HM := Lib.hid hn
  have HB8 := Lib.hid (HB7.out.trans (hb.mono HB7.out.size))
  clear ho hn hb hc HB7 n6 n7 s6 s7
  go_wp2_with fail
  have n9 := nums_new .i64 w8 3 [1] (by decide)
  obtain ⟨W9, hW9⟩ : ∃ W9, w8.alloc (.cells #[.int .i64 1] 3) = W9 := ⟨_, rfl⟩
  have s9 : W9.heap.size = w8.heap.size + 1 := by rw [← hW9]; simp
  have n9 : Nums .i64 W9 W9.heap.size (some ⟨w8.heap.size, 0, none⟩) 1 [1] := by rw [s9, ← hW9]; exact n9
  have b9 : Below w8.heap.size w8 W9 := by rw [← hW9]; exact below_box w8 _
  rw [hW9]
  have HB9 := Lib.hid (HB8.out.trans (b9.mono HB8.out.size))
  have h9 := (HM.out.below b9).mono (show w8.heap.size ≤ W9.heap.size by omega)
  clear hW9 b9
  refine (ints_refl A8 _ 1 c8 1 W9.heap.size [1] W9 (by decide) h9 n9 (Nat.le_refl _)).mono ?_
  rintro e w10 ⟨rfl, hb10⟩
  have HB10 := Lib.hid (HB9.out.trans (hb10.mono HB9.out.size))
  clear hb10 n9 h9 HB9 HB8 HM
  go_wp2_with fail
  go_ret
  exact ⟨rfl, HB10.out⟩
end Go.Proofs.Ytldnbjenklbepaa
