/-
  THE WALK OF keepsakeref04.Encode.
-/
import Derived.Test.YtdafmjklkggbgaaDoorApp
namespace Go.Proofs.YtdafmjklkggbgaaDoor
open Ks Go.RowKit

/-- where the document's Encode stands: what is laid, the head in its box -/
structure RefAt (w0 : World) (p base : Nat) (a b c n q s : Int) (v : Value) (l : List Int) (W : World) : Prop where
  on : On w0 W
  own : Own base W v l
  new : w0.heap.size ≤ base
  lt : p < base
  one : 1 < base
  sz : base ≤ W.heap.size
  c0 : W.cell? ⟨p, 0, none⟩ = some (.int .i64 a)
  c1 : W.cell? ⟨p, 1, none⟩ = some (.int .i64 b)
  c2 : W.cell? ⟨p, 2, none⟩ = some (.int .i64 c)
  c3 : W.cell? ⟨p, 3, none⟩ = some (.int .i64 n)
  c4 : W.cell? ⟨p, 4, none⟩ = some (.int .u64 q)
  c5 : W.cell? ⟨p, 5, none⟩ = some (.int .u32 s)
section
variable {w0 W W' : World} {p base : Nat} {a b c n q s : Int} {v v' : Value} {l l' : List Int}
theorem RefAt.goes (h : RefAt w0 p base a b c n q s v l W) (hb : Below base W W') (ho : Own base W' v' l') : RefAt w0 p base a b c n q s v' l' W' := by
  have hc : ∀ i, W'.cell? ⟨p, i, none⟩ = W.cell? ⟨p, i, none⟩ := fun i => hb.cell (p := ⟨p, i, none⟩) h.lt
  exact ⟨⟨tab_below h.on.tab hb h.one, h.on.bel.trans (hb.mono h.new)⟩, ho, h.new, h.lt, h.one, Nat.le_trans h.sz hb.size, (hc 0).trans h.c0, (hc 1).trans h.c1, (hc 2).trans h.c2, (hc 3).trans h.c3, (hc 4).trans h.c4, (hc 5).trans h.c5⟩
theorem RefAt.next (h : RefAt w0 p base a b c n q s v l W) (hb : Below W.heap.size W W') : RefAt w0 p base a b c n q s v l W' := h.goes (hb.mono h.sz) (h.own.below hb)
/-- four or eight bytes more -/
theorem RefAt.more (h : RefAt w0 p base a b c n q s v l W) (x : Int) (k : Nat) (hy : BytAt W x k v' W') (hk : k ≤ 8) (hl : l.length ≤ 100) (ty : Nat) :
    ∃ A cc, v' = .slice A k cc ∧ ∃ v2 w2, (Builtin.append_ #[29, 29] ty #[v, .slice A k cc]).run Tryd.prog W' = .ok v2 w2 ∧ RefAt w0 p base a b c n q s v2 (l ++ le k x) w2 := by
  have hr := h.next hy.2
  have ho : Own W.heap.size W' v' (le k x) := by unfold Own; rw [le_len]; exact hy.1
  obtain ⟨A, cc, e, _, hb⟩ := ho.bytes (le_in k x)
  rw [le_len] at e hb
  obtain ⟨v2, w2, h1, h2, h3⟩ := append_own W' base ty v l hr.own A k cc W'.heap.size (le k x) hb (by omega) hr.sz
  exact ⟨A, cc, e, v2, w2, h1, hr.goes h3 h2⟩
end
theorem refSum_at (A : Option Addr) (n c : Nat) (l : List Int) (v : Int) (w : World) (hn : n ≤ 1000) (hl : Bytes w w.heap.size A n l) (hv : sumOf l = v) :
    Calls Tryd.prog 25 #[.slice A n c] w fun e w' => e = .returned (.int .u32 v) ∧ Below w.heap.size w w' := by
  subst hv
  exact refSum_any A n c l w hn hl
theorem own_eight (w : World) (base : Nat) (hb : base ≤ w.heap.size) (a b c d e f g h : Int) : Own base (w.alloc (.cells #[.int .u8 a, .int .u8 b, .int .u8 c, .int .u8 d, .int .u8 e, .int .u8 f, .int .u8 g, .int .u8 h] 5)) (.slice (some ⟨w.heap.size, 0, none⟩) 8 8) [a, b, c, d, e, f, g, h] :=
  ⟨rfl, .inr ⟨w.heap.size, 8, _, rfl, hb, heap_alloc_new w _, Nat.le_refl _, by unfold maxLen; omega, rfl, rfl⟩⟩
theorem refAt_start {w0 W w1 : World} {p : Nat} {a b c n q s : Int} (hO : On w0 W) (h1 : On W w1) (hp : p < W.heap.size)
    (hb : W.cell? ⟨p, 0, none⟩ = some (.int .i64 a) ∧ W.cell? ⟨p, 1, none⟩ = some (.int .i64 b) ∧ W.cell? ⟨p, 2, none⟩ = some (.int .i64 c) ∧ W.cell? ⟨p, 3, none⟩ = some (.int .i64 n) ∧ W.cell? ⟨p, 4, none⟩ = some (.int .u64 q) ∧ W.cell? ⟨p, 5, none⟩ = some (.int .u32 s))
    (ha : 0 ≤ a ∧ a ≤ 255) (hbb : 0 ≤ b ∧ b ≤ 255) (hc : 0 ≤ c ∧ c ≤ 255) :
    RefAt w0 p w1.heap.size a b c n q s (.slice (some ⟨w1.heap.size, 0, none⟩) 8 8) (keep ++ le 1 1 ++ le 1 a ++ le 1 b ++ le 1 c) (w1.alloc (.cells #[.int .u8 75, .int .u8 69, .int .u8 69, .int .u8 80, .int .u8 1, .int .u8 a, .int .u8 b, .int .u8 c] 5)) := by
  have hs : W.heap.size ≤ w1.heap.size := h1.bel.size
  have hb2 := below_box w1 (.cells #[.int .u8 75, .int .u8 69, .int .u8 69, .int .u8 80, .int .u8 1, .int .u8 a, .int .u8 b, .int .u8 c] 5)
  have hcc : ∀ i, (w1.alloc (.cells #[.int .u8 75, .int .u8 69, .int .u8 69, .int .u8 80, .int .u8 1, .int .u8 a, .int .u8 b, .int .u8 c] 5)).cell? ⟨p, i, none⟩ = W.cell? ⟨p, i, none⟩ := fun i => (hb2.cell (p := ⟨p, i, none⟩) (Nat.lt_of_lt_of_le hp hs)).trans (h1.bel.cell (p := ⟨p, i, none⟩) hp)
  obtain ⟨b0, b1, b2, b3, b4, b5⟩ := hb
  refine ⟨(hO.next h1.bel).next hb2, ?_, Nat.le_trans hO.bel.size hs, by omega, tab_pos h1.tab, by simp, (hcc 0).trans b0, (hcc 1).trans b1, (hcc 2).trans b2, (hcc 3).trans b3, (hcc 4).trans b4, (hcc 5).trans b5⟩
  rw [le_one 1 (by omega), le_one a ha, le_one b hbb, le_one c hc]
  exact own_eight w1 _ (Nat.le_refl _) _ _ _ _ _ _ _ _
def RefPost (w0 : World) (a b c n q s : Int) (e : Ending) (w' : World) : Prop := ∃ A cc, e = .returned (.tuple #[.slice A 28 cc, .int .i64 0]) ∧ On w0 w' ∧ Bytes w' w'.heap.size A 28 (enc a b c n q s)
theorem refEnc_ok (a b c n q s : Int) (w0 w : World) (H : On w0 w) (hr : can a b c n = true) (hq : 0 ≤ q ∧ q < 18446744073709551616) (hs : 0 ≤ s ∧ s < 4294967296) :
    Calls Tryd.prog 11 #[headV a b c n q s] w (RefPost w0 a b c n q s) := by
  obtain ⟨⟨ha0, ha1⟩, ⟨hb0, hb1⟩, ⟨hc0, hc1⟩, ⟨hn0, hn1⟩⟩ := can_in hr
  have HB := Lib.hid (boxed6 w (.int .i64 a) (.int .i64 b) (.int .i64 c) (.int .i64 n) (.int .u64 q) (.int .u32 s) 27)
  have HT := Lib.hid (fun o => H.next (below_box w o))
  have HR := Lib.hid hr
  obtain ⟨hq0, hq1⟩ := hq
  obtain ⟨hs0, hs1⟩ := hs
  clear hr H
  go_enter Tryd.func11, Tryd.ntmps11
  go_wp2_with fail
  have HP := Lib.hid (show w.heap.size < (w.alloc (.cells #[.int .i64 a, .int .i64 b, .int .i64 c, .int .i64 n, .int .u64 q, .int .u32 s] 27)).heap.size by simp)
  have HO := Lib.hid (HT.out (.cells #[.int .i64 a, .int .i64 b, .int .i64 c, .int .i64 n, .int .u64 q, .int .u32 s] 27))
  clear HT
  generalize w.alloc (.cells #[.int .i64 a, .int .i64 b, .int .i64 c, .int .i64 n, .int .u64 q, .int .u32 s] 27) = W at *
  refine (refCan_any a b c n q s true _ _ (On.start HO.out.tab) HR.out).mono ?_
  rintro e w1 ⟨rfl, hw1⟩
  have HE := Lib.hid (refAt_start HO.out hw1 HP.out HB.out ⟨ha0, by omega⟩ ⟨hb0, by omega⟩ ⟨hc0, by omega⟩)
  obtain ⟨x0, x1, x2, x3, x4, x5⟩ := cells6 hw1.bel HP.out HB.out
  clear hw1 HB HR HO
  clear x3 x4 x5
  have y := HE.out.c3
  go_wp2_with fail
  refine (refBytes_any n 4 _ hn0 (by omega) (by omega)).mono ?_
  rintro e w2 ⟨u, rfl, hy⟩
  obtain ⟨A, cc, rfl, v0, w3, hap, hE⟩ := HE.out.more n 4 hy (by omega) (by simp [keep, le_len]) 29
  replace HE := Lib.hid hE
  have HAP := Lib.hid hap
  clear hap hE hy y
  have y := HE.out.c4
  go_wp2_with (at_builtin; refine Lib.wpList_append_run _ rfl _ _ _ _ rfl _ _ rfl rfl _ _ HAP.out ?_)
  clear HAP
  refine (refBytes_any q 8 _ hq0 hq1 (by omega)).mono ?_
  rintro e w4 ⟨u, rfl, hy⟩
  obtain ⟨A, cc, rfl, v1, w5, hap, hE⟩ := HE.out.more q 8 hy (by omega) (by simp [keep, le_len]) 29
  replace HE := Lib.hid hE
  have HAP := Lib.hid hap
  clear hap hE hy y
  have y := HE.out.c5
  go_wp2_with (at_builtin; refine Lib.wpList_append_run _ rfl _ _ _ _ rfl _ _ rfl rfl _ _ HAP.out ?_)
  clear HAP
  refine (refBytes_any s 4 _ hs0 (by omega) (by omega)).mono ?_
  rintro e w6 ⟨u, rfl, hy⟩
  obtain ⟨A, cc, rfl, v2, w7, hap, hE⟩ := HE.out.more s 4 hy (by omega) (by simp [keep, le_len]) 29
  replace HE := Lib.hid (show RefAt w0 w.heap.size w1.heap.size a b c n q s v2 (body a b c n q s) w7 from hE)
  obtain ⟨A2, cc2, rfl, _, hby⟩ := HE.out.own.bytes (body_in a b c n q s)
  rw [body_len] at hby hap HE
  have HBY := Lib.hid hby
  have HAP := Lib.hid hap
  clear hby hap hE hy y
  obtain ⟨z, hz⟩ : ∃ v, sumOf (body a b c n q s) = v := ⟨_, rfl⟩
  have HZ := Lib.hid hz
  have hzi : 0 ≤ z ∧ z < 4294967296 := by rw [← hz]; exact sumOf_in _
  obtain ⟨hz0, hz1⟩ := hzi
  clear hz
  go_wp2_with (at_builtin; refine Lib.wpList_append_run _ rfl _ _ _ _ rfl _ _ rfl rfl _ _ HAP.out ?_)
  clear HAP
  refine (refSum_at A2 24 cc2 _ z w7 (by omega) HBY.out HZ.out).mono ?_
  rintro e w8 ⟨rfl, hw8⟩
  replace HE := Lib.hid (HE.out.next hw8)
  clear hw8
  go_wp2_with fail
  refine (refBytes_any z 4 _ hz0 (by omega) (by omega)).mono ?_
  rintro e w9 ⟨u, rfl, hy⟩
  obtain ⟨A9, cc9, rfl, v9, w10, hap, hE⟩ := HE.out.more z 4 hy (by omega) (by rw [body_len]; omega) 29
  obtain ⟨A10, cc10, rfl, _, hb10⟩ := hE.own.bytes (by rw [← HZ.out]; exact enc_in a b c n q s)
  have hel : (body a b c n q s ++ le 4 z).length = 28 := by rw [← HZ.out]; exact enc_len a b c n q s
  rw [hel] at hb10 hap
  have HB10 := Lib.hid (show Bytes w10 w10.heap.size A10 28 (enc a b c n q s) by unfold enc; rw [HZ.out]; exact hb10)
  have HON := Lib.hid hE.on
  have HAP := Lib.hid hap
  clear hap hE hy hb10 hel
  go_wp2_with (at_builtin; refine Lib.wpList_append_run _ rfl _ _ _ _ rfl _ _ rfl rfl _ _ HAP.out ?_)
  go_returns
  exact ⟨A10, cc10, rfl, HON.out, HB10.out⟩
theorem refEnc_no (a b c n q s : Int) (w0 w : World) (H : On w0 w) (hr : can a b c n = false) : Calls Tryd.prog 11 #[headV a b c n q s] w fun e w' => e = .returned (.tuple #[.slice none 0 0, .int .i64 9]) ∧ On w0 w' := by
  have HT := Lib.hid (fun o => H.next (below_box w o))
  have HR := Lib.hid hr
  clear hr H
  go_enter Tryd.func11, Tryd.ntmps11
  go_wp2_with fail
  refine (refCan_any a b c n q s false _ _ (HT.out _) HR.out).mono ?_
  rintro e w1 ⟨rfl, hw1⟩
  have HW1 := Lib.hid hw1
  clear hw1
  go_wp2_with fail
  go_returns
  exact ⟨rfl, HW1.out⟩
end Go.Proofs.YtdafmjklkggbgaaDoor
