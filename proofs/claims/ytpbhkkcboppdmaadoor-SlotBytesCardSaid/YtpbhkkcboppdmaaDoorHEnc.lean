/-
  THE WALK OF head.Encode.
-/
import Derived.Test.YtpbhkkcboppdmaaDoorHCan
import Derived.Test.YtpbhkkcboppdmaaDoorHLay
import Derived.Test.YtpbhkkcboppdmaaDoorHTake
import Derived.StillTailTactics
import Derived.Deep.OwnRows
import Derived.Lib.SlBuf
import Derived.Lib.BufferWrite
namespace Go.Proofs.YtpbhkkcboppdmaaDoor
open Ks Go.RowKit
set_option maxRecDepth 20000
theorem info5 : (Tryd.prog.info? 5).map (fun i => (i.zero, i.size, i.bytes)) = some (some (.int .u8 0), 1, 1) := by kernel_rfl
theorem size5 : (Tryd.prog.info? 5).map (·.size) = some 1 := by kernel_rfl
def Z28 : Array Value := ((List.replicate 28 0).map (Value.int .u8)).toArray
theorem make28 (w : World) : (Instr.makeSlice 27 (.int .i64 28) (.int .i64 28)).run Tryd.prog w = .ok (.slice (some ⟨w.heap.size, 0, none⟩) 28 28) (w.alloc (.cells Z28 5)) := by
  have := run_make_row' (P := Tryd.prog) 27 5 (.int .u8 0) 1 Tryd.underlying27 info5 rfl .i64 .i64 28 (by decide) (by decide) w
  rw [show madeCells #[Value.int .u8 0] 28 = Z28 by kernel_rfl] at this
  exact this
def keep : List Int := [75, 69, 69, 80]
theorem copy4 (w : World) (g : Nat) (h : Row w g (List.replicate 28 0)) : ∃ w', (Builtin.copy_ #[27, 9] 3 #[.slice (some ⟨g, 0, none⟩) 28 28, .string { data := #[75, 69, 69, 80] }]).run Tryd.prog w = .ok (goInt 4) w' ∧ Row w' g (keep ++ List.replicate 24 0) ∧ Only g w w' := by
  refine ⟨_, Lib.run_copy_row_string (P := Tryd.prog) w 27 9 3 5 g 0 28 28 { data := #[75, 69, 69, 80] } _ 5 Tryd.underlying27 size5 h (by decide) (by decide), ?_, ?_⟩
  · unfold Row
    rw [setRow_heap w g _ _ 5 (0, 0) h]
    rfl
  · exact ⟨rfl, rfl, rfl, by simp, fun k hk => setRow_other w g k _ (fun e => hk e)⟩

/-- where Encode stands: what is laid, zeros behind it; the head in its box -/
structure EncAt (w0 : World) (p g : Nat) (a b c n q s : Int) (pre : List Int) (m : Nat) (W : World) : Prop where
  on : On w0 W
  row : Row W g (pre ++ List.replicate m 0)
  new : w0.heap.size ≤ g
  ne : p ≠ g
  one : 1 < g
  c0 : W.cell? ⟨p, 0, none⟩ = some (.int .i64 a)
  c1 : W.cell? ⟨p, 1, none⟩ = some (.int .i64 b)
  c2 : W.cell? ⟨p, 2, none⟩ = some (.int .i64 c)
  c3 : W.cell? ⟨p, 3, none⟩ = some (.int .i64 n)
  c4 : W.cell? ⟨p, 4, none⟩ = some (.int .u64 q)
  c5 : W.cell? ⟨p, 5, none⟩ = some (.int .u32 s)
theorem encAt_start {w0 W w1 w2 : World} {p : Nat} {a b c n q s : Int} (hO : On w0 W) (h1 : On W w1) (hp : p < W.heap.size)
    (hb : W.cell? ⟨p, 0, none⟩ = some (.int .i64 a) ∧ W.cell? ⟨p, 1, none⟩ = some (.int .i64 b) ∧ W.cell? ⟨p, 2, none⟩ = some (.int .i64 c) ∧ W.cell? ⟨p, 3, none⟩ = some (.int .i64 n) ∧ W.cell? ⟨p, 4, none⟩ = some (.int .u64 q) ∧ W.cell? ⟨p, 5, none⟩ = some (.int .u32 s))
    {o : Obj} (hrow : Row w2 w1.heap.size (keep ++ List.replicate 24 0)) (honly : Only w1.heap.size (w1.alloc o) w2) : EncAt w0 p w1.heap.size a b c n q s keep 24 w2 := by
  have hs : W.heap.size ≤ w1.heap.size := h1.bel.size
  have hb2 : Below w1.heap.size w1 w2 := (below_box w1 o).trans (honly.below (Nat.le_refl _))
  have hc : ∀ i, w2.cell? ⟨p, i, none⟩ = W.cell? ⟨p, i, none⟩ := fun i => (hb2.cell (p := ⟨p, i, none⟩) (Nat.lt_of_lt_of_le hp hs)).trans (h1.bel.cell (p := ⟨p, i, none⟩) hp)
  obtain ⟨b0, b1, b2, b3, b4, b5⟩ := hb
  have h2 := tab_pos h1.tab
  exact ⟨(hO.next h1.bel).next hb2, hrow, Nat.le_trans hO.bel.size hs, by omega, h2, (hc 0).trans b0, (hc 1).trans b1, (hc 2).trans b2, (hc 3).trans b3, (hc 4).trans b4, (hc 5).trans b5⟩
theorem EncAt.next {w0 W w' : World} {p g m : Nat} {a b c n q s x : Int} {pre : List Int} (h : EncAt w0 p g a b c n q s pre m W) (k : Nat) (hl : LayAt W g pre (List.replicate m 0) x k w') : EncAt w0 p g a b c n q s (pre ++ le k x) (m - k) w' := by
  have ho := hl.2
  refine ⟨⟨tab_below h.on.tab (ho.below (Nat.le_refl g)) h.one, h.on.bel.trans (ho.below h.new)⟩, ?_, h.new, h.ne, h.one, (ho.cell h.ne).trans h.c0, (ho.cell h.ne).trans h.c1, (ho.cell h.ne).trans h.c2, (ho.cell h.ne).trans h.c3, (ho.cell h.ne).trans h.c4, (ho.cell h.ne).trans h.c5⟩
  have := hl.1
  rwa [List.drop_replicate] at this
theorem EncAt.drew {w0 W : World} {p g m : Nat} {a b c n q s : Int} {pre : List Int} (h : EncAt w0 p g a b c n q s pre m W) : EncAt w0 p g a b c n q s pre m W.drew :=
  ⟨⟨h.on.tab, h.on.bel.drew⟩, h.row, h.new, h.ne, h.one, h.c0, h.c1, h.c2, h.c3, h.c4, h.c5⟩
theorem EncAt.bytes {w0 W : World} {p g m k : Nat} {a b c n q s : Int} {pre : List Int} (h : EncAt w0 p g a b c n q s pre m W) (hk : pre.length = k) (hv : ∀ v ∈ pre, 0 ≤ v ∧ v ≤ 255) : Bytes W W.heap.size (some ⟨g, 0, none⟩) k pre :=
  ⟨hk, hv, fun _ => ⟨g, 0, rfl, h.row.lt, fun j hj => by
    rw [Nat.zero_add, (h.row.cell j (by simp; omega)).1]
    congr 2
    rw [List.getD, List.getD, List.getElem?_append_left (by omega)]⟩⟩
theorem sum_at (A : Option Addr) (n c B : Nat) (l : List Int) (v : Int) (w : World) (hT : Tab w) (hn : n ≤ maxLen) (hl : Bytes w B A n l) (hv : sumOf l = v) :
    Calls Tryd.prog 54 #[.slice A n c] w fun e w' => e = .returned (.int .u32 v) ∧ w' = w := by
  subst hv
  exact (sum_any A n c B l w hT hn hl).mono fun _ _ h => ⟨h.1, h.2.symm⟩
def body (a b c n q s : Int) : List Int := keep ++ le 1 1 ++ le 1 a ++ le 1 b ++ le 1 c ++ le 4 n ++ le 8 q ++ le 4 s
def enc (a b c n q s : Int) : List Int := body a b c n q s ++ le 4 (sumOf (body a b c n q s))
theorem body_len (a b c n q s : Int) : (body a b c n q s).length = 24 := by simp [body, keep, le_len]
theorem body_in (a b c n q s : Int) : ∀ v ∈ body a b c n q s, 0 ≤ v ∧ v ≤ 255 := by
  intro v hv
  simp only [body, List.mem_append] at hv
  rcases hv with ((((((h | h) | h) | h) | h) | h) | h) | h
  · revert v; decide
  all_goals exact le_in _ _ v h
theorem enc_len (a b c n q s : Int) : (enc a b c n q s).length = 28 := by rw [enc, List.length_append, body_len, le_len]
theorem enc_in (a b c n q s : Int) : ∀ v ∈ enc a b c n q s, 0 ≤ v ∧ v ≤ 255 := by
  intro v hv
  rcases List.mem_append.1 hv with h | h
  · exact body_in _ _ _ _ _ _ v h
  · exact le_in _ _ v h
theorem total_lt (a b c : Int) : 0 ≤ total a b c ∧ total a b c ≤ 131072 := by
  unfold total
  have h1 := col0_bounds a
  have h2 := bytesOf_bounds b 64 256 (by omega) (by omega) (by omega)
  have h3 := bytesOf_bounds c 128 64 (by omega) (by omega) (by omega)
  split <;> omega
theorem can_in {a b c n : Int} (h : can a b c n = true) : (0 ≤ a ∧ a ≤ 10) ∧ (0 ≤ b ∧ b ≤ 64) ∧ (0 ≤ c ∧ c ≤ 128) ∧ (0 ≤ n ∧ n ≤ 131072) := by
  unfold can right at h
  simp only [Bool.and_eq_true, decide_eq_true_eq, beq_iff_eq] at h
  obtain ⟨⟨h1, h2, h3⟩, h4⟩ := h
  exact ⟨h1, h2, h3, h4 ▸ total_lt a b c⟩

theorem enc_ok (a b c n q s : Int) (w0 w : World) (H : On w0 w) (hr : can a b c n = true) (hq : 0 ≤ q ∧ q < 18446744073709551616) (hs : 0 ≤ s ∧ s < 4294967296) :
    Calls Tryd.prog 53 #[headV a b c n q s] w fun e w' => ∃ g, e = .returned (.tuple #[.slice (some ⟨g, 0, none⟩) 28 28, .int .i64 0]) ∧ On w0 w' ∧ w0.heap.size ≤ g ∧ Row w' g (enc a b c n q s) := by
  have hm := make28
  obtain ⟨ha, hb, hc, hn⟩ := can_in hr
  have HB := Lib.hid (boxed6 w (.int .i64 a) (.int .i64 b) (.int .i64 c) (.int .i64 n) (.int .u64 q) (.int .u32 s) 83)
  have HT := Lib.hid (fun o => H.next (below_box w o))
  have HR := Lib.hid hr
  have HQ := Lib.hid hq
  have HS := Lib.hid hs
  have HA := Lib.hid ha
  have HBB := Lib.hid hb
  have HC := Lib.hid hc
  have HN := Lib.hid hn
  clear hr H ha hb hc hn hq hs
  go_enter Tryd.func53, Tryd.ntmps53
  go_wp2_with fail
  have HP := Lib.hid (show w.heap.size < (w.alloc (.cells #[.int .i64 a, .int .i64 b, .int .i64 c, .int .i64 n, .int .u64 q, .int .u32 s] 83)).heap.size by simp)
  have HO := Lib.hid (HT.out (.cells #[.int .i64 a, .int .i64 b, .int .i64 c, .int .i64 n, .int .u64 q, .int .u32 s] 83))
  clear HT
  generalize w.alloc (.cells #[.int .i64 a, .int .i64 b, .int .i64 c, .int .i64 n, .int .u64 q, .int .u32 s] 83) = W at *
  refine (canBe_any a b c n q s true _ _ (On.start HO.out.tab) HR.out).mono ?_
  rintro e w1 ⟨rfl, hw1⟩
  obtain ⟨w2, hcp, hrow, honly⟩ := copy4 (w1.alloc (.cells Z28 5)) w1.heap.size (heap_alloc_new w1 _)
  have HE := Lib.hid (show EncAt w0 w.heap.size w1.heap.size a b c n q s keep 24 w2 from encAt_start HO.out hw1 HP.out HB.out hrow honly)
  have hsz : W.heap.size ≤ w1.heap.size := hw1.bel.size
  clear hw1 hrow honly HB HR HO
  generalize hg : w1.heap.size = g at *
  go_wp2_with fail
  refine (layInt_any (keep) (List.replicate 24 0) 1 g 4 _ 1 w2 (by omega) (by omega) HE.out.row (rfl) (by simp) (by omega)).mono ?_
  rintro e w3 ⟨rfl, hl⟩
  replace HE := Lib.hid (HE.out.next 1 hl)
  clear hl
  have hx := HE.out.c0
  go_wp2_with fail
  go_still_tail 5, (by kernel_rfl)
  change wpList _ _ _ _ _ w3.drew
  clear hx
  go_wp2_with fail
  refine (layInt_any (keep ++ le 1 1) (List.replicate 23 0) 1 g 5 _ a w3.drew HA.out.1 (by have := HA.out.2; omega) HE.out.drew.row (by simp [keep, le_len]) (by simp) (by omega)).mono ?_
  rintro e w4 ⟨rfl, hl⟩
  replace HE := Lib.hid (HE.out.drew.next 1 hl)
  clear hl
  have hx := HE.out.c1
  go_wp2_with fail
  go_still_tail 5, (by kernel_rfl)
  change wpList _ _ _ _ _ w4.drew
  clear hx
  go_wp2_with fail
  refine (layInt_any (keep ++ le 1 1 ++ le 1 a) (List.replicate 22 0) 1 g 6 _ b w4.drew HBB.out.1 (by have := HBB.out.2; omega) HE.out.drew.row (by simp [keep, le_len]) (by simp) (by omega)).mono ?_
  rintro e w5 ⟨rfl, hl⟩
  replace HE := Lib.hid (HE.out.drew.next 1 hl)
  clear hl
  have hx := HE.out.c2
  go_wp2_with fail
  go_still_tail 5, (by kernel_rfl)
  change wpList _ _ _ _ _ w5.drew
  clear hx
  go_wp2_with fail
  refine (layInt_any (keep ++ le 1 1 ++ le 1 a ++ le 1 b) (List.replicate 21 0) 1 g 7 _ c w5.drew HC.out.1 (by have := HC.out.2; omega) HE.out.drew.row (by simp [keep, le_len]) (by simp) (by omega)).mono ?_
  rintro e w6 ⟨rfl, hl⟩
  replace HE := Lib.hid (HE.out.drew.next 1 hl)
  clear hl
  have hx := HE.out.c3
  go_wp2_with fail
  go_still_tail 4, (by kernel_rfl)
  change wpList _ _ _ _ _ w6.drew
  clear hx
  go_wp2_with fail
  refine (layInt_any (keep ++ le 1 1 ++ le 1 a ++ le 1 b ++ le 1 c) (List.replicate 20 0) 4 g 8 _ n w6.drew HN.out.1 (by have := HN.out.2; omega) HE.out.drew.row (by simp [keep, le_len]) (by simp) (by omega)).mono ?_
  rintro e w7 ⟨rfl, hl⟩
  replace HE := Lib.hid (HE.out.drew.next 4 hl)
  clear hl
  have hx := HE.out.c4
  go_wp2_with fail
  go_still_tail 4, (by kernel_rfl)
  change wpList _ _ _ _ _ w7.drew
  clear hx
  go_wp2_with fail
  refine (lay64_any (keep ++ le 1 1 ++ le 1 a ++ le 1 b ++ le 1 c ++ le 4 n) (List.replicate 16 0) 8 g 12 _ q w7.drew HQ.out.1 HQ.out.2 HE.out.drew.row (by simp [keep, le_len]) (by simp) (by omega)).mono ?_
  rintro e w8 ⟨rfl, hl⟩
  replace HE := Lib.hid (HE.out.drew.next 8 hl)
  clear hl
  have hx := HE.out.c5
  go_wp2_with fail
  go_still_tail 4, (by kernel_rfl)
  change wpList _ _ _ _ _ w8.drew
  clear hx
  go_wp2_with fail
  refine (lay32_any (keep ++ le 1 1 ++ le 1 a ++ le 1 b ++ le 1 c ++ le 4 n ++ le 8 q) (List.replicate 8 0) 4 g 20 _ s w8.drew HS.out.1 HS.out.2 HE.out.drew.row (by simp [keep, le_len]) (by simp) (by omega)).mono ?_
  rintro e w9 ⟨rfl, hl⟩
  replace HE := Lib.hid (HE.out.drew.next 4 hl)
  clear hl
  replace HE := Lib.hid (show EncAt w0 w.heap.size g a b c n q s (body a b c n q s) 4 w9 from HE.out)
  have HY := Lib.hid (HE.out.drew.bytes (body_len a b c n q s) (body_in a b c n q s))
  obtain ⟨v, hv⟩ : ∃ v, sumOf (body a b c n q s) = v := ⟨_, rfl⟩
  have HV := Lib.hid hv
  have HI := Lib.hid (show 0 ≤ v ∧ v < 4294967296 by rw [← hv]; exact sumOf_in _)
  clear hv
  go_wp2_with fail
  refine wp_region_still_tail 5 (by kernel_rfl) (by kernel_rfl) ?_
  simp only [List.take_succ_cons, List.take_zero, List.drop_succ_cons, List.drop_zero]
  iterate 4 still_step
  still_call (sum_at _ 24 _ _ _ v w9.drew HE.out.drew.on.tab (by unfold maxLen; omega) HY.out HV.out)
  refine wpStill_nil ?_
  change wpList _ _ _ _ _ w9.drew
  go_wp2_with fail
  refine (lay32_any (body a b c n q s) (List.replicate 4 0) 4 g 24 _ v w9.drew HI.out.1 HI.out.2 HE.out.drew.row (body_len a b c n q s) (by simp) (by omega)).mono ?_
  rintro e w10 ⟨rfl, hl⟩
  replace HE := Lib.hid (HE.out.drew.next 4 hl)
  clear hl
  go_wp2_with fail
  go_returns
  refine ⟨g, rfl, HE.out.on, HE.out.new, ?_⟩
  have hrow := HE.out.row
  rw [Nat.sub_self, List.replicate_zero, List.append_nil, ← HV.out] at hrow
  exact hrow
theorem enc_no (a b c n q s : Int) (w0 w : World) (H : On w0 w) (hr : can a b c n = false) : Calls Tryd.prog 53 #[headV a b c n q s] w fun e w' => e = .returned (.tuple #[.slice none 0 0, .int .i64 9]) ∧ On w0 w' := by
  have HT := Lib.hid (fun o => H.next (below_box w o))
  have HR := Lib.hid hr
  clear hr H
  go_enter Tryd.func53, Tryd.ntmps53
  go_wp2_with fail
  refine (canBe_any a b c n q s false _ _ (HT.out _) HR.out).mono ?_
  rintro e w1 ⟨rfl, hw1⟩
  have HW1 := Lib.hid hw1
  clear hw1
  go_wp2_with fail
  go_returns
  exact ⟨rfl, HW1.out⟩
end Go.Proofs.YtpbhkkcboppdmaaDoor
