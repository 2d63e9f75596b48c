/-
  THE WALK OF head.Encode.
  THE WALKS OF head.told, head.Decode.
  append OF BYTES ONTO WHAT THE CALL OWNS.
  THE PLAIN MATHEMATICS OF HEADS: what is encoded is decoded, what is decoded is encoded as it was, what differs within 32 bits isn't decoded.
-/
import Derived.Test.YthlemcnbebfliaaGreatDoorHPre
import Derived.StillTailTactics
import Derived.Deep.OwnRows
import Derived.Lib.SlBuf
import Derived.Lib.BufferWrite
import Derived.Laws.BytesArg
import Derived.Maps.AppendAt
namespace Go.Proofs.YthlemcnbebfliaaGreatDoor
open Ks Go.RowKit
set_option maxRecDepth 20000
theorem info5 : (Tryz.prog.info? 5).map (fun i => (i.zero, i.size, i.bytes)) = some (some (.int .u8 0), 1, 1) := by kernel_rfl
theorem size5 : (Tryz.prog.info? 5).map (·.size) = some 1 := by kernel_rfl
def Z28 : Array Value := ((List.replicate 28 0).map (Value.int .u8)).toArray
theorem make28 (w : World) : (Instr.makeSlice 33 (.int .i64 28) (.int .i64 28)).run Tryz.prog w = .ok (.slice (some ⟨w.heap.size, 0, none⟩) 28 28) (w.alloc (.cells Z28 5)) := by
  have := run_make_row' (P := Tryz.prog) 33 5 (.int .u8 0) 1 Tryz.underlying33 info5 rfl .i64 .i64 28 (by decide) (by decide) w
  rw [show madeCells #[Value.int .u8 0] 28 = Z28 by kernel_rfl] at this
  exact this
def keep : List Int := [75, 69, 69, 80]
theorem copy4 (w : World) (g : Nat) (h : Row w g (List.replicate 28 0)) : ∃ w', (Builtin.copy_ #[33, 9] 3 #[.slice (some ⟨g, 0, none⟩) 28 28, .string { data := #[75, 69, 69, 80] }]).run Tryz.prog w = .ok (goInt 4) w' ∧ Row w' g (keep ++ List.replicate 24 0) ∧ Only g w w' := by
  refine ⟨_, Lib.run_copy_row_string (P := Tryz.prog) w 33 9 3 5 g 0 28 28 { data := #[75, 69, 69, 80] } _ 5 Tryz.underlying33 size5 h (by decide) (by decide), ?_, ?_⟩
  · unfold Row
    rw [setRow_heap w g _ _ 5 (0, 0) h]
    rfl
  · exact ⟨rfl, rfl, rfl, by simp, fun k hk => setRow_other w g k _ (fun e => hk e)⟩

/-- where Encode stands: what is laid, zeros behind it; the head in its box -/
structure EncAt (w0 : World) (p g : Nat) (a b c n q s : Int) (pre : List Int) (m : Nat) (W : World) : Prop where
  on : On w0 W
  row : Row W g (pre ++ List.replicate m 0)
  new : w0.heap.size ≤ g
  ne : p ≠ g
  one : 1 < g
  c0 : W.cell? ⟨p, 0, none⟩ = some (.int .i64 a)
  c1 : W.cell? ⟨p, 1, none⟩ = some (.int .i64 b)
  c2 : W.cell? ⟨p, 2, none⟩ = some (.int .i64 c)
  c3 : W.cell? ⟨p, 3, none⟩ = some (.int .i64 n)
  c4 : W.cell? ⟨p, 4, none⟩ = some (.int .u64 q)
  c5 : W.cell? ⟨p, 5, none⟩ = some (.int .u32 s)
theorem encAt_start {w0 W w1 w2 : World} {p : Nat} {a b c n q s : Int} (hO : On w0 W) (h1 : On W w1) (hp : p < W.heap.size)
    (hb : W.cell? ⟨p, 0, none⟩ = some (.int .i64 a) ∧ W.cell? ⟨p, 1, none⟩ = some (.int .i64 b) ∧ W.cell? ⟨p, 2, none⟩ = some (.int .i64 c) ∧ W.cell? ⟨p, 3, none⟩ = some (.int .i64 n) ∧ W.cell? ⟨p, 4, none⟩ = some (.int .u64 q) ∧ W.cell? ⟨p, 5, none⟩ = some (.int .u32 s))
    {o : Obj} (hrow : Row w2 w1.heap.size (keep ++ List.replicate 24 0)) (honly : Only w1.heap.size (w1.alloc o) w2) : EncAt w0 p w1.heap.size a b c n q s keep 24 w2 := by
  have hs : W.heap.size ≤ w1.heap.size := h1.bel.size
  have hb2 : Below w1.heap.size w1 w2 := (below_box w1 o).trans (honly.below (Nat.le_refl _))
  have hc : ∀ i, w2.cell? ⟨p, i, none⟩ = W.cell? ⟨p, i, none⟩ := fun i => (hb2.cell (p := ⟨p, i, none⟩) (Nat.lt_of_lt_of_le hp hs)).trans (h1.bel.cell (p := ⟨p, i, none⟩) hp)
  obtain ⟨b0, b1, b2, b3, b4, b5⟩ := hb
  have h2 := tab_pos h1.tab
  exact ⟨(hO.next h1.bel).next hb2, hrow, Nat.le_trans hO.bel.size hs, by omega, h2, (hc 0).trans b0, (hc 1).trans b1, (hc 2).trans b2, (hc 3).trans b3, (hc 4).trans b4, (hc 5).trans b5⟩
theorem EncAt.next {w0 W w' : World} {p g m : Nat} {a b c n q s x : Int} {pre : List Int} (h : EncAt w0 p g a b c n q s pre m W) (k : Nat) (hl : LayAt W g pre (List.replicate m 0) x k w') : EncAt w0 p g a b c n q s (pre ++ le k x) (m - k) w' := by
  have ho := hl.2
  refine ⟨⟨tab_below h.on.tab (ho.below (Nat.le_refl g)) h.one, h.on.bel.trans (ho.below h.new)⟩, ?_, h.new, h.ne, h.one, (ho.cell h.ne).trans h.c0, (ho.cell h.ne).trans h.c1, (ho.cell h.ne).trans h.c2, (ho.cell h.ne).trans h.c3, (ho.cell h.ne).trans h.c4, (ho.cell h.ne).trans h.c5⟩
  have := hl.1
  rwa [List.drop_replicate] at this
theorem EncAt.drew {w0 W : World} {p g m : Nat} {a b c n q s : Int} {pre : List Int} (h : EncAt w0 p g a b c n q s pre m W) : EncAt w0 p g a b c n q s pre m W.drew :=
  ⟨⟨h.on.tab, h.on.bel.drew⟩, h.row, h.new, h.ne, h.one, h.c0, h.c1, h.c2, h.c3, h.c4, h.c5⟩
theorem EncAt.bytes {w0 W : World} {p g m k : Nat} {a b c n q s : Int} {pre : List Int} (h : EncAt w0 p g a b c n q s pre m W) (hk : pre.length = k) (hv : ∀ v ∈ pre, 0 ≤ v ∧ v ≤ 255) : Bytes W W.heap.size (some ⟨g, 0, none⟩) k pre :=
  ⟨hk, hv, fun _ => ⟨g, 0, rfl, h.row.lt, fun j hj => by
    rw [Nat.zero_add, (h.row.cell j (by simp; omega)).1]
    congr 2
    rw [List.getD, List.getD, List.getElem?_append_left (by omega)]⟩⟩
theorem sum_at (A : Option Addr) (n c B : Nat) (l : List Int) (v : Int) (w : World) (hT : Tab w) (hn : n ≤ maxLen) (hl : Bytes w B A n l) (hv : sumOf l = v) :
    Calls Tryz.prog 119 #[.slice A n c] w fun e w' => e = .returned (.int .u32 v) ∧ w' = w := by
  subst hv
  exact (sum_any A n c B l w hT hn hl).mono fun _ _ h => ⟨h.1, h.2.symm⟩
def body (a b c n q s : Int) : List Int := keep ++ le 1 1 ++ le 1 a ++ le 1 b ++ le 1 c ++ le 4 n ++ le 8 q ++ le 4 s
def enc (a b c n q s : Int) : List Int := body a b c n q s ++ le 4 (sumOf (body a b c n q s))
theorem body_len (a b c n q s : Int) : (body a b c n q s).length = 24 := by simp [body, keep, le_len]
theorem body_in (a b c n q s : Int) : ∀ v ∈ body a b c n q s, 0 ≤ v ∧ v ≤ 255 := by
  intro v hv
  simp only [body, List.mem_append] at hv
  rcases hv with ((((((h | h) | h) | h) | h) | h) | h) | h
  · revert v; decide
  all_goals exact le_in _ _ v h
theorem enc_len (a b c n q s : Int) : (enc a b c n q s).length = 28 := by rw [enc, List.length_append, body_len, le_len]
theorem enc_in (a b c n q s : Int) : ∀ v ∈ enc a b c n q s, 0 ≤ v ∧ v ≤ 255 := by
  intro v hv
  rcases List.mem_append.1 hv with h | h
  · exact body_in _ _ _ _ _ _ v h
  · exact le_in _ _ v h
theorem total_lt (a b c : Int) : 0 ≤ total a b c ∧ total a b c ≤ 131072 := by
  unfold total
  have h1 := col0_bounds a
  have h2 := bytesOf_bounds b 64 256 (by omega) (by omega) (by omega)
  have h3 := bytesOf_bounds c 128 64 (by omega) (by omega) (by omega)
  split <;> omega
theorem can_in {a b c n : Int} (h : can a b c n = true) : (0 ≤ a ∧ a ≤ 10) ∧ (0 ≤ b ∧ b ≤ 64) ∧ (0 ≤ c ∧ c ≤ 128) ∧ (0 ≤ n ∧ n ≤ 131072) := by
  unfold can right at h
  simp only [Bool.and_eq_true, decide_eq_true_eq, beq_iff_eq] at h
  obtain ⟨⟨h1, h2, h3⟩, h4⟩ := h
  exact ⟨h1, h2, h3, h4 ▸ total_lt a b c⟩

theorem enc_ok (a b c n q s : Int) (w0 w : World) (H : On w0 w) (hr : can a b c n = true) (hq : 0 ≤ q ∧ q < 18446744073709551616) (hs : 0 ≤ s ∧ s < 4294967296) :
    Calls Tryz.prog 118 #[headV a b c n q s] w fun e w' => ∃ g, e = .returned (.tuple #[.slice (some ⟨g, 0, none⟩) 28 28, .int .i64 0]) ∧ On w0 w' ∧ w0.heap.size ≤ g ∧ Row w' g (enc a b c n q s) := by
  have hm := make28
  obtain ⟨ha, hb, hc, hn⟩ := can_in hr
  have HB := Lib.hid (boxed6 w (.int .i64 a) (.int .i64 b) (.int .i64 c) (.int .i64 n) (.int .u64 q) (.int .u32 s) 85)
  have HT := Lib.hid (fun o => H.next (below_box w o))
  have HR := Lib.hid hr
  have HQ := Lib.hid hq
  have HS := Lib.hid hs
  have HA := Lib.hid ha
  have HBB := Lib.hid hb
  have HC := Lib.hid hc
  have HN := Lib.hid hn
  clear hr H ha hb hc hn hq hs
  go_enter Tryz.func118, Tryz.ntmps118
  go_wp2_with fail
  have HP := Lib.hid (show w.heap.size < (w.alloc (.cells #[.int .i64 a, .int .i64 b, .int .i64 c, .int .i64 n, .int .u64 q, .int .u32 s] 85)).heap.size by simp)
  have HO := Lib.hid (HT.out (.cells #[.int .i64 a, .int .i64 b, .int .i64 c, .int .i64 n, .int .u64 q, .int .u32 s] 85))
  clear HT
  generalize w.alloc (.cells #[.int .i64 a, .int .i64 b, .int .i64 c, .int .i64 n, .int .u64 q, .int .u32 s] 85) = W at *
  refine (canBe_any a b c n q s true _ _ (On.start HO.out.tab) HR.out).mono ?_
  rintro e w1 ⟨rfl, hw1⟩
  obtain ⟨w2, hcp, hrow, honly⟩ := copy4 (w1.alloc (.cells Z28 5)) w1.heap.size (heap_alloc_new w1 _)
  have HE := Lib.hid (show EncAt w0 w.heap.size w1.heap.size a b c n q s keep 24 w2 from encAt_start HO.out hw1 HP.out HB.out hrow honly)
  have hsz : W.heap.size ≤ w1.heap.size := hw1.bel.size
  clear hw1 hrow honly HB HR HO
  generalize hg : w1.heap.size = g at *
  go_wp2_with fail
  refine (layInt_any (keep) (List.replicate 24 0) 1 g 4 _ 1 w2 (by omega) (by omega) HE.out.row (rfl) (by simp) (by omega)).mono ?_
  rintro e w3 ⟨rfl, hl⟩
  replace HE := Lib.hid (HE.out.next 1 hl)
  clear hl
  have hx := HE.out.c0
  go_wp2_with fail
  go_still_tail 5, (by kernel_rfl)
  change wpList _ _ _ _ _ w3.drew
  clear hx
  go_wp2_with fail
  refine (layInt_any (keep ++ le 1 1) (List.replicate 23 0) 1 g 5 _ a w3.drew HA.out.1 (by have := HA.out.2; omega) HE.out.drew.row (by simp [keep, le_len]) (by simp) (by omega)).mono ?_
  rintro e w4 ⟨rfl, hl⟩
  replace HE := Lib.hid (HE.out.drew.next 1 hl)
  clear hl
  have hx := HE.out.c1
  go_wp2_with fail
  go_still_tail 5, (by kernel_rfl)
  change wpList _ _ _ _ _ w4.drew
  clear hx
  go_wp2_with fail
  refine (layInt_any (keep ++ le 1 1 ++ le 1 a) (List.replicate 22 0) 1 g 6 _ b w4.drew HBB.out.1 (by have := HBB.out.2; omega) HE.out.drew.row (by simp [keep, le_len]) (by simp) (by omega)).mono ?_
  rintro e w5 ⟨rfl, hl⟩
  replace HE := Lib.hid (HE.out.drew.next 1 hl)
  clear hl
  have hx := HE.out.c2
  go_wp2_with fail
  go_still_tail 5, (by kernel_rfl)
  change wpList _ _ _ _ _ w5.drew
  clear hx
  go_wp2_with fail
  refine (layInt_any (keep ++ le 1 1 ++ le 1 a ++ le 1 b) (List.replicate 21 0) 1 g 7 _ c w5.drew HC.out.1 (by have := HC.out.2; omega) HE.out.drew.row (by simp [keep, le_len]) (by simp) (by omega)).mono ?_
  rintro e w6 ⟨rfl, hl⟩
  replace HE := Lib.hid (HE.out.drew.next 1 hl)
  clear hl
  have hx := HE.out.c3
  go_wp2_with fail
  go_still_tail 4, (by kernel_rfl)
  change wpList _ _ _ _ _ w6.drew
  clear hx
  go_wp2_with fail
  refine (layInt_any (keep ++ le 1 1 ++ le 1 a ++ le 1 b ++ le 1 c) (List.replicate 20 0) 4 g 8 _ n w6.drew HN.out.1 (by have := HN.out.2; omega) HE.out.drew.row (by simp [keep, le_len]) (by simp) (by omega)).mono ?_
  rintro e w7 ⟨rfl, hl⟩
  replace HE := Lib.hid (HE.out.drew.next 4 hl)
  clear hl
  have hx := HE.out.c4
  go_wp2_with fail
  go_still_tail 4, (by kernel_rfl)
  change wpList _ _ _ _ _ w7.drew
  clear hx
  go_wp2_with fail
  refine (lay64_any (keep ++ le 1 1 ++ le 1 a ++ le 1 b ++ le 1 c ++ le 4 n) (List.replicate 16 0) 8 g 12 _ q w7.drew HQ.out.1 HQ.out.2 HE.out.drew.row (by simp [keep, le_len]) (by simp) (by omega)).mono ?_
  rintro e w8 ⟨rfl, hl⟩
  replace HE := Lib.hid (HE.out.drew.next 8 hl)
  clear hl
  have hx := HE.out.c5
  go_wp2_with fail
  go_still_tail 4, (by kernel_rfl)
  change wpList _ _ _ _ _ w8.drew
  clear hx
  go_wp2_with fail
  refine (lay32_any (keep ++ le 1 1 ++ le 1 a ++ le 1 b ++ le 1 c ++ le 4 n ++ le 8 q) (List.replicate 8 0) 4 g 20 _ s w8.drew HS.out.1 HS.out.2 HE.out.drew.row (by simp [keep, le_len]) (by simp) (by omega)).mono ?_
  rintro e w9 ⟨rfl, hl⟩
  replace HE := Lib.hid (HE.out.drew.next 4 hl)
  clear hl
  replace HE := Lib.hid (show EncAt w0 w.heap.size g a b c n q s (body a b c n q s) 4 w9 from HE.out)
  have HY := Lib.hid (HE.out.drew.bytes (body_len a b c n q s) (body_in a b c n q s))
  obtain ⟨v, hv⟩ : ∃ v, sumOf (body a b c n q s) = v := ⟨_, rfl⟩
  have HV := Lib.hid hv
  have HI := Lib.hid (show 0 ≤ v ∧ v < 4294967296 by rw [← hv]; exact sumOf_in _)
  clear hv
  go_wp2_with fail
  refine wp_region_still_tail 5 (by kernel_rfl) (by kernel_rfl) ?_
  simp only [List.take_succ_cons, List.take_zero, List.drop_succ_cons, List.drop_zero]
  iterate 4 still_step
  still_call (sum_at _ 24 _ _ _ v w9.drew HE.out.drew.on.tab (by unfold maxLen; omega) HY.out HV.out)
  refine wpStill_nil ?_
  change wpList _ _ _ _ _ w9.drew
  go_wp2_with fail
  refine (lay32_any (body a b c n q s) (List.replicate 4 0) 4 g 24 _ v w9.drew HI.out.1 HI.out.2 HE.out.drew.row (body_len a b c n q s) (by simp) (by omega)).mono ?_
  rintro e w10 ⟨rfl, hl⟩
  replace HE := Lib.hid (HE.out.drew.next 4 hl)
  clear hl
  go_wp2_with fail
  go_returns
  refine ⟨g, rfl, HE.out.on, HE.out.new, ?_⟩
  have hrow := HE.out.row
  rw [Nat.sub_self, List.replicate_zero, List.append_nil, ← HV.out] at hrow
  exact hrow
theorem enc_no (a b c n q s : Int) (w0 w : World) (H : On w0 w) (hr : can a b c n = false) : Calls Tryz.prog 118 #[headV a b c n q s] w fun e w' => e = .returned (.tuple #[.slice none 0 0, .int .i64 9]) ∧ On w0 w' := by
  have HT := Lib.hid (fun o => H.next (below_box w o))
  have HR := Lib.hid hr
  clear hr H
  go_enter Tryz.func118, Tryz.ntmps118
  go_wp2_with fail
  refine (canBe_any a b c n q s false _ _ (HT.out _) HR.out).mono ?_
  rintro e w1 ⟨rfl, hw1⟩
  have HW1 := Lib.hid hw1
  clear hw1
  go_wp2_with fail
  go_returns
  exact ⟨rfl, HW1.out⟩
end Go.Proofs.YthlemcnbebfliaaGreatDoor
namespace Go.Proofs.YthlemcnbebfliaaGreatDoor
open Ks Go.RowKit
set_option maxRecDepth 20000

/-- what a head's bytes tell -/
def decH (l : List Int) : Value := headV (num (Ks.part l 5 1)) (num (Ks.part l 6 1)) (num (Ks.part l 7 1)) (num (Ks.part l 8 4)) (num (Ks.part l 12 8)) (num (Ks.part l 20 4))
theorem told_any (b o n c B : Nat) (l : List Int) (v1 v2 v3 v4 v5 v6 : Int) (w : World) (hn : 28 ≤ n) (hnc : n ≤ c) (hl : Bytes w B (some ⟨b, o, none⟩) n l) (hB : B ≤ w.heap.size)
    (h1 : num (Ks.part l 5 1) = v1) (h2 : num (Ks.part l 6 1) = v2) (h3 : num (Ks.part l 7 1) = v3) (h4 : num (Ks.part l 8 4) = v4) (h5 : num (Ks.part l 12 8) = v5) (h6 : num (Ks.part l 20 4) = v6) :
    Calls Tryz.prog 140 #[.slice (some ⟨b, o, none⟩) n c] w fun e w' => e = .returned (headV v1 v2 v3 v4 v5 v6) ∧ Below w.heap.size w w' := by
  have HX := Lib.hid (fun ob => (below_box w ob).drew)
  have HL := Lib.hid (fun ob => bytes_below hl ((below_box w ob).drew.mono hB))
  have K1 := Lib.hid h1
  have K2 := Lib.hid h2
  have K3 := Lib.hid h3
  have K4 := Lib.hid h4
  have K5 := Lib.hid h5
  have K6 := Lib.hid h6
  clear hl h1 h2 h3 h4 h5 h6
  have c6 : (6 : Int) ≤ (c : Int) := by omega
  have c7 : (7 : Int) ≤ (c : Int) := by omega
  have c8 : (8 : Int) ≤ (c : Int) := by omega
  have c12 : (12 : Int) ≤ (c : Int) := by omega
  have c20 : (20 : Int) ≤ (c : Int) := by omega
  have c24 : (24 : Int) ≤ (c : Int) := by omega
  have d5 : ¬ c = 5 := by omega
  have d6 : ¬ c = 6 := by omega
  have d7 : ¬ c = 7 := by omega
  have d8 : ¬ c = 8 := by omega
  have d12 : ¬ c = 12 := by omega
  have d20 : ¬ c = 20 := by omega
  go_enter Tryz.func140, Tryz.ntmps140
  go_wp2_with fail
  refine wp_region_still_tail 20 (by kernel_rfl) (by kernel_rfl) ?_
  simp only [List.take_succ_cons, List.take_zero, List.drop_succ_cons, List.drop_zero]
  iterate 2 still_step
  still_call (takeInt_any _ 1 _ B _ v1 _ (by omega) (bytes_part (HL.out _) 5 1 (by omega)) K1.out)
  iterate 2 still_step
  still_call (takeInt_any _ 1 _ B _ v2 _ (by omega) (bytes_part (HL.out _) 6 1 (by omega)) K2.out)
  iterate 2 still_step
  still_call (takeInt_any _ 1 _ B _ v3 _ (by omega) (bytes_part (HL.out _) 7 1 (by omega)) K3.out)
  iterate 3 still_step
  still_call (takeInt_any _ 4 _ B _ v4 _ (by omega) (bytes_part (HL.out _) 8 4 (by omega)) K4.out)
  iterate 2 still_step
  still_call (take64_any _ 8 _ B _ v5 _ (by omega) (bytes_part (HL.out _) 12 8 (by omega)) K5.out)
  iterate 2 still_step
  still_call (take32_any _ 4 _ B _ v6 _ (by omega) (bytes_part (HL.out _) 20 4 (by omega)) K6.out)
  still_step
  refine wpStill_nil ?_
  change wpList _ _ _ _ _ (w.alloc _).drew
  go_wp2_with fail
  go_returns
  exact ⟨rfl, HX.out _⟩

/-- what is wrong with a head's bytes -/
def decErr (l : List Int) : Int :=
  if l.length < 28 then 5 else if Ks.part l 0 4 ≠ keep then 6 else if l.getD 4 0 ≠ 1 then 7 else if num (Ks.part l 24 4) ≠ sumOf (Ks.part l 0 24) then 8
  else if can (num (Ks.part l 5 1)) (num (Ks.part l 6 1)) (num (Ks.part l 7 1)) (num (Ks.part l 8 4)) = false then 9 else 0
def decVal (l : List Int) : Value := if decErr l = 0 then decH l else headV 0 0 0 0 0 0
def decT (l : List Int) : Value := .tuple #[decVal l, .int .i64 (decErr l)]
theorem decT_of {l : List Int} {k : Int} (h : decErr l = k) (hk : k ≠ 0) : decT l = .tuple #[headV 0 0 0 0 0 0, .int .i64 k] := by
  unfold decT decVal; rw [h, if_neg hk]
theorem decT_ok {l : List Int} (h : decErr l = 0) : decT l = .tuple #[decH l, .int .i64 0] := by
  unfold decT decVal; rw [h, if_pos rfl]
theorem keep_eq (l : List Int) (h : ∀ v ∈ l, 0 ≤ v ∧ v ≤ 255) : ((strOfNums l).toList == [75, 69, 69, 80]) = decide (l = keep) := by
  have e : ∀ l : List Int, (∀ v ∈ l, 0 ≤ v ∧ v ≤ 255) → (l.map fun n => UInt8.ofNat n.toNat).map (fun u => (u.toNat : Int)) = l := by
    intro l hl
    rw [List.map_map]
    conv => rhs; rw [← List.map_id l]
    apply List.map_congr_left
    intro v hv
    have := hl v hv
    simp only [Function.comp, id, UInt8.toNat_ofNat']
    omega
  rw [ByteArray.toList_eq, strOfNums_data, Bool.eq_iff_iff]
  simp only [beq_iff_eq, decide_eq_true_eq]
  constructor
  · intro hh
    have := congrArg (List.map (fun u : UInt8 => (u.toNat : Int))) hh
    rw [e l h] at this
    exact this
  · rintro rfl; rfl
theorem frozen6 (w : World) (a b c d e f : Value) (t : TypeId) (i : Nat) : (w.alloc (.cells #[a, b, c, d, e, f] t)).frozen? ⟨w.heap.size, i, none⟩ = false := by simp [go_sem]
theorem bytes_drew {w : World} {B n : Nat} {A : Option Addr} {l : List Int} (h : Bytes w B A n l) : Bytes w.drew B A n l := h
theorem Tab.drew {w : World} (h : Tab w) : Tab w.drew := h
theorem On.drew {w0 w : World} (h : On w0 w) : On w0 w.drew := ⟨h.tab, h.bel.drew⟩
theorem below_of_drew {B : Nat} {w w' : World} (h : Below B w.drew w') : Below B w w' := ⟨h.os, h.tape, h.output, h.size, h.block⟩
/-- six cells of a box in a world that came of it -/
theorem cells6 {W w3 : World} {p : Nat} {a b c d e f : Value} (h : Below W.heap.size W w3) (hp : p < W.heap.size)
    (hz : W.cell? ⟨p, 0, none⟩ = some a ∧ W.cell? ⟨p, 1, none⟩ = some b ∧ W.cell? ⟨p, 2, none⟩ = some c ∧ W.cell? ⟨p, 3, none⟩ = some d ∧ W.cell? ⟨p, 4, none⟩ = some e ∧ W.cell? ⟨p, 5, none⟩ = some f) :
    w3.cell? ⟨p, 0, none⟩ = some a ∧ w3.cell? ⟨p, 1, none⟩ = some b ∧ w3.cell? ⟨p, 2, none⟩ = some c ∧ w3.cell? ⟨p, 3, none⟩ = some d ∧ w3.cell? ⟨p, 4, none⟩ = some e ∧ w3.cell? ⟨p, 5, none⟩ = some f := by
  have hc : ∀ i, w3.cell? ⟨p, i, none⟩ = W.cell? ⟨p, i, none⟩ := fun i => h.cell (p := ⟨p, i, none⟩) hp
  rw [hc, hc, hc, hc, hc, hc]; exact hz
theorem fr6 {W w3 : World} {p : Nat} (h : Below W.heap.size W w3) (hp : p < W.heap.size) (hz : ∀ i, W.frozen? ⟨p, i, none⟩ = false) :
    w3.frozen? ⟨p, 0, none⟩ = false ∧ w3.frozen? ⟨p, 1, none⟩ = false ∧ w3.frozen? ⟨p, 2, none⟩ = false ∧ w3.frozen? ⟨p, 3, none⟩ = false ∧ w3.frozen? ⟨p, 4, none⟩ = false ∧ w3.frozen? ⟨p, 5, none⟩ = false := by
  have hc : ∀ i, w3.frozen? ⟨p, i, none⟩ = false := fun i => (h.frozen (p := ⟨p, i, none⟩) hp).trans (hz i)
  exact ⟨hc 0, hc 1, hc 2, hc 3, hc 4, hc 5⟩
theorem set_oth (W : World) (p i j : Nat) (x : Value) (h : i ≠ j) : (W.setCell ⟨p, i, none⟩ x).cell? ⟨p, j, none⟩ = W.cell? ⟨p, j, none⟩ := World.cell?_setCell_other _ _ _ _ (fun e => h (congrArg Addr.off e))
theorem sets6 (w3 : World) (p : Nat) {z0 z1 z2 z3 z4 z5 : Value} (h0 : w3.cell? ⟨p, 0, none⟩ = some z0) (h1 : w3.cell? ⟨p, 1, none⟩ = some z1) (h2 : w3.cell? ⟨p, 2, none⟩ = some z2) (h3 : w3.cell? ⟨p, 3, none⟩ = some z3) (h4 : w3.cell? ⟨p, 4, none⟩ = some z4) (h5 : w3.cell? ⟨p, 5, none⟩ = some z5) (a b c d e f : Value) :
    (w3.setCell ⟨p, 0, none⟩ a).cell? ⟨p, 0, none⟩ = some a ∧ ((w3.setCell ⟨p, 0, none⟩ a).setCell ⟨p, 1, none⟩ b).cell? ⟨p, 1, none⟩ = some b ∧ (((w3.setCell ⟨p, 0, none⟩ a).setCell ⟨p, 1, none⟩ b).setCell ⟨p, 2, none⟩ c).cell? ⟨p, 2, none⟩ = some c ∧ ((((w3.setCell ⟨p, 0, none⟩ a).setCell ⟨p, 1, none⟩ b).setCell ⟨p, 2, none⟩ c).setCell ⟨p, 3, none⟩ d).cell? ⟨p, 3, none⟩ = some d ∧ (((((w3.setCell ⟨p, 0, none⟩ a).setCell ⟨p, 1, none⟩ b).setCell ⟨p, 2, none⟩ c).setCell ⟨p, 3, none⟩ d).setCell ⟨p, 4, none⟩ e).cell? ⟨p, 4, none⟩ = some e ∧ ((((((w3.setCell ⟨p, 0, none⟩ a).setCell ⟨p, 1, none⟩ b).setCell ⟨p, 2, none⟩ c).setCell ⟨p, 3, none⟩ d).setCell ⟨p, 4, none⟩ e).setCell ⟨p, 5, none⟩ f).cell? ⟨p, 5, none⟩ = some f := by
  refine ⟨World.cell?_setCell_same _ _ _ h0, World.cell?_setCell_same (u := z1) _ _ _ ?_, World.cell?_setCell_same (u := z2) _ _ _ ?_, World.cell?_setCell_same (u := z3) _ _ _ ?_, World.cell?_setCell_same (u := z4) _ _ _ ?_, World.cell?_setCell_same (u := z5) _ _ _ ?_⟩
  · rw [set_oth _ _ _ _ _ (by decide)]; exact h1
  · rw [set_oth _ _ _ _ _ (by decide), set_oth _ _ _ _ _ (by decide)]; exact h2
  · rw [set_oth _ _ _ _ _ (by decide), set_oth _ _ _ _ _ (by decide), set_oth _ _ _ _ _ (by decide)]; exact h3
  · rw [set_oth _ _ _ _ _ (by decide), set_oth _ _ _ _ _ (by decide), set_oth _ _ _ _ _ (by decide), set_oth _ _ _ _ _ (by decide)]; exact h4
  · rw [set_oth _ _ _ _ _ (by decide), set_oth _ _ _ _ _ (by decide), set_oth _ _ _ _ _ (by decide), set_oth _ _ _ _ _ (by decide), set_oth _ _ _ _ _ (by decide)]; exact h5
theorem On.set_ {w0 w : World} (h : On w0 w) {p : Nat} (h0 : w0.heap.size ≤ p) (h1 : 1 < p) (i : Nat) (v : Value) : On w0 (w.setCell ⟨p, i, none⟩ v) :=
  ⟨tab_below h.tab ((Below.refl p w).setCell (p := ⟨p, i, none⟩) (Nat.le_refl _) v) h1, h.bel.setCell (p := ⟨p, i, none⟩) h0 v⟩
theorem dec_short (A : Option Addr) (n c : Nat) (l : List Int) (w0 w : World) (H : On w0 w) (hl : l.length = n) (hn : n < 28) :
    Calls Tryz.prog 123 #[.slice A n c] w fun e w' => e = .returned (decT l) ∧ On w0 w' := by
  have HX := Lib.hid (fun ob => H.next (below_box w ob))
  have HE := Lib.hid (decT_of (l := l) (k := 5) (by unfold decErr; rw [if_pos (by omega)]) (by decide))
  clear H hl
  have hn' : (n : Int) < 28 := by omega
  go_enter Tryz.func123, Tryz.ntmps123
  go_wp2_with fail
  go_returns
  exact ⟨by rw [HE.out], HX.out _⟩
theorem dec_long (b o n c B : Nat) (l : List Int) (w0 w : World) (H : On w0 w) (hn : 28 ≤ n) (hnc : n ≤ c) (hl : Bytes w B (some ⟨b, o, none⟩) n l) (hB : B ≤ w.heap.size) :
    Calls Tryz.prog 123 #[.slice (some ⟨b, o, none⟩) n c] w fun e w' => e = .returned (decT l) ∧ On w0 w' := by
  have HX := Lib.hid (fun ob => H.next (below_box w ob))
  have HL := Lib.hid (fun ob => bytes_below hl (B := B) ((below_box w ob).mono hB))
  have HLL := Lib.hid (show ¬ l.length < 28 by rw [hl.1]; omega)
  have hn' : ¬ (n : Int) < 28 := by omega
  have hn4 : (4 : Int) ≤ (c : Int) := by omega
  have hn5 : (4 : Int) < (n : Int) := by omega
  obtain ⟨S, hS⟩ : ∃ S, strOfNums (Ks.part l 0 4) = S := ⟨_, rfl⟩
  have hcv := fun (ob : Obj) => hS ▸ run_convert_bytes_arg (P := Tryz.prog) (w.alloc ob) 33 5 Tryz.underlying33 Tryz.underlying5 b o 4 c (Ks.part l 0 4) (part_len l 0 4 (by have := hl.1; omega)) (fun i hi => by
    obtain ⟨b', o', e, hc⟩ := bytes_cell hl ((below_box w ob).mono hB) i (by omega)
    cases e
    rw [hc, part_getD l 0 4 i hi, Nat.zero_add]) 9 (by kernel_rfl)
  have hq : (S.toList == [75, 69, 69, 80]) = decide (Ks.part l 0 4 = keep) := hS ▸ keep_eq _ (part_in l hl.2.1 0 4)
  have hc4 : ∀ ob : Obj, (w.alloc ob).cell? ⟨b, o + 4, none⟩ = some (.int .u8 (l.getD 4 0)) := fun ob => by
    obtain ⟨b', o', e, hc⟩ := bytes_cell hl ((below_box w ob).mono hB) 4 (by omega)
    cases e
    exact hc
  have HB := Lib.hid hB
  have HN0 := Lib.hid H.bel.size
  have HH := Lib.hid (tab_pos H.tab)
  clear H hl hS hB
  by_cases k1 : Ks.part l 0 4 = keep
  rotate_left
  · rw [decide_eq_false k1] at hq
    have HE := Lib.hid (decT_of (l := l) (k := 6) (by unfold decErr; rw [if_neg HLL.out, if_pos k1]) (by decide))
    clear k1 hc4
    go_enter Tryz.func123, Tryz.ntmps123
    go_wp2_with fail
    go_returns
    exact ⟨by rw [HE.out], HX.out _⟩
  rw [decide_eq_true k1] at hq
  by_cases k2 : l.getD 4 0 = 1
  rotate_left
  · have HE := Lib.hid (decT_of (l := l) (k := 7) (by unfold decErr; rw [if_neg HLL.out, if_neg (fun h => h k1), if_pos k2]) (by decide))
    have hx : (l.getD 4 0 != 1) = true := by simpa using k2
    generalize l.getD 4 0 = x at *
    clear k1 k2
    go_enter Tryz.func123, Tryz.ntmps123
    go_wp2_with fail
    go_returns
    exact ⟨by rw [HE.out], HX.out _⟩
  rw [k2] at hc4
  have K1 := Lib.hid k1
  have K2 := Lib.hid k2
  have hc24 : (24 : Int) ≤ (c : Int) := by omega
  have hc28 : (28 : Int) ≤ (c : Int) := by omega
  have hc24n : ¬ c = 24 := by omega
  clear k1 k2
  obtain ⟨v, hv⟩ : ∃ v, num (Ks.part l 24 4) = v := ⟨_, rfl⟩
  obtain ⟨u, hu⟩ : ∃ v, sumOf (Ks.part l 0 24) = v := ⟨_, rfl⟩
  have HV := Lib.hid hv
  have HU := Lib.hid hu
  clear hv hu
  go_enter Tryz.func123, Tryz.ntmps123
  go_wp2_with fail
  clear hcv hc4 hq
  have HX1 := Lib.hid (HX.out (.cells #[.int .i64 0, .int .i64 0, .int .i64 0, .int .i64 0, .int .u64 0, .int .u32 0] 85))
  have HL1 := Lib.hid (HL.out (.cells #[.int .i64 0, .int .i64 0, .int .i64 0, .int .i64 0, .int .u64 0, .int .u32 0] 85))
  have HZ := Lib.hid (boxed6 w (.int .i64 0) (.int .i64 0) (.int .i64 0) (.int .i64 0) (.int .u64 0) (.int .u32 0) 85)
  have HF := Lib.hid (frozen6 w (.int .i64 0) (.int .i64 0) (.int .i64 0) (.int .i64 0) (.int .u64 0) (.int .u32 0) 85)
  refine wp_region_still_lit (by kernel_rfl) (by kernel_rfl) ?_
  iterate 2 still_step
  still_call (take32_any _ 4 _ B _ v _ (by omega) (bytes_part (bytes_drew HL1.out) 24 4 (by omega)) HV.out)
  iterate 2 still_step
  still_call (sum_at _ 24 _ B _ u _ HX1.out.tab (by unfold maxLen; omega) (bytes_part (bytes_drew HL1.out) 0 24 (by omega)) HU.out)
  still_step
  refine wpStill_nil ?_
  by_cases k3 : v = u
  rotate_left
  · have hx : (v != u) = true := by simpa using k3
    have HE := Lib.hid (decT_of (l := l) (k := 8) (by unfold decErr; rw [if_neg HLL.out, if_neg (fun h => h K1.out), if_neg (fun h => h K2.out), if_pos (by rw [HV.out, HU.out]; exact k3)]) (by decide))
    have HX2 := Lib.hid (fun ob => (HX.out ob).drew)
    clear k3 HX1 HL1 HX
    change Exit.then _ _ _ _ (w.alloc _).drew
    go_wp2_with fail
    go_returns
    exact ⟨by rw [HE.out], HX2.out _⟩
  subst k3
  obtain ⟨v1, h1⟩ : ∃ v, num (Ks.part l 5 1) = v := ⟨_, rfl⟩
  obtain ⟨v2, h2⟩ : ∃ v, num (Ks.part l 6 1) = v := ⟨_, rfl⟩
  obtain ⟨v3, h3⟩ : ∃ v, num (Ks.part l 7 1) = v := ⟨_, rfl⟩
  obtain ⟨v4, h4⟩ : ∃ v, num (Ks.part l 8 4) = v := ⟨_, rfl⟩
  obtain ⟨v5, h5⟩ : ∃ v, num (Ks.part l 12 8) = v := ⟨_, rfl⟩
  obtain ⟨v6, h6⟩ : ∃ v, num (Ks.part l 20 4) = v := ⟨_, rfl⟩
  have J1 := Lib.hid h1
  have J2 := Lib.hid h2
  have J3 := Lib.hid h3
  have J4 := Lib.hid h4
  have J5 := Lib.hid h5
  have J6 := Lib.hid h6
  clear h1 h2 h3 h4 h5 h6
  change Exit.then _ _ _ _ (w.alloc _).drew
  have HS := Lib.hid (show B ≤ (w.alloc (.cells #[.int .i64 0, .int .i64 0, .int .i64 0, .int .i64 0, .int .u64 0, .int .u32 0] 85)).heap.size ∧ w.heap.size < (w.alloc (.cells #[.int .i64 0, .int .i64 0, .int .i64 0, .int .i64 0, .int .u64 0, .int .u32 0] 85)).heap.size by have := HB.out; simp; omega)
  clear HX HL
  generalize w.alloc (.cells #[.int .i64 0, .int .i64 0, .int .i64 0, .int .i64 0, .int .u64 0, .int .u32 0] 85) = W at *
  go_wp2_with fail
  refine (told_any b o n c B l v1 v2 v3 v4 v5 v6 W.drew hn hnc (bytes_drew HL1.out) HS.out.1 J1.out J2.out J3.out J4.out J5.out J6.out).mono ?_
  rintro e w1 ⟨rfl, hw1⟩
  have HW1 := Lib.hid (show On W w1 from ⟨tab_below HX1.out.tab.drew hw1 (tab_pos HX1.out.tab), below_of_drew hw1⟩)
  clear hw1
  go_wp2_with fail
  have HBX := Lib.hid (boxed6 w1 (.int .i64 v1) (.int .i64 v2) (.int .i64 v3) (.int .i64 v4) (.int .u64 v5) (.int .u32 v6) 85)
  have HP := Lib.hid (show w1.heap.size < (w1.alloc (.cells #[.int .i64 v1, .int .i64 v2, .int .i64 v3, .int .i64 v4, .int .u64 v5, .int .u32 v6] 85)).heap.size by simp)
  have HW2 := Lib.hid (HW1.out.next (below_box w1 (.cells #[.int .i64 v1, .int .i64 v2, .int .i64 v3, .int .i64 v4, .int .u64 v5, .int .u32 v6] 85)))
  generalize w1.alloc (.cells #[.int .i64 v1, .int .i64 v2, .int .i64 v3, .int .i64 v4, .int .u64 v5, .int .u32 v6] 85) = W2 at *
  obtain ⟨r, hr⟩ : ∃ r, can v1 v2 v3 v4 = r := ⟨_, rfl⟩
  refine (canBe_any v1 v2 v3 v4 v5 v6 r _ _ (On.start HW2.out.tab) hr).mono ?_
  rintro e w3 ⟨rfl, hw3⟩
  have HW3 := Lib.hid (HX1.out.next (HW2.out.next hw3.bel).bel)
  have HBB := Lib.hid (HW2.out.next hw3.bel).bel
  obtain ⟨z0, z1, z2, z3, z4, z5⟩ := cells6 HBB.out HS.out.2 HZ.out
  obtain ⟨f0, f1, f2, f3, f4, f5⟩ := fr6 HBB.out HS.out.2 HF.out
  obtain ⟨x0, x1, x2, x3, x4, x5⟩ := cells6 hw3.bel HP.out HBX.out
  clear hw3 HZ HF HBX HW2
  cases r
  · have HE := Lib.hid (decT_of (l := l) (k := 9) (by unfold decErr; rw [if_neg HLL.out, if_neg (fun h => h K1.out), if_neg (fun h => h K2.out), if_neg (fun h => h (HV.out.trans HU.out.symm)), if_pos (by rw [J1.out, J2.out, J3.out, J4.out]; exact hr)]) (by decide))
    clear hr x0 x1 x2 x3 x4 x5
    obtain ⟨s0, s1, s2, s3, s4, s5⟩ := sets6 w3 w.heap.size z0 z1 z2 z3 z4 z5 (.int .i64 0) (.int .i64 0) (.int .i64 0) (.int .i64 0) (.int .u64 0) (.int .u32 0)
    go_wp2_with fail
    try simp only [Exit.inBlock, Exit.then]
    refine bodyPost_ret (by simp [results, Tryz.results123, go_sem, s0, s1, s2, s3, s4, s5]; try rfl) rfl ?_
    exact ⟨by rw [HE.out], ((((((HW3.out.set_ HN0.out HH.out _ _).set_ HN0.out HH.out _ _).set_ HN0.out HH.out _ _).set_ HN0.out HH.out _ _).set_ HN0.out HH.out _ _).set_ HN0.out HH.out _ _)⟩
  · have HE := Lib.hid (decT_ok (l := l) (by unfold decErr; rw [if_neg HLL.out, if_neg (fun h => h K1.out), if_neg (fun h => h K2.out), if_neg (fun h => h (HV.out.trans HU.out.symm)), if_neg (by rw [J1.out, J2.out, J3.out, J4.out, hr]; decide)]))
    have HD := Lib.hid (show decH l = headV v1 v2 v3 v4 v5 v6 by unfold decH; rw [J1.out, J2.out, J3.out, J4.out, J5.out, J6.out])
    clear hr
    obtain ⟨s0, s1, s2, s3, s4, s5⟩ := sets6 w3 w.heap.size z0 z1 z2 z3 z4 z5 (.int .i64 v1) (.int .i64 v2) (.int .i64 v3) (.int .i64 v4) (.int .u64 v5) (.int .u32 v6)
    go_wp2_with fail
    try simp only [Exit.inBlock, Exit.then]
    refine bodyPost_ret (by simp [results, Tryz.results123, go_sem, s0, s1, s2, s3, s4, s5]; try rfl) rfl ?_
    exact ⟨by rw [HE.out, HD.out], ((((((HW3.out.set_ HN0.out HH.out _ _).set_ HN0.out HH.out _ _).set_ HN0.out HH.out _ _).set_ HN0.out HH.out _ _).set_ HN0.out HH.out _ _).set_ HN0.out HH.out _ _)⟩
theorem dec_any (A : Option Addr) (n c B : Nat) (l : List Int) (w0 w : World) (H : On w0 w) (hnc : n ≤ c) (hl : Bytes w B A n l) (hB : B ≤ w.heap.size) :
    Calls Tryz.prog 123 #[.slice A n c] w fun e w' => e = .returned (decT l) ∧ On w0 w' := by
  by_cases hn : n < 28
  · exact dec_short A n c l w0 w H hl.1 hn
  · obtain ⟨b, o, rfl, _, _⟩ := hl.2.2 (by omega)
    exact dec_long b o n c B l w0 w H (by omega) hnc hl hB
end Go.Proofs.YthlemcnbebfliaaGreatDoor
namespace Go.Proofs.YthlemcnbebfliaaGreatDoor
open Ks Go.RowKit
set_option maxRecDepth 20000

/-- bytes in a row of the call's own -/
def Own (base : Nat) (w : World) (v : Value) (l : List Int) : Prop := w.ownsRow base 5 1 v l.length (l.map (Value.int .u8))
section
variable {base : Nat} {w w' : World} {v : Value} {l : List Int}
theorem Own.lt (h : Own base w v l) {g : Nat} (hg : v.ownBlock = some g) : base ≤ g ∧ g < w.heap.size := by
  rcases h.2 with ⟨rfl, _⟩ | ⟨g', cap, cur, rfl, hb, hh, _⟩
  · cases hg
  · simp [Value.ownBlock] at hg
    subst hg
    exact ⟨hb, (Array.getElem?_eq_some_iff.1 hh).1⟩
theorem Own.below (h : Own base w v l) (hb : Below w.heap.size w w') : Own base w' v l := by
  refine ⟨h.1, ?_⟩
  rcases h.2 with ⟨rfl, h0⟩ | ⟨g, cap, cur, rfl, hg, hh, r⟩
  · exact .inl ⟨rfl, h0⟩
  · exact .inr ⟨g, cap, cur, rfl, hg, (hb.block g (Array.getElem?_eq_some_iff.1 hh).1).trans hh, r⟩
theorem Own.bytes (h : Own base w v l) (hv : ∀ v ∈ l, 0 ≤ v ∧ v ≤ 255) : ∃ A c, v = .slice A l.length c ∧ l.length ≤ c ∧ Bytes w w.heap.size A l.length l := by
  rcases h.2 with ⟨rfl, h0⟩ | ⟨g, cap, cur, rfl, hg, hh, hn, _⟩
  · exact ⟨none, 0, by rw [h0], by omega, rfl, hv, fun h => absurd h (by omega)⟩
  · refine ⟨_, _, rfl, hn, rfl, hv, fun _ => ⟨g, 0, rfl, (Array.getElem?_eq_some_iff.1 hh).1, fun k hk => ?_⟩⟩
    have := h.cells (g := g) rfl k (.int .u8 (l.getD k 0)) (by simp [List.getD, hk])
    rw [Go.WideShapes.add_plain] at this
    exact this
end
theorem ints_one (bs : List Int) : ∀ u ∈ bs.map (Value.int .u8), u.oneCell' = true := by
  intro u hu
  obtain ⟨x, _, rfl⟩ := List.mem_map.1 hu
  rfl
theorem bys_news {w : World} {b o : Nat} {bs : List Int} (hc : ∀ k, k < bs.length → w.cell? ⟨b, o + k, none⟩ = some (.int .u8 (bs.getD k 0))) :
    ∀ j u, (bs.map (Value.int .u8))[j]? = some u → w.cell? ((⟨b, o, none⟩ : Addr).add j) = some u := by
  intro j u hu
  rw [Go.WideShapes.add_plain]
  have hj : j < bs.length := by
    have := (List.getElem?_eq_some_iff.1 hu).1
    simpa using this
  rw [hc j hj]
  simp [hj] at hu
  simp [List.getD, hj, hu]
theorem own_none (base : Nat) (w : World) (o : Obj) (hb : base ≤ w.heap.size) (ho : o = Obj.cells #[] 5) : Own base (w.alloc o) (.slice (some ⟨w.heap.size, 0, none⟩) 0 0) [] := by
  subst ho
  exact ⟨rfl, .inr ⟨w.heap.size, 0, #[], rfl, hb, heap_alloc_new w _, Nat.le_refl _, Nat.zero_le _, rfl, rfl⟩⟩

/-- append onto what the call owns, of bytes wherever they are -/
theorem append_own (w : World) (base ty : Nat) (v : Value) (xs : List Int) (hown : Own base w v xs) (A : Option Addr) (m c B : Nat) (l : List Int) (hl : Bytes w B A m l) (hlen : xs.length + m ≤ 1000000) (hbase : base ≤ w.heap.size) :
    ∃ v' w', (Builtin.append_ #[33, 33] ty #[v, .slice A m c]).run Tryz.prog w = .ok v' w' ∧ Own base w' v' (xs ++ l) ∧ Below base w w' := by
  obtain ⟨i0, hi, hz0, hz1, hz2⟩ := info_parts info5
  have fin : ∀ v' w', w'.ownsRow base 5 1 v' (xs.length + m) ((xs ++ l).map (Value.int .u8)) → w.grownBy w' v.ownBlock → Own base w' v' (xs ++ l) ∧ Below base w w' := by
    intro v' w' h1 h2
    refine ⟨?_, (Below.refl base w).grown h2 hbase (fun k hk => (hown.lt hk).1)⟩
    unfold Own
    rw [List.length_append, hl.1]
    exact h1
  rcases Nat.eq_zero_or_pos m with h0 | h0
  · subst h0
    have hb : l = [] := List.eq_nil_of_length_eq_zero hl.1
    subst hb
    cases A with
    | none =>
      refine ⟨v, w, ?_, fin _ _ (by simpa [Own] using hown) (World.grownBy.refl w _)⟩
      rcases hown.2 with ⟨rfl, h9⟩ | ⟨g, cap, cur, rfl, _, _, hnc, _⟩
      · simp [Builtin.append_, run_underlying Tryz.underlying33, sizeOf, typeInfo, hi, Builtin.lenOf, Builtin.firstCells]
      · simp [Builtin.append_, run_underlying Tryz.underlying33, sizeOf, typeInfo, hi, Builtin.lenOf, Builtin.firstCells, hnc, storeCells]
    | some ad =>
      obtain ⟨v', w', hr, h2, h3, _, h5⟩ := run_append_own_at (P := Tryz.prog) w base 33 ty 5 i0 _ 1 1 Tryz.underlying33 hi hz0 hz1 hz2 rfl (by omega) v xs.length _ hown ad 0 c [] rfl (by simp) (by simp) (by unfold maxLen; omega) (by omega) hbase
      exact ⟨v', w', hr, fin _ _ (by simpa using h2) h3⟩
  · obtain ⟨b, o, rfl, _, hcs⟩ := hl.2.2 h0
    have hll := hl.1
    obtain ⟨v', w', hr, h2, h3, _, h5⟩ := run_append_own_at (P := Tryz.prog) w base 33 ty 5 i0 _ 1 1 Tryz.underlying33 hi hz0 hz1 hz2 rfl (by omega) v xs.length _ hown ⟨b, o, none⟩ m c (l.map (Value.int .u8)) (by simp [hll]) (bys_news (by rw [hll]; exact hcs)) (ints_one l) (by unfold maxLen; omega) (by omega) hbase
    exact ⟨v', w', hr, fin _ _ (by simpa using h2) h3⟩
end Go.Proofs.YthlemcnbebfliaaGreatDoor
namespace Go.Proofs.YthlemcnbebfliaaGreatDoor
open Ks Go.RowKit

theorem part_mid (x y z : List Int) {o k : Nat} (ho : x.length = o) (hk : y.length = k) : Ks.part (x ++ (y ++ z)) o k = y := by
  subst ho hk
  unfold Ks.part
  rw [List.drop_left, List.take_left]
theorem can_le {a b c n : Int} (h : can a b c n = true) : num (le 1 a) = a ∧ num (le 1 b) = b ∧ num (le 1 c) = c ∧ num (le 4 n) = n := by
  obtain ⟨h1, h2, h3, h4⟩ := can_in h
  exact ⟨num_le 1 a h1.1 (by simp; omega), num_le 1 b h2.1 (by simp; omega), num_le 1 c h3.1 (by simp; omega), num_le 4 n h4.1 (by simp; omega)⟩
theorem dec_enc (a b c n q s : Int) (m : List Int) (hc : can a b c n = true) (hq : 0 ≤ q ∧ q < 18446744073709551616) (hs : 0 ≤ s ∧ s < 4294967296) :
    decErr (enc a b c n q s ++ m) = 0 ∧ decH (enc a b c n q s ++ m) = headV a b c n q s := by
  obtain ⟨n1, n2, n3, n4⟩ := can_le hc
  have n5 : num (le 8 q) = q := num_le 8 q hq.1 (by simpa using hq.2)
  have n6 : num (le 4 s) = s := num_le 4 s hs.1 (by simpa using hs.2)
  have hz := sumOf_in (body a b c n q s)
  have n7 : num (le 4 (sumOf (body a b c n q s))) = sumOf (body a b c n q s) := num_le 4 _ hz.1 (by simpa using hz.2)
  have p0 : Ks.part (enc a b c n q s ++ m) 0 4 = keep := by
    have e : enc a b c n q s ++ m = [] ++ (keep ++ (le 1 1 ++ (le 1 a ++ (le 1 b ++ (le 1 c ++ (le 4 n ++ (le 8 q ++ (le 4 s ++ (le 4 (sumOf (body a b c n q s)) ++ m))))))))) := by
      conv => lhs; rw [enc]; arg 1; arg 1; rw [body]
      simp only [List.append_assoc, List.nil_append]
    rw [e]; exact part_mid _ _ _ rfl rfl
  have e4 : enc a b c n q s ++ m = keep ++ ([1] ++ (le 1 a ++ (le 1 b ++ (le 1 c ++ (le 4 n ++ (le 8 q ++ (le 4 s ++ (le 4 (sumOf (body a b c n q s)) ++ m)))))))) := by
    conv => lhs; rw [enc]; arg 1; arg 1; rw [body]
    rw [le_one 1 (by omega)]
    simp only [List.append_assoc]
  have p4 : (enc a b c n q s ++ m).getD 4 0 = 1 := by rw [e4]; rfl
  have p5 : Ks.part (enc a b c n q s ++ m) 5 1 = le 1 a := by
    rw [e4, ← List.append_assoc keep]; exact part_mid _ _ _ rfl (le_len _ _)
  have p6 : Ks.part (enc a b c n q s ++ m) 6 1 = le 1 b := by
    rw [e4, ← List.append_assoc keep, ← List.append_assoc (keep ++ [1])]; exact part_mid _ _ _ (by simp [keep, le_len]) (le_len _ _)
  have p7 : Ks.part (enc a b c n q s ++ m) 7 1 = le 1 c := by
    rw [e4, ← List.append_assoc keep, ← List.append_assoc (keep ++ [1]), ← List.append_assoc (keep ++ [1] ++ le 1 a)]; exact part_mid _ _ _ (by simp [keep, le_len]) (le_len _ _)
  have p8 : Ks.part (enc a b c n q s ++ m) 8 4 = le 4 n := by
    rw [e4, ← List.append_assoc keep, ← List.append_assoc (keep ++ [1]), ← List.append_assoc (keep ++ [1] ++ le 1 a), ← List.append_assoc (keep ++ [1] ++ le 1 a ++ le 1 b)]; exact part_mid _ _ _ (by simp [keep, le_len]) (le_len _ _)
  have p12 : Ks.part (enc a b c n q s ++ m) 12 8 = le 8 q := by
    rw [e4, ← List.append_assoc keep, ← List.append_assoc (keep ++ [1]), ← List.append_assoc (keep ++ [1] ++ le 1 a), ← List.append_assoc (keep ++ [1] ++ le 1 a ++ le 1 b), ← List.append_assoc (keep ++ [1] ++ le 1 a ++ le 1 b ++ le 1 c)]; exact part_mid _ _ _ (by simp [keep, le_len]) (le_len _ _)
  have p20 : Ks.part (enc a b c n q s ++ m) 20 4 = le 4 s := by
    rw [e4, ← List.append_assoc keep, ← List.append_assoc (keep ++ [1]), ← List.append_assoc (keep ++ [1] ++ le 1 a), ← List.append_assoc (keep ++ [1] ++ le 1 a ++ le 1 b), ← List.append_assoc (keep ++ [1] ++ le 1 a ++ le 1 b ++ le 1 c), ← List.append_assoc (keep ++ [1] ++ le 1 a ++ le 1 b ++ le 1 c ++ le 4 n)]; exact part_mid _ _ _ (by simp [keep, le_len]) (le_len _ _)
  have eb : enc a b c n q s ++ m = body a b c n q s ++ (le 4 (sumOf (body a b c n q s)) ++ m) := by rw [enc, List.append_assoc]
  have p24 : Ks.part (enc a b c n q s ++ m) 24 4 = le 4 (sumOf (body a b c n q s)) := by
    rw [eb]; exact part_mid _ _ _ (body_len _ _ _ _ _ _) (le_len _ _)
  have pb : Ks.part (enc a b c n q s ++ m) 0 24 = body a b c n q s := by
    rw [eb]; exact part_mid [] _ _ rfl (body_len _ _ _ _ _ _)
  constructor
  · unfold decErr
    rw [if_neg (by rw [List.length_append, enc_len]; omega), if_neg (fun h => h p0), if_neg (fun h => h p4), if_neg (fun h => h (by rw [p24, pb, n7])), p5, p6, p7, p8, n1, n2, n3, n4, if_neg (by rw [hc]; decide)]
  · unfold decH
    rw [p5, p6, p7, p8, p12, p20, n1, n2, n3, n4, n5, n6]

/-- what holds of bytes that are decoded -/
theorem dec_ok {l : List Int} (h : decErr l = 0) : 28 ≤ l.length ∧ Ks.part l 0 4 = keep ∧ l.getD 4 0 = 1 ∧ num (Ks.part l 24 4) = sumOf (Ks.part l 0 24) ∧ can (num (Ks.part l 5 1)) (num (Ks.part l 6 1)) (num (Ks.part l 7 1)) (num (Ks.part l 8 4)) = true := by
  unfold decErr at h
  by_cases h1 : l.length < 28
  · rw [if_pos h1] at h; omega
  rw [if_neg h1] at h
  by_cases h2 : Ks.part l 0 4 = keep
  rotate_left
  · rw [if_pos h2] at h; omega
  rw [if_neg (fun e => e h2)] at h
  by_cases h3 : l.getD 4 0 = 1
  rotate_left
  · rw [if_pos h3] at h; omega
  rw [if_neg (fun e => e h3)] at h
  by_cases h4 : num (Ks.part l 24 4) = sumOf (Ks.part l 0 24)
  rotate_left
  · rw [if_pos h4] at h; omega
  rw [if_neg (fun e => e h4)] at h
  refine ⟨by omega, h2, h3, h4, ?_⟩
  cases hc : can (num (Ks.part l 5 1)) (num (Ks.part l 6 1)) (num (Ks.part l 7 1)) (num (Ks.part l 8 4))
  · rw [if_pos hc] at h; omega
  · rfl

/-- what is decoded is encoded as it was -/
theorem enc_dec {l : List Int} (h : decErr l = 0) (hv : ∀ v ∈ l, 0 ≤ v ∧ v ≤ 255) :
    enc (num (Ks.part l 5 1)) (num (Ks.part l 6 1)) (num (Ks.part l 7 1)) (num (Ks.part l 8 4)) (num (Ks.part l 12 8)) (num (Ks.part l 20 4)) = l.take 28 := by
  obtain ⟨h1, h2, h3, h4, h5⟩ := dec_ok h
  have hb : body (num (Ks.part l 5 1)) (num (Ks.part l 6 1)) (num (Ks.part l 7 1)) (num (Ks.part l 8 4)) (num (Ks.part l 12 8)) (num (Ks.part l 20 4)) = l.take 24 := by
    unfold body
    rw [le_part l hv 5 1 (by omega), le_part l hv 6 1 (by omega), le_part l hv 7 1 (by omega), le_part l hv 8 4 (by omega), le_part l hv 12 8 (by omega), le_part l hv 20 4 (by omega), le_one 1 (by omega), ← h2, ← h3, ← part_one l 4 (by omega)]
    rw [part_next l 20 4, part_next l 12 8, part_next l 8 4, part_next l 7 1, part_next l 6 1, part_next l 5 1, part_next l 4 1, part_next l 0 4]
    rw [List.take_zero, List.nil_append]
  have hp : Ks.part l 0 24 = l.take 24 := by unfold Ks.part; rw [List.drop_zero]
  unfold enc
  rw [hb, ← hp, ← h4, le_part l hv 24 4 (by omega), hp]
  exact (part_next l 24 4).symm

/-- what differs within 32 bits isn't decoded -/
theorem dec_bursts (a b c n q s : Int) (hc : can a b c n = true) (hq : 0 ≤ q ∧ q < 18446744073709551616) (hs : 0 ≤ s ∧ s < 4294967296) (l : List Int) (hl : l.length = 28) (hv : ∀ v ∈ l, 0 ≤ v ∧ v ≤ 255) (k : Nat) (y : BitVec 32) (hk : k ≤ 224)
    (h : ∀ j, j < 224 → bitOf l j = (bitOf (enc a b c n q s) j ^^ (decide (k ≤ j) && y.getLsbD (j - k)))) : decErr l = 0 ↔ enc a b c n q s = l := by
  constructor
  · intro hd
    obtain ⟨_, _, _, h4, _⟩ := dec_ok hd
    have e1 : l = Ks.part l 0 24 ++ Ks.part l 24 4 := by
      have := part_next l 24 4
      rw [List.take_of_length_le (by omega)] at this
      conv => lhs; rw [this]
      unfold Ks.part; rw [List.drop_zero]
    have s1 := sealed (Ks.part l 0 24) (Ks.part l 24 4) (part_len l 24 4 (by omega)) (part_in l hv 24 4) h4
    rw [← e1] at s1
    have hz := sumOf_in (body a b c n q s)
    have s2 := sealed (body a b c n q s) (le 4 (sumOf (body a b c n q s))) (le_len _ _) (le_in _ _) (num_le 4 _ hz.1 (by simpa using hz.2))
    have := (bursts (enc a b c n q s) l (enc_in a b c n q s) hv (by rw [enc_len, hl]) k y (by rw [enc_len]; omega) (by rw [enc_len]; exact h)).1 (s2.trans s1.symm)
    exact this
  · rintro rfl
    have := (dec_enc a b c n q s [] hc hq hs).1
    rwa [List.append_nil] at this
theorem headV_inj {a b c n q s a' b' c' n' q' s' : Int} : headV a b c n q s = headV a' b' c' n' q' s' ↔ (a = a' ∧ b = b' ∧ c = c' ∧ n = n' ∧ q = q' ∧ s = s') := by
  simp [headV]
/-- unlike heads have unlike bytes -/
theorem enc_inj {a b c n q s a' b' c' n' q' s' : Int} (hc : can a b c n = true) (hq : 0 ≤ q ∧ q < 18446744073709551616) (hs : 0 ≤ s ∧ s < 4294967296) (hc' : can a' b' c' n' = true) (hq' : 0 ≤ q' ∧ q' < 18446744073709551616) (hs' : 0 ≤ s' ∧ s' < 4294967296) :
    enc a b c n q s = enc a' b' c' n' q' s' ↔ (a = a' ∧ b = b' ∧ c = c' ∧ n = n' ∧ q = q' ∧ s = s') := by
  constructor
  · intro h
    have h1 := (dec_enc a b c n q s [] hc hq hs).2
    have h2 := (dec_enc a' b' c' n' q' s' [] hc' hq' hs').2
    rw [h, h2] at h1
    obtain ⟨e1, e2, e3, e4, e5, e6⟩ := headV_inj.1 h1
    exact ⟨e1.symm, e2.symm, e3.symm, e4.symm, e5.symm, e6.symm⟩
  · rintro ⟨rfl, rfl, rfl, rfl, rfl, rfl⟩; rfl
theorem enc12 (a b c n q s : Int) : Ks.part (enc a b c n q s) 0 12 = keep ++ le 1 1 ++ le 1 a ++ le 1 b ++ le 1 c ++ le 4 n := by
  have e : enc a b c n q s = [] ++ ((keep ++ le 1 1 ++ le 1 a ++ le 1 b ++ le 1 c ++ le 4 n) ++ (le 8 q ++ (le 4 s ++ le 4 (sumOf (body a b c n q s))))) := by
    conv => lhs; rw [enc]; arg 1; rw [body]
    simp only [List.append_assoc, List.nil_append]
  rw [e]; exact part_mid _ _ _ rfl (by simp [keep, le_len])
theorem can_total {a b c n : Int} (h : can a b c n = true) : n = total a b c := by
  unfold can at h
  simp only [Bool.and_eq_true, beq_iff_eq] at h
  exact h.2
/-- the first twelve bytes tell the chips alone -/
theorem enc12_inj {a b c n q s a' b' c' n' q' s' : Int} (hc : can a b c n = true) (hc' : can a' b' c' n' = true) :
    Ks.part (enc a b c n q s) 0 12 = Ks.part (enc a' b' c' n' q' s') 0 12 ↔ (a = a' ∧ b = b' ∧ c = c') := by
  rw [enc12, enc12]
  constructor
  · intro h
    obtain ⟨h1, h2, h3, _⟩ := can_in hc
    obtain ⟨h1', h2', h3', _⟩ := can_in hc'
    rw [le_one a (by omega), le_one b (by omega), le_one c (by omega), le_one a' (by omega), le_one b' (by omega), le_one c' (by omega)] at h
    have hh := List.append_inj_left h (by simp [keep, le_len])
    have g5 := congrArg (fun l => l.getD 5 0) hh
    have g6 := congrArg (fun l => l.getD 6 0) hh
    have g7 := congrArg (fun l => l.getD 7 0) hh
    exact ⟨g5, g6, g7⟩
  · rintro ⟨rfl, rfl, rfl⟩
    rw [can_total hc, can_total hc']
end Go.Proofs.YthlemcnbebfliaaGreatDoor
