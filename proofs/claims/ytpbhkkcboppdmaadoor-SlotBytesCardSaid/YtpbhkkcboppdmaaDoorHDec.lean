/-
  THE WALKS OF head.told, head.Decode.
-/
import Derived.Test.YtpbhkkcboppdmaaDoorHEnc
import Derived.Laws.BytesArg
namespace Go.Proofs.YtpbhkkcboppdmaaDoor
open Ks Go.RowKit
set_option maxRecDepth 20000

/-- what a head's bytes tell -/
def decH (l : List Int) : Value := headV (num (Ks.part l 5 1)) (num (Ks.part l 6 1)) (num (Ks.part l 7 1)) (num (Ks.part l 8 4)) (num (Ks.part l 12 8)) (num (Ks.part l 20 4))
theorem told_any (b o n c B : Nat) (l : List Int) (v1 v2 v3 v4 v5 v6 : Int) (w : World) (hn : 28 ≤ n) (hnc : n ≤ c) (hl : Bytes w B (some ⟨b, o, none⟩) n l) (hB : B ≤ w.heap.size)
    (h1 : num (Ks.part l 5 1) = v1) (h2 : num (Ks.part l 6 1) = v2) (h3 : num (Ks.part l 7 1) = v3) (h4 : num (Ks.part l 8 4) = v4) (h5 : num (Ks.part l 12 8) = v5) (h6 : num (Ks.part l 20 4) = v6) :
    Calls Tryd.prog 72 #[.slice (some ⟨b, o, none⟩) n c] w fun e w' => e = .returned (headV v1 v2 v3 v4 v5 v6) ∧ Below w.heap.size w w' := by
  have HX := Lib.hid (fun ob => (below_box w ob).drew)
  have HL := Lib.hid (fun ob => bytes_below hl ((below_box w ob).drew.mono hB))
  have K1 := Lib.hid h1
  have K2 := Lib.hid h2
  have K3 := Lib.hid h3
  have K4 := Lib.hid h4
  have K5 := Lib.hid h5
  have K6 := Lib.hid h6
  clear hl h1 h2 h3 h4 h5 h6
  have c6 : (6 : Int) ≤ (c : Int) := by omega
  have c7 : (7 : Int) ≤ (c : Int) := by omega
  have c8 : (8 : Int) ≤ (c : Int) := by omega
  have c12 : (12 : Int) ≤ (c : Int) := by omega
  have c20 : (20 : Int) ≤ (c : Int) := by omega
  have c24 : (24 : Int) ≤ (c : Int) := by omega
  have d5 : ¬ c = 5 := by omega
  have d6 : ¬ c = 6 := by omega
  have d7 : ¬ c = 7 := by omega
  have d8 : ¬ c = 8 := by omega
  have d12 : ¬ c = 12 := by omega
  have d20 : ¬ c = 20 := by omega
  go_enter Tryd.func72, Tryd.ntmps72
  go_wp2_with fail
  refine wp_region_still_tail 20 (by kernel_rfl) (by kernel_rfl) ?_
  simp only [List.take_succ_cons, List.take_zero, List.drop_succ_cons, List.drop_zero]
  iterate 2 still_step
  still_call (takeInt_any _ 1 _ B _ v1 _ (by omega) (bytes_part (HL.out _) 5 1 (by omega)) K1.out)
  iterate 2 still_step
  still_call (takeInt_any _ 1 _ B _ v2 _ (by omega) (bytes_part (HL.out _) 6 1 (by omega)) K2.out)
  iterate 2 still_step
  still_call (takeInt_any _ 1 _ B _ v3 _ (by omega) (bytes_part (HL.out _) 7 1 (by omega)) K3.out)
  iterate 3 still_step
  still_call (takeInt_any _ 4 _ B _ v4 _ (by omega) (bytes_part (HL.out _) 8 4 (by omega)) K4.out)
  iterate 2 still_step
  still_call (take64_any _ 8 _ B _ v5 _ (by omega) (bytes_part (HL.out _) 12 8 (by omega)) K5.out)
  iterate 2 still_step
  still_call (take32_any _ 4 _ B _ v6 _ (by omega) (bytes_part (HL.out _) 20 4 (by omega)) K6.out)
  still_step
  refine wpStill_nil ?_
  change wpList _ _ _ _ _ (w.alloc _).drew
  go_wp2_with fail
  go_returns
  exact ⟨rfl, HX.out _⟩

/-- what is wrong with a head's bytes -/
def decErr (l : List Int) : Int :=
  if l.length < 28 then 5 else if Ks.part l 0 4 ≠ keep then 6 else if l.getD 4 0 ≠ 1 then 7 else if num (Ks.part l 24 4) ≠ sumOf (Ks.part l 0 24) then 8
  else if can (num (Ks.part l 5 1)) (num (Ks.part l 6 1)) (num (Ks.part l 7 1)) (num (Ks.part l 8 4)) = false then 9 else 0
def decVal (l : List Int) : Value := if decErr l = 0 then decH l else headV 0 0 0 0 0 0
def decT (l : List Int) : Value := .tuple #[decVal l, .int .i64 (decErr l)]
theorem decT_of {l : List Int} {k : Int} (h : decErr l = k) (hk : k ≠ 0) : decT l = .tuple #[headV 0 0 0 0 0 0, .int .i64 k] := by
  unfold decT decVal; rw [h, if_neg hk]
theorem decT_ok {l : List Int} (h : decErr l = 0) : decT l = .tuple #[decH l, .int .i64 0] := by
  unfold decT decVal; rw [h, if_pos rfl]
theorem keep_eq (l : List Int) (h : ∀ v ∈ l, 0 ≤ v ∧ v ≤ 255) : ((strOfNums l).toList == [75, 69, 69, 80]) = decide (l = keep) := by
  have e : ∀ l : List Int, (∀ v ∈ l, 0 ≤ v ∧ v ≤ 255) → (l.map fun n => UInt8.ofNat n.toNat).map (fun u => (u.toNat : Int)) = l := by
    intro l hl
    rw [List.map_map]
    conv => rhs; rw [← List.map_id l]
    apply List.map_congr_left
    intro v hv
    have := hl v hv
    simp only [Function.comp, id, UInt8.toNat_ofNat']
    omega
  rw [ByteArray.toList_eq, strOfNums_data, Bool.eq_iff_iff]
  simp only [beq_iff_eq, decide_eq_true_eq]
  constructor
  · intro hh
    have := congrArg (List.map (fun u : UInt8 => (u.toNat : Int))) hh
    rw [e l h] at this
    exact this
  · rintro rfl; rfl
theorem frozen6 (w : World) (a b c d e f : Value) (t : TypeId) (i : Nat) : (w.alloc (.cells #[a, b, c, d, e, f] t)).frozen? ⟨w.heap.size, i, none⟩ = false := by simp [go_sem]
theorem bytes_drew {w : World} {B n : Nat} {A : Option Addr} {l : List Int} (h : Bytes w B A n l) : Bytes w.drew B A n l := h
theorem Tab.drew {w : World} (h : Tab w) : Tab w.drew := h
theorem On.drew {w0 w : World} (h : On w0 w) : On w0 w.drew := ⟨h.tab, h.bel.drew⟩
theorem below_of_drew {B : Nat} {w w' : World} (h : Below B w.drew w') : Below B w w' := ⟨h.os, h.tape, h.output, h.size, h.block⟩
/-- six cells of a box in a world that came of it -/
theorem cells6 {W w3 : World} {p : Nat} {a b c d e f : Value} (h : Below W.heap.size W w3) (hp : p < W.heap.size)
    (hz : W.cell? ⟨p, 0, none⟩ = some a ∧ W.cell? ⟨p, 1, none⟩ = some b ∧ W.cell? ⟨p, 2, none⟩ = some c ∧ W.cell? ⟨p, 3, none⟩ = some d ∧ W.cell? ⟨p, 4, none⟩ = some e ∧ W.cell? ⟨p, 5, none⟩ = some f) :
    w3.cell? ⟨p, 0, none⟩ = some a ∧ w3.cell? ⟨p, 1, none⟩ = some b ∧ w3.cell? ⟨p, 2, none⟩ = some c ∧ w3.cell? ⟨p, 3, none⟩ = some d ∧ w3.cell? ⟨p, 4, none⟩ = some e ∧ w3.cell? ⟨p, 5, none⟩ = some f := by
  have hc : ∀ i, w3.cell? ⟨p, i, none⟩ = W.cell? ⟨p, i, none⟩ := fun i => h.cell (p := ⟨p, i, none⟩) hp
  rw [hc, hc, hc, hc, hc, hc]; exact hz
theorem fr6 {W w3 : World} {p : Nat} (h : Below W.heap.size W w3) (hp : p < W.heap.size) (hz : ∀ i, W.frozen? ⟨p, i, none⟩ = false) :
    w3.frozen? ⟨p, 0, none⟩ = false ∧ w3.frozen? ⟨p, 1, none⟩ = false ∧ w3.frozen? ⟨p, 2, none⟩ = false ∧ w3.frozen? ⟨p, 3, none⟩ = false ∧ w3.frozen? ⟨p, 4, none⟩ = false ∧ w3.frozen? ⟨p, 5, none⟩ = false := by
  have hc : ∀ i, w3.frozen? ⟨p, i, none⟩ = false := fun i => (h.frozen (p := ⟨p, i, none⟩) hp).trans (hz i)
  exact ⟨hc 0, hc 1, hc 2, hc 3, hc 4, hc 5⟩
theorem set_oth (W : World) (p i j : Nat) (x : Value) (h : i ≠ j) : (W.setCell ⟨p, i, none⟩ x).cell? ⟨p, j, none⟩ = W.cell? ⟨p, j, none⟩ := World.cell?_setCell_other _ _ _ _ (fun e => h (congrArg Addr.off e))
theorem sets6 (w3 : World) (p : Nat) {z0 z1 z2 z3 z4 z5 : Value} (h0 : w3.cell? ⟨p, 0, none⟩ = some z0) (h1 : w3.cell? ⟨p, 1, none⟩ = some z1) (h2 : w3.cell? ⟨p, 2, none⟩ = some z2) (h3 : w3.cell? ⟨p, 3, none⟩ = some z3) (h4 : w3.cell? ⟨p, 4, none⟩ = some z4) (h5 : w3.cell? ⟨p, 5, none⟩ = some z5) (a b c d e f : Value) :
    (w3.setCell ⟨p, 0, none⟩ a).cell? ⟨p, 0, none⟩ = some a ∧ ((w3.setCell ⟨p, 0, none⟩ a).setCell ⟨p, 1, none⟩ b).cell? ⟨p, 1, none⟩ = some b ∧ (((w3.setCell ⟨p, 0, none⟩ a).setCell ⟨p, 1, none⟩ b).setCell ⟨p, 2, none⟩ c).cell? ⟨p, 2, none⟩ = some c ∧ ((((w3.setCell ⟨p, 0, none⟩ a).setCell ⟨p, 1, none⟩ b).setCell ⟨p, 2, none⟩ c).setCell ⟨p, 3, none⟩ d).cell? ⟨p, 3, none⟩ = some d ∧ (((((w3.setCell ⟨p, 0, none⟩ a).setCell ⟨p, 1, none⟩ b).setCell ⟨p, 2, none⟩ c).setCell ⟨p, 3, none⟩ d).setCell ⟨p, 4, none⟩ e).cell? ⟨p, 4, none⟩ = some e ∧ ((((((w3.setCell ⟨p, 0, none⟩ a).setCell ⟨p, 1, none⟩ b).setCell ⟨p, 2, none⟩ c).setCell ⟨p, 3, none⟩ d).setCell ⟨p, 4, none⟩ e).setCell ⟨p, 5, none⟩ f).cell? ⟨p, 5, none⟩ = some f := by
  refine ⟨World.cell?_setCell_same _ _ _ h0, World.cell?_setCell_same (u := z1) _ _ _ ?_, World.cell?_setCell_same (u := z2) _ _ _ ?_, World.cell?_setCell_same (u := z3) _ _ _ ?_, World.cell?_setCell_same (u := z4) _ _ _ ?_, World.cell?_setCell_same (u := z5) _ _ _ ?_⟩
  · rw [set_oth _ _ _ _ _ (by decide)]; exact h1
  · rw [set_oth _ _ _ _ _ (by decide), set_oth _ _ _ _ _ (by decide)]; exact h2
  · rw [set_oth _ _ _ _ _ (by decide), set_oth _ _ _ _ _ (by decide), set_oth _ _ _ _ _ (by decide)]; exact h3
  · rw [set_oth _ _ _ _ _ (by decide), set_oth _ _ _ _ _ (by decide), set_oth _ _ _ _ _ (by decide), set_oth _ _ _ _ _ (by decide)]; exact h4
  · rw [set_oth _ _ _ _ _ (by decide), set_oth _ _ _ _ _ (by decide), set_oth _ _ _ _ _ (by decide), set_oth _ _ _ _ _ (by decide), set_oth _ _ _ _ _ (by decide)]; exact h5
theorem On.set_ {w0 w : World} (h : On w0 w) {p : Nat} (h0 : w0.heap.size ≤ p) (h1 : 1 < p) (i : Nat) (v : Value) : On w0 (w.setCell ⟨p, i, none⟩ v) :=
  ⟨tab_below h.tab ((Below.refl p w).setCell (p := ⟨p, i, none⟩) (Nat.le_refl _) v) h1, h.bel.setCell (p := ⟨p, i, none⟩) h0 v⟩
theorem dec_short (A : Option Addr) (n c : Nat) (l : List Int) (w0 w : World) (H : On w0 w) (hl : l.length = n) (hn : n < 28) :
    Calls Tryd.prog 40 #[.slice A n c] w fun e w' => e = .returned (decT l) ∧ On w0 w' := by
  have HX := Lib.hid (fun ob => H.next (below_box w ob))
  have HE := Lib.hid (decT_of (l := l) (k := 5) (by unfold decErr; rw [if_pos (by omega)]) (by decide))
  clear H hl
  have hn' : (n : Int) < 28 := by omega
  go_enter Tryd.func40, Tryd.ntmps40
  go_wp2_with fail
  go_returns
  exact ⟨by rw [HE.out], HX.out _⟩
theorem dec_long (b o n c B : Nat) (l : List Int) (w0 w : World) (H : On w0 w) (hn : 28 ≤ n) (hnc : n ≤ c) (hl : Bytes w B (some ⟨b, o, none⟩) n l) (hB : B ≤ w.heap.size) :
    Calls Tryd.prog 40 #[.slice (some ⟨b, o, none⟩) n c] w fun e w' => e = .returned (decT l) ∧ On w0 w' := by
  have HX := Lib.hid (fun ob => H.next (below_box w ob))
  have HL := Lib.hid (fun ob => bytes_below hl (B := B) ((below_box w ob).mono hB))
  have HLL := Lib.hid (show ¬ l.length < 28 by rw [hl.1]; omega)
  have hn' : ¬ (n : Int) < 28 := by omega
  have hn4 : (4 : Int) ≤ (c : Int) := by omega
  have hn5 : (4 : Int) < (n : Int) := by omega
  obtain ⟨S, hS⟩ : ∃ S, strOfNums (Ks.part l 0 4) = S := ⟨_, rfl⟩
  have hcv := fun (ob : Obj) => hS ▸ run_convert_bytes_arg (P := Tryd.prog) (w.alloc ob) 27 5 Tryd.underlying27 Tryd.underlying5 b o 4 c (Ks.part l 0 4) (part_len l 0 4 (by have := hl.1; omega)) (fun i hi => by
    obtain ⟨b', o', e, hc⟩ := bytes_cell hl ((below_box w ob).mono hB) i (by omega)
    cases e
    rw [hc, part_getD l 0 4 i hi, Nat.zero_add]) 9 (by kernel_rfl)
  have hq : (S.toList == [75, 69, 69, 80]) = decide (Ks.part l 0 4 = keep) := hS ▸ keep_eq _ (part_in l hl.2.1 0 4)
  have hc4 : ∀ ob : Obj, (w.alloc ob).cell? ⟨b, o + 4, none⟩ = some (.int .u8 (l.getD 4 0)) := fun ob => by
    obtain ⟨b', o', e, hc⟩ := bytes_cell hl ((below_box w ob).mono hB) 4 (by omega)
    cases e
    exact hc
  have HB := Lib.hid hB
  have HN0 := Lib.hid H.bel.size
  have HH := Lib.hid (tab_pos H.tab)
  clear H hl hS hB
  by_cases k1 : Ks.part l 0 4 = keep
  rotate_left
  · rw [decide_eq_false k1] at hq
    have HE := Lib.hid (decT_of (l := l) (k := 6) (by unfold decErr; rw [if_neg HLL.out, if_pos k1]) (by decide))
    clear k1 hc4
    go_enter Tryd.func40, Tryd.ntmps40
    go_wp2_with fail
    go_returns
    exact ⟨by rw [HE.out], HX.out _⟩
  rw [decide_eq_true k1] at hq
  by_cases k2 : l.getD 4 0 = 1
  rotate_left
  · have HE := Lib.hid (decT_of (l := l) (k := 7) (by unfold decErr; rw [if_neg HLL.out, if_neg (fun h => h k1), if_pos k2]) (by decide))
    have hx : (l.getD 4 0 != 1) = true := by simpa using k2
    generalize l.getD 4 0 = x at *
    clear k1 k2
    go_enter Tryd.func40, Tryd.ntmps40
    go_wp2_with fail
    go_returns
    exact ⟨by rw [HE.out], HX.out _⟩
  rw [k2] at hc4
  have K1 := Lib.hid k1
  have K2 := Lib.hid k2
  have hc24 : (24 : Int) ≤ (c : Int) := by omega
  have hc28 : (28 : Int) ≤ (c : Int) := by omega
  have hc24n : ¬ c = 24 := by omega
  clear k1 k2
  obtain ⟨v, hv⟩ : ∃ v, num (Ks.part l 24 4) = v := ⟨_, rfl⟩
  obtain ⟨u, hu⟩ : ∃ v, sumOf (Ks.part l 0 24) = v := ⟨_, rfl⟩
  have HV := Lib.hid hv
  have HU := Lib.hid hu
  clear hv hu
  go_enter Tryd.func40, Tryd.ntmps40
  go_wp2_with fail
  clear hcv hc4 hq
  have HX1 := Lib.hid (HX.out (.cells #[.int .i64 0, .int .i64 0, .int .i64 0, .int .i64 0, .int .u64 0, .int .u32 0] 83))
  have HL1 := Lib.hid (HL.out (.cells #[.int .i64 0, .int .i64 0, .int .i64 0, .int .i64 0, .int .u64 0, .int .u32 0] 83))
  have HZ := Lib.hid (boxed6 w (.int .i64 0) (.int .i64 0) (.int .i64 0) (.int .i64 0) (.int .u64 0) (.int .u32 0) 83)
  have HF := Lib.hid (frozen6 w (.int .i64 0) (.int .i64 0) (.int .i64 0) (.int .i64 0) (.int .u64 0) (.int .u32 0) 83)
  refine wp_region_still_lit (by kernel_rfl) (by kernel_rfl) ?_
  iterate 2 still_step
  still_call (take32_any _ 4 _ B _ v _ (by omega) (bytes_part (bytes_drew HL1.out) 24 4 (by omega)) HV.out)
  iterate 2 still_step
  still_call (sum_at _ 24 _ B _ u _ HX1.out.tab (by unfold maxLen; omega) (bytes_part (bytes_drew HL1.out) 0 24 (by omega)) HU.out)
  still_step
  refine wpStill_nil ?_
  by_cases k3 : v = u
  rotate_left
  · have hx : (v != u) = true := by simpa using k3
    have HE := Lib.hid (decT_of (l := l) (k := 8) (by unfold decErr; rw [if_neg HLL.out, if_neg (fun h => h K1.out), if_neg (fun h => h K2.out), if_pos (by rw [HV.out, HU.out]; exact k3)]) (by decide))
    have HX2 := Lib.hid (fun ob => (HX.out ob).drew)
    clear k3 HX1 HL1 HX
    change Exit.then _ _ _ _ (w.alloc _).drew
    go_wp2_with fail
    go_returns
    exact ⟨by rw [HE.out], HX2.out _⟩
  subst k3
  obtain ⟨v1, h1⟩ : ∃ v, num (Ks.part l 5 1) = v := ⟨_, rfl⟩
  obtain ⟨v2, h2⟩ : ∃ v, num (Ks.part l 6 1) = v := ⟨_, rfl⟩
  obtain ⟨v3, h3⟩ : ∃ v, num (Ks.part l 7 1) = v := ⟨_, rfl⟩
  obtain ⟨v4, h4⟩ : ∃ v, num (Ks.part l 8 4) = v := ⟨_, rfl⟩
  obtain ⟨v5, h5⟩ : ∃ v, num (Ks.part l 12 8) = v := ⟨_, rfl⟩
  obtain ⟨v6, h6⟩ : ∃ v, num (Ks.part l 20 4) = v := ⟨_, rfl⟩
  have J1 := Lib.hid h1
  have J2 := Lib.hid h2
  have J3 := Lib.hid h3
  have J4 := Lib.hid h4
  have J5 := Lib.hid h5
  have J6 := Lib.hid h6
  clear h1 h2 h3 h4 h5 h6
  change Exit.then _ _ _ _ (w.alloc _).drew
  have HS := Lib.hid (show B ≤ (w.alloc (.cells #[.int .i64 0, .int .i64 0, .int .i64 0, .int .i64 0, .int .u64 0, .int .u32 0] 83)).heap.size ∧ w.heap.size < (w.alloc (.cells #[.int .i64 0, .int .i64 0, .int .i64 0, .int .i64 0, .int .u64 0, .int .u32 0] 83)).heap.size by have := HB.out; simp; omega)
  clear HX HL
  generalize w.alloc (.cells #[.int .i64 0, .int .i64 0, .int .i64 0, .int .i64 0, .int .u64 0, .int .u32 0] 83) = W at *
  go_wp2_with fail
  refine (told_any b o n c B l v1 v2 v3 v4 v5 v6 W.drew hn hnc (bytes_drew HL1.out) HS.out.1 J1.out J2.out J3.out J4.out J5.out J6.out).mono ?_
  rintro e w1 ⟨rfl, hw1⟩
  have HW1 := Lib.hid (show On W w1 from ⟨tab_below HX1.out.tab.drew hw1 (tab_pos HX1.out.tab), below_of_drew hw1⟩)
  clear hw1
  go_wp2_with fail
  have HBX := Lib.hid (boxed6 w1 (.int .i64 v1) (.int .i64 v2) (.int .i64 v3) (.int .i64 v4) (.int .u64 v5) (.int .u32 v6) 83)
  have HP := Lib.hid (show w1.heap.size < (w1.alloc (.cells #[.int .i64 v1, .int .i64 v2, .int .i64 v3, .int .i64 v4, .int .u64 v5, .int .u32 v6] 83)).heap.size by simp)
  have HW2 := Lib.hid (HW1.out.next (below_box w1 (.cells #[.int .i64 v1, .int .i64 v2, .int .i64 v3, .int .i64 v4, .int .u64 v5, .int .u32 v6] 83)))
  generalize w1.alloc (.cells #[.int .i64 v1, .int .i64 v2, .int .i64 v3, .int .i64 v4, .int .u64 v5, .int .u32 v6] 83) = W2 at *
  obtain ⟨r, hr⟩ : ∃ r, can v1 v2 v3 v4 = r := ⟨_, rfl⟩
  refine (canBe_any v1 v2 v3 v4 v5 v6 r _ _ (On.start HW2.out.tab) hr).mono ?_
  rintro e w3 ⟨rfl, hw3⟩
  have HW3 := Lib.hid (HX1.out.next (HW2.out.next hw3.bel).bel)
  have HBB := Lib.hid (HW2.out.next hw3.bel).bel
  obtain ⟨z0, z1, z2, z3, z4, z5⟩ := cells6 HBB.out HS.out.2 HZ.out
  obtain ⟨f0, f1, f2, f3, f4, f5⟩ := fr6 HBB.out HS.out.2 HF.out
  obtain ⟨x0, x1, x2, x3, x4, x5⟩ := cells6 hw3.bel HP.out HBX.out
  clear hw3 HZ HF HBX HW2
  cases r
  · have HE := Lib.hid (decT_of (l := l) (k := 9) (by unfold decErr; rw [if_neg HLL.out, if_neg (fun h => h K1.out), if_neg (fun h => h K2.out), if_neg (fun h => h (HV.out.trans HU.out.symm)), if_pos (by rw [J1.out, J2.out, J3.out, J4.out]; exact hr)]) (by decide))
    clear hr x0 x1 x2 x3 x4 x5
    obtain ⟨s0, s1, s2, s3, s4, s5⟩ := sets6 w3 w.heap.size z0 z1 z2 z3 z4 z5 (.int .i64 0) (.int .i64 0) (.int .i64 0) (.int .i64 0) (.int .u64 0) (.int .u32 0)
    go_wp2_with fail
    try simp only [Exit.inBlock, Exit.then]
    refine bodyPost_ret (by simp [results, Tryd.results40, go_sem, s0, s1, s2, s3, s4, s5]; try rfl) rfl ?_
    exact ⟨by rw [HE.out], ((((((HW3.out.set_ HN0.out HH.out _ _).set_ HN0.out HH.out _ _).set_ HN0.out HH.out _ _).set_ HN0.out HH.out _ _).set_ HN0.out HH.out _ _).set_ HN0.out HH.out _ _)⟩
  · have HE := Lib.hid (decT_ok (l := l) (by unfold decErr; rw [if_neg HLL.out, if_neg (fun h => h K1.out), if_neg (fun h => h K2.out), if_neg (fun h => h (HV.out.trans HU.out.symm)), if_neg (by rw [J1.out, J2.out, J3.out, J4.out, hr]; decide)]))
    have HD := Lib.hid (show decH l = headV v1 v2 v3 v4 v5 v6 by unfold decH; rw [J1.out, J2.out, J3.out, J4.out, J5.out, J6.out])
    clear hr
    obtain ⟨s0, s1, s2, s3, s4, s5⟩ := sets6 w3 w.heap.size z0 z1 z2 z3 z4 z5 (.int .i64 v1) (.int .i64 v2) (.int .i64 v3) (.int .i64 v4) (.int .u64 v5) (.int .u32 v6)
    go_wp2_with fail
    try simp only [Exit.inBlock, Exit.then]
    refine bodyPost_ret (by simp [results, Tryd.results40, go_sem, s0, s1, s2, s3, s4, s5]; try rfl) rfl ?_
    exact ⟨by rw [HE.out, HD.out], ((((((HW3.out.set_ HN0.out HH.out _ _).set_ HN0.out HH.out _ _).set_ HN0.out HH.out _ _).set_ HN0.out HH.out _ _).set_ HN0.out HH.out _ _).set_ HN0.out HH.out _ _)⟩
theorem dec_any (A : Option Addr) (n c B : Nat) (l : List Int) (w0 w : World) (H : On w0 w) (hnc : n ≤ c) (hl : Bytes w B A n l) (hB : B ≤ w.heap.size) :
    Calls Tryd.prog 40 #[.slice A n c] w fun e w' => e = .returned (decT l) ∧ On w0 w' := by
  by_cases hn : n < 28
  · exact dec_short A n c l w0 w H hl.1 hn
  · obtain ⟨b, o, rfl, _, _⟩ := hl.2.2 (by omega)
    exact dec_long b o n c B l w0 w H (by omega) hnc hl hB
end Go.Proofs.YtpbhkkcboppdmaaDoor
