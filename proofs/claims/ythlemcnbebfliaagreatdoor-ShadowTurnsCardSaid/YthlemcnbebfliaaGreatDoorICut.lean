/-
  THE WALK OF image.Cut.
-/
import Derived.Test.YthlemcnbebfliaaGreatDoorIMem
namespace Go.Proofs.YthlemcnbebfliaaGreatDoor
open Ks Go.RowKit
set_option maxRecDepth 20000

theorem info25 : (Tryz.prog.info? 33).map (fun i => (i.zero, i.size, i.bytes)) = some (some (.slice none 0 0), 1, 24) := by kernel_rfl
/-- the pieces laid so far -/
def pcs (h size s k : Nat) : List Value := (List.range k).map (fun i => Value.slice (some ⟨h, i * size, none⟩) size size) ++ List.replicate (s - k) (.slice none 0 0)
theorem pcs_zero (h size s : Nat) : pcs h size s 0 = List.replicate s (.slice none 0 0) := by simp [pcs]
theorem pcs_len (h size s k : Nat) (hk : k ≤ s) : (pcs h size s k).length = s := by simp [pcs]; omega
theorem pcs_succ (h size s k : Nat) (hk : k < s) : (pcs h size s k).set k (.slice (some ⟨h, k * size, none⟩) size size) = pcs h size s (k + 1) := by
  unfold pcs
  rw [List.set_append_right _ _ (by simp), List.length_map, List.length_range, Nat.sub_self, show s - k = (s - (k + 1)) + 1 by omega, List.replicate_succ, List.set_cons_zero, List.range_succ, List.map_append]
  simp
theorem pcs_get (h size s k i : Nat) (hi : i < k) : (pcs h size s k)[i]? = some (.slice (some ⟨h, i * size, none⟩) size size) := by
  unfold pcs
  rw [List.getElem?_append_left (by simpa using hi)]
  simp [hi]
theorem pcs_old (h size s k : Nat) (hk : k < s) : (pcs h size s k)[k]? = some (.slice none 0 0) := by
  unfold pcs
  rw [List.getElem?_append_right (by simp), List.length_map, List.length_range, Nat.sub_self, List.getElem?_replicate, if_pos (by omega)]
theorem made_nils (n : Nat) : madeCells #[Value.slice none 0 0] n = (List.replicate n (Value.slice none 0 0)).toArray := by
  apply Array.ext'
  apply List.ext_getElem
  · simp [madeCells]
  · intro i h1 h2
    simp [madeCells, Nat.mod_one]
theorem vals_made (w : World) (n : Nat) : Vals (w.alloc (.cells (madeCells #[Value.slice none 0 0] n) 33)) w.heap.size 33 (List.replicate n (.slice none 0 0)) := by
  unfold Vals
  rw [heap_alloc_new, made_nils]
theorem make_lists (n : Nat) (h : n ≤ 1000000) (w : World) : (Instr.makeSlice 63 (.int .i64 n) (.int .i64 n)).run Tryz.prog w = .ok (.slice (some ⟨w.heap.size, 0, none⟩) n n) (w.alloc (.cells (madeCells #[Value.slice none 0 0] n) 33)) :=
  run_make_row' (P := Tryz.prog) 63 33 (.slice none 0 0) 24 Tryz.underlying63 info25 rfl .i64 .i64 n (by omega) (by omega) w

/-- what Cut answers: block g has the pieces, block h their bytes -/
structure Cuts (w w' : World) (g h s size : Nat) (l : List Int) : Prop where
  new : w.heap.size ≤ g
  new' : w.heap.size ≤ h
  ne : g ≠ h
  row : Row w' h l
  val : Vals w' g 33 (pcs h size s s)
  bel : Below w.heap.size w w'
/-- where the loop stands -/
structure CutAt (w : World) (g h s size k : Nat) (l : List Int) (w' : World) : Prop where
  new : w.heap.size ≤ g
  new' : w.heap.size ≤ h
  ne : g ≠ h
  row : Row w' h l
  val : Vals w' g 33 (pcs h size s k)
  bel : Below w.heap.size w w'
theorem CutAt.next {w w' : World} {g h s size k : Nat} {l : List Int} (H : CutAt w g h s size k l w') (hk : k < s) : CutAt w g h s size (k + 1) l (w'.setCell ⟨g, k, none⟩ (.slice (some ⟨h, k * size, none⟩) size size)) :=
  ⟨H.new, H.new', H.ne, H.row.only ((Only.refl g w').set_ k _) (fun e => H.ne e.symm), by have := H.val.set_ k (.slice (some ⟨h, k * size, none⟩) size size); rwa [pcs_succ _ _ _ _ hk] at this, H.bel.trans (((Only.refl g w').set_ k _).below H.new)⟩
/-- bytes, filled with 0 up to m -/
def fill (l : List Int) (m : Nat) : List Int := l ++ List.replicate (m - l.length) 0
theorem cutAt_start {w w' : World} {s m size B n x y : Nat} {A : Option Addr} {l : List Int} (hl : Bytes w B A n l) (hx : x = w.heap.size) (hy : y = w.heap.size + 1)
    (ho : Only y ((w.alloc (.cells (madeCells #[Value.slice none 0 0] s) 33)).alloc (.cells (madeCells #[Value.int .u8 0] m) 5)) w') (hr : Row w' y (l ++ (List.replicate m 0).drop n)) : CutAt w x y s size 0 (fill l m) w' := by
  subst hx hy
  refine ⟨Nat.le_refl _, by omega, by omega, ?_, ?_, ?_⟩
  · unfold fill
    rw [hl.1, ← List.drop_replicate]
    exact hr
  · rw [pcs_zero]
    refine (((vals_made w s).below (below_box _ _) (by simp)).only ho (by omega))
  · exact ((below_box w _).trans ((below_box _ _).mono (by simp))).trans (ho.below (by omega))
theorem cut_bad (A : Option Addr) (n c : Nat) (size : Int) (w : World) (hs : sizeOk size = false) : Calls Tryz.prog 117 #[.slice A n c, .int .i64 size] w fun e w' => e = .returned (.tuple #[.slice none 0 0, .int .i64 1]) ∧ w' = w := by
  have HS := Lib.hid hs
  clear hs
  go_enter Tryz.func117, Tryz.ntmps117
  go_wp2_with fail
  refine (sizeMayBe_any size false _ HS.out).mono ?_
  rintro e w' ⟨rfl, rfl⟩
  go_wp2_with fail
  go_returns
  exact ⟨rfl, rfl⟩

/-- how many pieces, as a natural number -/
def many (n size : Nat) : Nat := (sect n size).toNat
theorem many_eq (n size : Nat) : sect n size = (many n size : Nat) := by
  unfold many
  rw [Int.toNat_of_nonneg]
  unfold sect
  split
  · rename_i h
    have := Int.ediv_nonneg (show (0 : Int) ≤ (n : Int) - 1 by omega) (show (0 : Int) ≤ size by omega)
    omega
  · omega
theorem many_bounds (n size : Nat) (h1 : 1 ≤ size) (h2 : size ≤ 4096) : n ≤ many n size * size ∧ many n size * size < n + size ∧ many n size ≤ n := by
  have e := many_eq n size
  unfold sect at e
  split at e
  · rename_i h
    have d := Int.mul_ediv_add_emod ((n : Int) - 1) size
    have hm := Int.emod_lt_of_pos ((n : Int) - 1) (show (0 : Int) < size by omega)
    have hm0 := Int.emod_nonneg ((n : Int) - 1) (show (size : Int) ≠ 0 by omega)
    have hle := Int.ediv_le_self (size : Int) (show (0 : Int) ≤ (n : Int) - 1 by omega)
    generalize ((n : Int) - 1) / size = q at *
    generalize ((n : Int) - 1) % size = r at *
    have hx : ((many n size * size : Nat) : Int) = size * q + size := by
      rw [Int.natCast_mul, ← e, Int.add_mul, Int.mul_comm q, Int.one_mul]
    omega
  · have : n = 0 := by omega
    subst this
    have : many 0 size = 0 := by omega
    rw [this]
    omega

theorem cut_ok (A : Option Addr) (n c B size : Nat) (l : List Int) (w : World) (hl : Bytes w B A n l) (hB : B ≤ w.heap.size) (h1 : 1 ≤ size) (h2 : size ≤ 4096) (hn : n ≤ 100000) :
    Calls Tryz.prog 117 #[.slice A n c, .int .i64 size] w fun e w' => ∃ g h, e = .returned (.tuple #[.slice (some ⟨g, 0, none⟩) (many n size) (many n size), .int .i64 0]) ∧ Cuts w w' g h (many n size) size (fill l (many n size * size)) := by
  have hs : sizeOk size = true := by unfold sizeOk; simp; omega
  obtain ⟨b1, b2, b3⟩ := many_bounds n size h1 h2
  have HE := Lib.hid (many_eq n size)
  obtain ⟨s, hS⟩ : ∃ s, many n size = s := ⟨_, rfl⟩
  rw [hS] at b1 b2 b3 HE ⊢
  obtain ⟨m, hm⟩ : ∃ m, s * size = m := ⟨_, rfl⟩
  have hsm : (s : Int) * (size : Int) = (m : Nat) := by rw [← hm, Int.natCast_mul]
  rw [hm] at b1 b2 ⊢
  have HM := Lib.hid hm
  have HS := Lib.hid hs
  have HL := Lib.hid hl
  have HB := Lib.hid hB
  have hmk := make_lists s (by omega)
  have hmb := make_bytes m (by omega)
  obtain ⟨W, hW⟩ : ∃ W, W = (w.alloc (.cells (madeCells #[Value.slice none 0 0] s) 33)).alloc (.cells (madeCells #[Value.int .u8 0] m) 5) := ⟨_, rfl⟩
  have hlW : Bytes W B A n l := by rw [hW]; exact bytes_below (bytes_below hl ((below_box w _).mono hB)) ((below_box _ _).mono (by simp; omega))
  obtain ⟨w3, x, hcp, ho, hr⟩ := copy_row W (w.heap.size + 1) m m 3 B n _ (by rw [hW]; have := row_made (w.alloc (.cells (madeCells #[Value.slice none 0 0] s) 33)) m; simpa using this) (by simp) A c l hlW b1
  have H0 := Lib.hid (cutAt_start (size := size) hl rfl rfl (hW ▸ ho) hr)
  have hsz : (w.alloc (.cells (madeCells #[Value.slice none 0 0] s) 33)).heap.size = w.heap.size + 1 := by simp
  rw [hW] at hcp
  clear hS hm hs hl hB hlW ho hr hW
  go_enter Tryz.func117, Tryz.ntmps117
  go_wp2_with fail
  refine (sizeMayBe_any size true _ HS.out).mono ?_
  rintro e w ⟨rfl, rfl⟩
  go_wp2_with fail
  refine (sectors_any n size s _ (by simp [Lit.wf, IntKind.min, IntKind.max, IntKind.signed, IntKind.bits]; omega) HE.out).mono ?_
  rintro e w ⟨rfl, rfl⟩
  go_wp2_with fail
  go_loopw [27] (fun i wr => ∃ k : Nat, k ≤ s ∧ i = .int .i64 k ∧ CutAt w w.heap.size (w.heap.size + 1) s size k (fill l m) wr) (fun i _ => s - (intOf i).toNat)
  case atStart => exact ⟨0, Nat.zero_le _, rfl, H0.out⟩
  case round =>
    obtain ⟨k, hk, rfl, hat⟩ := hrel
    have HAT := Lib.hid hat
    by_cases hlt : k < s
    · have hc : wr.cell? ⟨w.heap.size, k, none⟩ = some (.slice none 0 0) := by rw [hat.val.cell, pcs_old _ _ _ _ hlt]
      have hf := hat.val.frozen k
      have hks : (k + 1) * size ≤ m := by rw [← HM.out]; exact Nat.mul_le_mul_right _ hlt
      have hk1 : (k + 1) * size = k * size + size := by rw [Nat.add_mul, Nat.one_mul]
      have HX := Lib.hid (hat.next hlt)
      obtain ⟨a, ha⟩ : ∃ a, k * size = a := ⟨_, rfl⟩
      have ha1 : (k : Int) * (size : Int) = (a : Nat) := by rw [← ha, Int.natCast_mul]
      have ha2 : ((k : Int) + 1) * (size : Int) = (a + size : Nat) := by rw [Int.add_mul, ha1]; omega
      rw [hk1] at hks
      rw [ha] at hks HX
      have HPA := Lib.hid (show pieceAt 0 a size = a by unfold pieceAt; rw [if_neg (by omega), Nat.zero_add])
      clear hk1 ha hat
      go_wp2_with fail
      refine (piece_some (w.heap.size + 1) 0 m m a size _ hks).mono ?_
      rintro e wr ⟨rfl, rfl⟩
      rw [HPA.out]
      go_wp2_with fail
      go_roundw
      case rel => exact ⟨k + 1, by omega, by go_num, HX.out⟩
      case measure => simp [intOf]; omega
    · obtain rfl : k = s := by omega
      clear hat
      go_wp2_with fail
      go_returns
      exact ⟨_, _, rfl, HAT.out.new, HAT.out.new', HAT.out.ne, HAT.out.row, HAT.out.val, HAT.out.bel⟩
end Go.Proofs.YthlemcnbebfliaaGreatDoor
