/-
  BOTH TABLES; THE WALKS OF crc.fourOn, More, Sum.
-/
import Derived.Test.YtpbhkkcboppdmaaDoorHWords
import Derived.Test.YtpbhkkcboppdmaaDoorRows
import Derived.WalkKit
import Derived.WalkSpells
import Derived.WalkLawsBesides
import Derived.ProofKit
import Derived.Below
import Derived.Handy
import Derived.Lib.Hide
import Derived.Lib.QuietBelow
import Derived.BigQuiet
import Derived.OpenShut
import Derived.Laws.BitsLemmas
namespace Go.Proofs.YtpbhkkcboppdmaaDoor
open Ks Go.RowKit

theorem ret_int {k : IntKind} {a b : Int} (h : a = b) : Ending.returned (.int k a) = .returned (.int k b) := by rw [h]
theorem ret_bool {a b : Bool} (h : a = b) : Ending.returned (.bool a) = .returned (.bool b) := by rw [h]

/-- the table, row by row -/
def tab : List (List Int) := [[0, 0, 0, 0], [128, 8, 1, 0], [256, 8, 1, 0], [512, 16, 1, 1], [1024, 16, 1, 2], [2048, 16, 1, 3], [4096, 32, 2, 0], [8192, 32, 2, 0], [16384, 64, 2, 0], [32768, 64, 2, 0], [65536, 128, 2, 0]]
/-- what stands in column j of kind k -/
def col (k : Int) (j : Nat) : Int := if 0 ≤ k ∧ k ≤ 10 then (tab.getD k.toNat []).getD j 0 else 0
/-- the tables lie in memory -/
def Nib (w : World) : Prop := ∀ k, k < 16 → w.cell? ⟨1, k, none⟩ = some (.int .u32 (nib.getD k 0 : Nat))
def Eep (w : World) : Prop := ∀ k j, k < 11 → j < 4 → w.cell? ⟨0, 4 * k + j, none⟩ = some (.int .i64 ((tab.getD k []).getD j 0))
def Tab (w : World) : Prop := Nib w ∧ Eep w
theorem tab_below {w w' : World} {B : Nat} (h : Tab w) (hb : Below B w w') (h0 : 1 < B) : Tab w' :=
  ⟨fun k hk => (hb.cell (p := ⟨1, k, none⟩) h0).trans (h.1 k hk), fun k j hk hj => (hb.cell (p := ⟨0, 4 * k + j, none⟩) (by show 0 < B; omega)).trans (h.2 k j hk hj)⟩
theorem tab_pos {w : World} (h : Tab w) : 1 < w.heap.size := block_lt_of_cell (h.1 0 (by omega))

theorem fourOn_any (x : BitVec 32) (w : World) (hT : Tab w) : Calls Tryd.prog 96 #[.int .u32 (U x)] w fun e w' => e = .returned (.int .u32 (U (four x))) ∧ w = w' := by
  have h4 := U_ge x
  have h5 := U_lt x
  have ha := and_15 x
  have hk : x.toNat % 16 < 16 := Nat.mod_lt _ (by decide)
  have HX := Lib.hid (show bits .xor .u32 (U x / 16) ((nib.getD (x.toNat % 16) 0 : Nat) : Int) = U (four x) by
    rw [shr4, xor_any]; unfold four Bv; rw [BitVec.ofInt_natCast])
  generalize x.toNat % 16 = k at *
  have hc := hT.1 k hk
  generalize nib.getD k 0 = z at *
  clear hT
  go_enter Tryd.func96, Tryd.ntmps96
  go_wp2
  go_ret
  exact ⟨ret_int HX.out, rfl⟩



/-- a slice of bytes that reads as the list l, all of it below block B -/
def Bytes (w : World) (B : Nat) (A : Option Addr) (n : Nat) (l : List Int) : Prop :=
  l.length = n ∧ (∀ v ∈ l, 0 ≤ v ∧ v ≤ 255) ∧ (0 < n → ∃ b o, A = some ⟨b, o, none⟩ ∧ b < B ∧ ∀ k, k < n → w.cell? ⟨b, o + k, none⟩ = some (.int .u8 (l.getD k 0)))

/-- what is left of the first k bytes -/
def leftAt (s : BitVec 32) (l : List Int) (k : Nat) : BitVec 32 := run (~~~ s) ((l.take k).map Bv)
theorem leftAt_zero (s : BitVec 32) (l : List Int) : leftAt s l 0 = ~~~ s := rfl
theorem leftAt_succ (s : BitVec 32) (l : List Int) (k : Nat) (h : k < l.length) : four (four (leftAt s l k ^^^ Bv (l.getD k 0))) = leftAt s l (k + 1) := by
  unfold leftAt
  rw [step_four, List.take_succ_eq_append_getElem h, List.map_append, List.map_cons, List.map_nil, run_snoc]
  simp [List.getD, h]
theorem leftAt_end (s : BitVec 32) (l : List Int) (k : Nat) (h : l.length ≤ k) : ~~~ leftAt s l k = more s (l.map Bv) := by
  unfold leftAt more
  rw [List.take_of_length_le h]

theorem more_any (s : BitVec 32) (A : Option Addr) (n c B : Nat) (l : List Int) (w : World) (hT : Tab w) (hn : n ≤ maxLen) (hl : Bytes w B A n l) :
    Calls Tryd.prog 87 #[.int .u32 (U s), .slice A n c] w fun e w' => e = .returned (.int .u32 (U (more s (l.map Bv)))) ∧ w = w' := by
  unfold maxLen at hn
  have HT := Lib.hid hT
  have HL := Lib.hid hl
  clear hT hl
  go_enter Tryd.func87, Tryd.ntmps87
  go_wp2_with fail
  go_loop [5, 7, 12] (fun a v i => ∃ k : Nat, k ≤ n ∧ i = .int .i64 k ∧ a = .int .u32 (U (leftAt s l k))) (fun _ _ i => n - (intOf i).toNat)
  case atStart => exact ⟨0, Nat.zero_le _, rfl, by rw [not_U, leftAt_zero]⟩
  case round =>
    obtain ⟨k, hk, rfl, rfl⟩ := hrel
    by_cases hlt : k < n
    · obtain ⟨hlen, hbd, hcs⟩ := HL.out
      obtain ⟨b, o, rfl, _, hcell⟩ := hcs (by omega)
      have hc := hcell k hlt
      have hvb := hbd (l.getD k 0) (by simp [List.getD, hlen, hlt])
      have HN := Lib.hid (leftAt_succ s l k (by omega))
      generalize l.getD k 0 = v at *
      obtain ⟨hv0, hv1⟩ := hvb
      clear hcell hcs hlen hbd
      go_wp2_with fail
      rw [xor_any]
      refine (fourOn_any _ _ HT.out).mono ?_
      rintro e w' ⟨rfl, rfl⟩
      go_wp2_with fail
      refine (fourOn_any _ _ HT.out).mono ?_
      rintro e w' ⟨rfl, rfl⟩
      rw [HN.out]
      go_wp2_with fail
      go_round
      case rel => exact ⟨k + 1, by omega, by go_num, rfl⟩
      case measure => simp [intOf]; omega
    · have HE := Lib.hid (leftAt_end s l k (by have := HL.out.1; omega))
      go_wp2_with fail
      go_ret
      exact ⟨ret_int (by rw [not_U, HE.out]), rfl⟩

theorem sum_any (A : Option Addr) (n c B : Nat) (l : List Int) (w : World) (hT : Tab w) (hn : n ≤ maxLen) (hl : Bytes w B A n l) :
    Calls Tryd.prog 54 #[.slice A n c] w fun e w' => e = .returned (.int .u32 (U (more 0#32 (l.map Bv)))) ∧ w = w' := by
  have HT := Lib.hid hT
  have HL := Lib.hid hl
  clear hT hl
  go_enter Tryd.func54, Tryd.ntmps54
  go_wp2_with fail
  rw [show (0 : Int) = U 0#32 from rfl]
  refine (more_any _ _ _ _ B l _ HT.out hn HL.out).mono ?_
  rintro e w' ⟨rfl, rfl⟩
  go_wp2_with fail
  go_ret
  exact ⟨rfl, rfl⟩

theorem bytes_below {w w' : World} {B n : Nat} {A : Option Addr} {l : List Int} (h : Bytes w B A n l) (hb : Below B w w') : Bytes w' B A n l := by
  obtain ⟨h1, h2, h3⟩ := h
  refine ⟨h1, h2, fun hn => ?_⟩
  obtain ⟨b, o, e, hB, hc⟩ := h3 hn
  exact ⟨b, o, e, hB, fun k hk => (hb.cell (p := ⟨b, o + k, none⟩) hB).trans (hc k hk)⟩

/-- a world of the class that a region's walk goes through -/
abbrev In (W : World) (p : Regrown) : World := Go.Sort.grow (redrawn W p.d) p.os
theorem in_below (W : World) (p : Regrown) : Below W.heap.size W (In W p) := below_regrown W p.d p.os
/-- nil, or a row of 'cap' cells, the numbers 'zs': the first 'len' are its elements -/
def IsRow (k : IntKind) (w : World) (a : Option Addr) (len cap : Nat) (zs : List Int) : Prop :=
  (a = none ∧ len = 0 ∧ cap = 0 ∧ zs = []) ∨
  ∃ x, a = some x ∧ len ≤ cap ∧ cap ≤ maxLen ∧ zs.length = cap ∧ (∀ i, i < zs.length → w.cell? (x.add i) = some (.int k (zs.getD i 0))) ∧ ∀ n ∈ zs, (Lit.int k n).wf = true
theorem IsRow.len_le {k : IntKind} {w : World} {a : Option Addr} {len cap : Nat} {zs : List Int} (h : IsRow k w a len cap zs) : len ≤ cap ∧ len ≤ maxLen := by
  rcases h with ⟨_, rfl, rfl, _⟩ | ⟨x, _, h1, h2, _⟩
  · exact ⟨Nat.le_refl _, Nat.zero_le _⟩
  · exact ⟨h1, Nat.le_trans h1 h2⟩
theorem IsRow.bytes {w : World} {a : Option Addr} {len cap : Nat} {zs : List Int} (h : IsRow .u8 w a len cap zs) : Bytes w w.heap.size a len (zs.take len) := by
  rcases h with ⟨rfl, rfl, rfl, rfl⟩ | ⟨x, rfl, h1, h2, h3, h4, h5⟩
  · exact ⟨rfl, by simp, fun h => absurd h (by omega)⟩
  · refine ⟨by simp; omega, fun v hv => ?_, fun hn => ?_⟩
    · have := h5 v (List.mem_of_mem_take hv)
      simpa [Lit.wf, IntKind.min, IntKind.max, IntKind.signed, IntKind.bits] using this
    · obtain ⟨b, off, rfl, hc⟩ := ints_at h4 (by omega)
      refine ⟨b, off, rfl, block_lt_of_cell (hc 0 (by omega)), fun k hk => ?_⟩
      rw [hc k (by omega)]
      simp [List.getD, hk]

/-- a world that came of w0, the tables as they were -/
structure On (w0 w : World) : Prop where
  tab : Tab w
  bel : Below w0.heap.size w0 w
theorem On.start {w : World} (h : Tab w) : On w w := ⟨h, Below.refl _ _⟩
theorem On.next {w0 w w' : World} (h : On w0 w) (hb : Below w.heap.size w w') : On w0 w' := ⟨tab_below h.tab hb (tab_pos h.tab), h.bel.trans (hb.mono h.bel.size)⟩
theorem On.next_at {w0 w w' : World} {B : Nat} (h : On w0 w) (hb : Below B w w') (h0 : w0.heap.size ≤ B) (h1 : 1 < w0.heap.size) : On w0 w' := ⟨tab_below h.tab hb (Nat.lt_of_lt_of_le h1 h0), h.bel.trans (hb.mono h0)⟩
theorem below_box (w : World) (o : Obj) : Below w.heap.size w (w.alloc o) := (Below.refl _ _).alloc (Nat.le_refl _) _
theorem on_in {W : World} (h : Tab W) (p : Regrown) : On (In W p) (In W p) := On.start (tab_below h (in_below W p) (tab_pos h))
end Go.Proofs.YtpbhkkcboppdmaaDoor
