/-
  THE WALK OF awake: the chapter's example.
-/
import Derived.Test.YtdbfmmjncoffnaaDoorMore
import Derived.Lib.QuietBelow
import Derived.BigQuiet
import Derived.Lib.SlBytesConst
namespace Go.Proofs.YtdbfmmjncoffnaaDoor
open Ks Go.RowKit

theorem tab_below {w w' : World} {B : Nat} (h : Tab w) (hb : Below B w w') (h0 : 0 < B) : Tab w' := fun k hk => (hb.cell (p := ⟨0, k, none⟩) h0).trans (h k hk)
theorem tab_pos {w : World} (h : Tab w) : 0 < w.heap.size := block_lt_of_cell (h 0 (by omega))
theorem bytes_below {w w' : World} {B n : Nat} {A : Option Addr} {l : List Int} (h : Bytes w B A n l) (hb : Below B w w') : Bytes w' B A n l := by
  obtain ⟨h1, h2, h3⟩ := h
  refine ⟨h1, h2, fun hn => ?_⟩
  obtain ⟨b, o, e, hB, hc⟩ := h3 hn
  exact ⟨b, o, e, hB, fun k hk => (hb.cell (p := ⟨b, o + k, none⟩) hB).trans (hc k hk)⟩

/-- a world of the class that a region's walk goes through -/
abbrev In (W : World) (p : Regrown) : World := Go.Sort.grow (redrawn W p.d) p.os
theorem in_below (W : World) (p : Regrown) : Below W.heap.size W (In W p) := below_regrown W p.d p.os

theorem sum_in (W : World) (p : Regrown) (A : Option Addr) (n c : Nat) (l : List Int) (v : Int) (hv : U (more 0#32 (l.map Bv)) = v) (hT : Tab W) (hn : n ≤ maxLen) (hl : Bytes W W.heap.size A n l) :
    Calls Tryd.prog 11 #[.slice A n c] (In W p) fun e w'' => e = .returned (.int .u32 v) ∧ ∃ q : Regrown, w'' = In W q := by
  refine (sum_any A n c W.heap.size l (In W p) (tab_below hT (in_below W p) (tab_pos hT)) hn (bytes_below hl (in_below W p))).mono ?_
  rintro e w' ⟨rfl, rfl⟩
  exact ⟨by rw [hv], p, rfl⟩
theorem more_in (W : World) (p : Regrown) (s v : Int) (A : Option Addr) (n c : Nat) (l : List Int) (hs : 0 ≤ s ∧ s < 4294967296) (hv : U (more (Bv s) (l.map Bv)) = v) (hT : Tab W) (hn : n ≤ maxLen) (hl : Bytes W W.heap.size A n l) :
    Calls Tryd.prog 13 #[.int .u32 s, .slice A n c] (In W p) fun e w'' => e = .returned (.int .u32 v) ∧ ∃ q : Regrown, w'' = In W q := by
  rw [← U_Bv s hs.1 hs.2]
  refine (more_any (Bv s) A n c W.heap.size l (In W p) (tab_below hT (in_below W p) (tab_pos hT)) hn (bytes_below hl (in_below W p))).mono ?_
  rintro e w' ⟨rfl, rfl⟩
  exact ⟨by rw [hv], p, rfl⟩
theorem join_in (W : World) (p : Regrown) (a b n v : Int) (ha : 0 ≤ a ∧ a < 4294967296) (hb : 0 ≤ b ∧ b < 4294967296) (h0 : 0 ≤ n) (h1 : n ≤ 1099511627776) (hv : U (join (Bv a) (Bv b) n.toNat) = v) :
    Calls Tryd.prog 14 #[.int .u32 a, .int .u32 b, .int .i64 n] (In W p) fun e w'' => e = .returned (.int .u32 v) ∧ ∃ q : Regrown, w'' = In W q := by
  rw [← U_Bv a ha.1 ha.2, ← U_Bv b hb.1 hb.2]
  apply Calls.regrown_of
  refine (join_any (Bv a) (Bv b) n (In W p) h0 h1).mono ?_
  rintro e w' ⟨rfl, hb⟩
  exact ⟨by rw [hv], hb⟩

def t9 : List Int := [49, 50, 51, 52, 53, 54, 55, 56, 57]
def t4 : List Int := [49, 50, 51, 52]
def t5 : List Int := [53, 54, 55, 56, 57]
theorem s9 : U (more 0#32 (t9.map Bv)) = 3421780262 := by decide +kernel
theorem s4 : U (more 0#32 (t4.map Bv)) = 2615402659 := by decide +kernel
theorem s5 : U (more 0#32 (t5.map Bv)) = 320708720 := by decide +kernel
theorem s45 : U (more (Bv 2615402659) (t5.map Bv)) = 3421780262 := by decide +kernel
theorem j45 : U (join (Bv 2615402659) (Bv 320708720) (5 : Int).toNat) = 3421780262 := by decide +kernel

/-- the example's bytes, and the world in which they lie -/
def Laid9 (w : World) : World := w.alloc (.cells #[.int .u8 49, .int .u8 50, .int .u8 51, .int .u8 52, .int .u8 53, .int .u8 54, .int .u8 55, .int .u8 56, .int .u8 57] 5 (9, 10))
theorem cells9 (w : World) (k : Nat) (hk : k < 9) : (Laid9 w).cell? ⟨w.heap.size, k, none⟩ = some (.int .u8 (t9.getD k 0)) := by
  unfold Laid9
  rw [cell_of_row _ _ _ _ _ _ (heap_alloc_new w _)]
  match k, hk with
  | 0, _ | 1, _ | 2, _ | 3, _ | 4, _ | 5, _ | 6, _ | 7, _ | 8, _ => rfl

theorem awake_any (w : World) (hT : Tab w) : Calls Tryd.prog 10 #[] w fun e w' => e = .returned (.bool true) ∧ Below w.heap.size w w' := by
  have kc := fun (w : World) (C : Array Value) (n c : Nat) => Lib.run_convert_bytes_const (P := Tryd.prog) w 22 5 C n c Tryd.underlying22 Tryd.underlying5
  have HT := Lib.hid hT
  clear hT
  have HC := Lib.hid (cells9 w)
  have HB := Lib.hid (show Below w.heap.size w (Laid9 w) from (Below.refl _ _).alloc (Nat.le_refl _) _)
  have HS := Lib.hid (show w.heap.size < (Laid9 w).heap.size by simp [Laid9])
  go_enter Tryd.func10, Tryd.ntmps10
  go_wp2_with fail
  clear kc
  change Code.wp _ _ _ _ (Laid9 w)
  generalize Laid9 w = W at *
  have hT : Tab W := tab_below HT.out HB.out (tab_pos HT.out)
  have B9 := Lib.hid (show Bytes W W.heap.size (some ⟨w.heap.size, 0, none⟩) 9 t9 from ⟨rfl, by decide, fun _ => ⟨_, _, rfl, HS.out, fun k hk => by rw [Nat.zero_add]; exact HC.out k hk⟩⟩)
  have B4 := Lib.hid (show Bytes W W.heap.size (some ⟨w.heap.size, 0, none⟩) 4 t4 from ⟨rfl, by decide, fun _ => ⟨_, _, rfl, HS.out, fun k hk => by
    rw [Nat.zero_add, HC.out k (by omega)]; match k, hk with | 0, _ | 1, _ | 2, _ | 3, _ => rfl⟩⟩)
  have B5 := Lib.hid (show Bytes W W.heap.size (some ⟨w.heap.size, 4, none⟩) 5 t5 from ⟨rfl, by decide, fun _ => ⟨_, _, rfl, HS.out, fun k hk => by
    rw [HC.out (4 + k) (by omega)]; match k, hk with | 0, _ | 1, _ | 2, _ | 3, _ | 4, _ => rfl⟩⟩)
  have HT2 := Lib.hid hT
  clear HT hT HC HS
  refine wp_region_quiet_below (by kernel_rfl) (by kernel_rfl) ?_
  go_big_quiet_step (fail)
  go_big_quiet_step ((refine sum_in W _ _ _ _ t9 3421780262 s9 HT2.out (by unfold maxLen; omega) B9.out))
  iterate 4 go_big_quiet_step (fail)
  go_big_quiet_step ((refine sum_in W _ _ _ _ t4 2615402659 s4 HT2.out (by unfold maxLen; omega) B4.out))
  iterate 2 go_big_quiet_step (fail)
  go_big_quiet_step ((refine more_in W _ 2615402659 3421780262 _ _ _ t5 (by omega) s45 HT2.out (by unfold maxLen; omega) B5.out))
  iterate 5 go_big_quiet_step (fail)
  go_big_quiet_step ((refine sum_in W _ _ _ _ t4 2615402659 s4 HT2.out (by unfold maxLen; omega) B4.out))
  iterate 2 go_big_quiet_step (fail)
  go_big_quiet_step ((refine sum_in W _ _ _ _ t5 320708720 s5 HT2.out (by unfold maxLen; omega) B5.out))
  go_big_quiet_step ((refine join_in W _ 2615402659 320708720 5 3421780262 (by omega) (by omega) (by omega) (by omega) j45))
  repeat (go_big_quiet_step (fail))
  refine wpQuiet_nil ?_
  rintro w' ⟨q, rfl⟩
  have HQ := Lib.hid (HB.out.trans ((in_below W q).mono HB.out.size))
  go_wp2_with fail
  go_ret
  exact ⟨rfl, HQ.out⟩
end Go.Proofs.YtdbfmmjncoffnaaDoor
