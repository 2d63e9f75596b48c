/-
  THE WALKS OF cut.Cells, cut.Range, cut.Program.
-/
import Derived.Test.YtojdbmkbcjaikaaCLaid
namespace Go.Proofs.Ytojdbmkbcjaikaa
open Go.RowKit
set_option maxRecDepth 20000

/-- what is answered: bytes of its own -/
def Gives (w : World) (n : Nat) (l : List Int) (e : Ending) (w' : World) : Prop := ∃ A c, e = .returned (.slice A n c) ∧ n ≤ c ∧ Mine .u8 w.heap.size w' A n l ∧ Below w.heap.size w w'

theorem range_any (A P : Option Addr) (n c m cp B : Nat) (a t : Int) (old ps : List Int) (w : World) (ho : Nums .u8 w B A n old) (hp : Nums .u8 w B P m ps) (hB : B ≤ w.heap.size) (hn : n ≤ 100000) (ht : t ≤ 9223372036854775807) (hcp : m ≤ cp) (hcx : cp ≤ maxLen) :
    Calls Try.prog 46 #[.slice A n c, .int .i64 a, .int .i64 t, .slice P m cp] w (Gives w n (cellsL old (rowL a t) ps)) := by
  have HO := Lib.hid ho
  have HP := Lib.hid hp
  have HC := Lib.hid hcp
  have HX := Lib.hid hcx
  have HT := Lib.hid ht
  clear ho hp hcp hcx ht
  go_enter Try.func46, Try.ntmps46
  go_wp2_with fail
  refine (row_any a t w).mono ?_
  rintro e w1 ⟨rfl, h1⟩
  have hb : Below w.heap.size w w1 := by rw [h1]; exact (below_box w _).alloc (by simp) _
  have hsz : w1.heap.size = w.heap.size + 2 := by rw [h1]; simp
  have hcf : w1.cell? ⟨w.heap.size, 0, none⟩ = some (.int .i64 a) := by rw [h1]; exact (below_box _ _).cell (p := ⟨w.heap.size, 0, none⟩) (by simp) |>.trans (Boxed.new w 3 (.int .i64 a)).cell
  have hcm : w1.cell? ⟨w.heap.size + 1, 0, none⟩ = some (.int .i64 t) := by
    rw [h1]
    have := (Boxed.new (w.alloc (.cells #[.int .i64 a] 3)) 3 (.int .i64 t)).cell
    rwa [World.size_alloc] at this
  have hst : Stops 5 61 #[.pointer (some ⟨w.heap.size + 1, 0, none⟩), .pointer (some ⟨w.heap.size, 0, none⟩)] w1.heap.size (rowL a t) w1 := row_stops 5 (by omega) _ _ _ a t w1 (by omega) (by omega) (Nat.le_refl _) hcm hcf HT.out
  have HS := Lib.hid hst
  have HB := Lib.hid hb
  clear hst hcf hcm h1 hb
  go_wp2_with fail
  refine (laid_any _ _ A P n c m cp B old ps (rowL a t) w1 (enters_of Try.func61 (by kernel_rfl) rfl) HS.out (HO.out.below (HB.out.mono hB)) (HP.out.below (HB.out.mono hB)) (by omega) hn HC.out HX.out).mono ?_
  rintro e w2 ⟨A', c', rfl, h2, h3, h4⟩
  have H3 := Lib.hid h3
  have H4 := Lib.hid h4
  clear h3 h4
  go_wp2_with fail
  go_ret
  exact ⟨_, _, rfl, h2, H3.out.mono (by omega), HB.out.trans (H4.out.mono (by omega))⟩

/-- one place loses bits -/
def progL (l : List Int) (z p : Int) : List Int := if 0 ≤ z ∧ z < l.length then l.set z.toNat (bits .and .u8 (l.getD z.toNat 0) p) else l
theorem progL_len (l : List Int) (z p : Int) : (progL l z p).length = l.length := by unfold progL; split <;> simp

theorem program_any (A : Option Addr) (n c B : Nat) (z p : Int) (old : List Int) (w : World) (ho : Nums .u8 w B A n old) (hB : B ≤ w.heap.size) (hn : n ≤ 100000) :
    Calls Try.prog 47 #[.slice A n c, .int .i64 z, .int .u8 p] w (Gives w n (progL old z p)) := by
  have HO := Lib.hid ho
  clear ho
  go_enter Try.func47, Try.ntmps47
  go_wp2_with fail
  refine (clone_any w A n c B old HO.out hB (by omega)).mono ?_
  rintro e w1 ⟨v, rfl, hown, hbel⟩
  obtain ⟨A1, c1, rfl, hc1, hmine⟩ := hown.mine
  have hno := HO.out.1
  rw [hno] at hmine hc1 ⊢
  have HM := Lib.hid hmine
  have HB := Lib.hid hbel
  clear hown hmine hbel
  obtain ⟨r, hr⟩ : ∃ r, decide (0 ≤ z ∧ z < (n : Int)) = r := ⟨_, rfl⟩
  have HR := Lib.hid hr
  cases r
  · clear hr
    have HE := Lib.hid (show progL old z p = old by unfold progL; rw [if_neg (by rw [hno]; exact of_decide_eq_false HR.out)])
    go_wp2_with fail
    refine (has_any A1 n c1 z false _ (by unfold maxLen; omega) HR.out).mono ?_
    rintro e w' ⟨rfl, rfl⟩
    go_wp2_with fail
    go_ret
    exact ⟨_, _, rfl, hc1, by rw [HE.out]; exact HM.out, HB.out⟩
  · obtain ⟨hx0, hx1⟩ := of_decide_eq_true hr
    obtain ⟨z, rfl⟩ := Int.eq_ofNat_of_zero_le hx0
    clear hr
    have hzn : z < n := by omega
    obtain ⟨g, rfl, hg1, hg2, hgc⟩ := HM.out.2 (by omega)
    obtain ⟨hg3, hg4⟩ := hgc z hzn
    have HE := Lib.hid (show progL old z p = old.set z (bits .and .u8 (old.getD z 0) p) by unfold progL; rw [if_pos (by rw [hno]; omega)]; rfl)
    obtain ⟨y, hy⟩ : ∃ y, old.getD z 0 = y := ⟨_, rfl⟩
    rw [hy] at hg3 HE
    clear hgc hy
    go_wp2_with fail
    refine (has_any (some ⟨g, 0, none⟩) n c1 z true _ (by unfold maxLen; omega) HR.out).mono ?_
    rintro e w' ⟨rfl, rfl⟩
    go_wp2_with fail
    go_ret
    exact ⟨_, _, rfl, hc1, by rw [HE.out]; exact HM.out.put z hzn _, HB.out.setCell (p := ⟨g, z, none⟩) hg1 _⟩
end Go.Proofs.Ytojdbmkbcjaikaa
