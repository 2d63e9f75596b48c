/-
  THE WALKS OF cut.Cells, cut.Range, cut.Program.
-/
import Derived.Test.YtfcdlnpfneinlaaDoorCLaid
namespace Go.Proofs.YtfcdlnpfneinlaaDoor
open Go.RowKit
set_option maxRecDepth 20000

/-- what is answered: bytes of its own -/
def Gives (w : World) (n : Nat) (l : List Int) (e : Ending) (w' : World) : Prop := ∃ A c, e = .returned (.slice A n c) ∧ n ≤ c ∧ Mine .u8 w.heap.size w' A n l ∧ Below w.heap.size w w'

theorem cells_any (A Z P : Option Addr) (n c k kc m cp B : Nat) (old zs ps : List Int) (w : World) (ho : Nums .u8 w B A n old) (hz : Nums .i64 w B Z k zs) (hp : Nums .u8 w B P m ps) (hB : B ≤ w.heap.size) (hn : n ≤ 100000) (hk : k ≤ maxLen) (hcp : m ≤ cp) (hcx : cp ≤ maxLen) :
    Calls Tryd.prog 51 #[.slice A n c, .slice Z k kc, .slice P m cp] w (Gives w n (cellsL old zs ps)) := by
  have HO := Lib.hid ho
  have HZ := Lib.hid hz
  have HP := Lib.hid hp
  have HC := Lib.hid hcp
  have HX := Lib.hid hcx
  have HK := Lib.hid hk
  clear ho hz hp hcp hcx hk
  go_enter Tryd.func51, Tryd.ntmps51
  go_wp2_with fail
  refine (values_any Z k kc w).mono ?_
  rintro e w1 ⟨rfl, h1⟩
  have hb : Below w.heap.size w w1 := by rw [h1]; exact below_box w _
  have hsz : w1.heap.size = w.heap.size + 1 := by rw [h1]; simp
  have hc : w1.cell? ⟨w.heap.size, 0, none⟩ = some (.slice Z k kc) := by rw [h1]; exact (Boxed.new w 36 (.slice Z k kc)).cell
  have hst : Stops 5 85 #[.pointer (some ⟨w.heap.size, 0, none⟩)] w1.heap.size zs w1 := values_stops 5 (by omega) _ _ k kc Z zs w1 (by omega) (Nat.le_refl _) hc HK.out ((HZ.out.below (hb.mono hB)).mono (by omega))
  have HS := Lib.hid hst
  have HB := Lib.hid hb
  clear hst hc h1 hb
  go_wp2_with fail
  refine (laid_any _ _ A P n c m cp B old ps zs w1 (enters_of Tryd.func85 (by kernel_rfl) rfl) HS.out (HO.out.below (HB.out.mono hB)) (HP.out.below (HB.out.mono hB)) (by omega) hn HC.out HX.out).mono ?_
  rintro e w2 ⟨A', c', rfl, h2, h3, h4⟩
  have H3 := Lib.hid h3
  have H4 := Lib.hid h4
  clear h3 h4
  go_wp2_with fail
  go_ret
  exact ⟨_, _, rfl, h2, H3.out.mono (by omega), HB.out.trans (H4.out.mono (by omega))⟩

/-- one place loses bits -/
def progL (l : List Int) (z p : Int) : List Int := if 0 ≤ z ∧ z < l.length then l.set z.toNat (bits .and .u8 (l.getD z.toNat 0) p) else l
theorem progL_len (l : List Int) (z p : Int) : (progL l z p).length = l.length := by unfold progL; split <;> simp

end Go.Proofs.YtfcdlnpfneinlaaDoor
