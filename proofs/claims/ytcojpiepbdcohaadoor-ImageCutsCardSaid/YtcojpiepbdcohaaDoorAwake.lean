/-
  THE WALK OF keepsakelaw05.awake: the chapter's example.
-/
import Derived.Test.YtcojpiepbdcohaaDoorFac
namespace Go.Proofs.YtcojpiepbdcohaaDoor
open Go.RowKit

theorem many32 : many 3 2 = 2 := by decide
theorem fill3 : fill [1, 2, 3] (many 3 2 * 2) = [1, 2, 3, 0] := by decide
theorem facM64 : facM 0 0 1 = 64 := by decide
theorem new3 (w : World) : Bytes (w.alloc (.cells #[.int .u8 1, .int .u8 2, .int .u8 3] 5)) (w.heap.size + 1) (some ⟨w.heap.size, 0, none⟩) 3 [1, 2, 3] :=
  bytes_mono (Row.bytes (l := [1, 2, 3]) (show Row _ _ _ from heap_alloc_new w _) (by decide) rfl) (by simp)
theorem new2 (w : World) : Bytes (w.alloc (.cells #[.int .u8 3, .int .u8 0] 5)) (w.heap.size + 1) (some ⟨w.heap.size, 0, none⟩) 2 [3, 0] :=
  bytes_mono (Row.bytes (l := [3, 0]) (show Row _ _ _ from heap_alloc_new w _) (by decide) rfl) (by simp)
theorem cut32 (b : Nat) (w : World) (h : Bytes w w.heap.size (some ⟨b, 0, none⟩) 3 [1, 2, 3]) : Calls Tryd.prog 21 #[.slice (some ⟨b, 0, none⟩) 3 3, .int .i64 2] w fun e w' => ∃ g, e = .returned (.tuple #[.slice (some ⟨g, 0, none⟩) 2 2, .int .i64 0]) ∧ Below w.heap.size w w' ∧ ∃ h, w'.cell? ⟨g, 1, none⟩ = some (.slice (some ⟨h, 2, none⟩) 2 2) ∧ Bytes w' w'.heap.size (some ⟨h, 2, none⟩) 2 [3, 0] := by
  refine (cut_ok (some ⟨b, 0, none⟩) 3 3 w.heap.size 2 [1, 2, 3] w h (Nat.le_refl _) (by omega) (by omega) (by omega)).mono ?_
  rintro e w' ⟨g, h, rfl, hc⟩
  rw [fill3, many32] at hc
  rw [many32]
  refine ⟨g, rfl, hc.bel, h, ?_, ?_⟩
  · rw [hc.val.cell]; rfl
  · exact hc.row.part (by decide) 2 2 (by decide)
theorem fac1 (w : World) (H : Tab w) : Calls Tryd.prog 11 #[geoV 0 0 1] w fun e w' => ∃ g, e = .returned (.tuple #[.slice (some ⟨g, 0, none⟩) 64 64, .int .i64 0]) ∧ On w w' := by
  refine (factory_ok 0 0 1 w w (On.start H) (by decide)).mono ?_
  rintro e w' ⟨g, rfl, ho, _⟩
  rw [facM64]
  exact ⟨g, rfl, ho⟩

theorem awake_any (w : World) (H : Tab w) : Calls Tryd.prog 10 #[] w fun e w' => e = .returned (.bool true) ∧ On w w' := by
  have HT := Lib.hid H
  have HN := Lib.hid (new3 w)
  clear H
  go_enter Tryd.func10, Tryd.ntmps10
  go_wp2_with fail
  refine (cut32 w.heap.size _ (by have := HN.out; simpa using this)).mono ?_
  rintro e w1 ⟨g, rfl, hb1, h, hc, hby⟩
  have HO1 := Lib.hid ((On.start HT.out).next ((below_box w (.cells #[.int .u8 1, .int .u8 2, .int .u8 3] 5)).trans (hb1.mono (by simp))))
  have HBY := Lib.hid hby
  have HC := Lib.hid hc
  clear hb1 hby hc
  go_wp2_with fail
  refine (fac1 _ HO1.out.tab).mono ?_
  rintro e w2 ⟨g2, rfl, hO2⟩
  have hc : w2.cell? ⟨g, 1, none⟩ = some (.slice (some ⟨h, 2, none⟩) 2 2) := (hO2.bel.cell (p := ⟨g, 1, none⟩) (block_lt_of_cell HC.out)).trans HC.out
  have HB2 := Lib.hid (bytes_mono (bytes_below HBY.out hO2.bel) hO2.bel.size)
  have HO2 := Lib.hid (HO1.out.next hO2.bel)
  clear hO2 HBY HC
  go_wp2_with fail
  refine (same_refl _ _ 2 2 2 (w2.heap.size + 1) [3, 0] _ (by decide) (bytes_mono (bytes_below HB2.out (below_box w2 _)) (by omega)) (new2 w2) (by simp)).mono ?_
  rintro e w3 ⟨rfl, hb3⟩
  have HO3 := Lib.hid (HO2.out.next ((below_box w2 (.cells #[.int .u8 3, .int .u8 0] 5)).trans (hb3.mono (by simp))))
  clear hb3
  go_wp2_with fail
  refine (sectors_any 3 2 2 _ (by decide) (by decide)).mono ?_
  rintro e w3 ⟨rfl, rfl⟩
  go_wp2_with fail
  go_ret
  exact ⟨rfl, HO3.out⟩
theorem awake_on (w0 w : World) (H : On w0 w) : Calls Tryd.prog 10 #[] w fun e w' => e = .returned (.bool true) ∧ On w0 w' :=
  (awake_any w H.tab).mono fun _ _ h => ⟨h.1, H.next h.2.bel⟩
end Go.Proofs.YtcojpiepbdcohaaDoor
