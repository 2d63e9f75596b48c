/-
  THE WALKS OF cut.Apart AND OF THE DOCUMENT's.
-/
import Derived.Test.YtojdbmkbcjaikaaCLaid
import Derived.Deep.QuietTactic
import Derived.BigRegion
namespace Go.Proofs.Ytojdbmkbcjaikaa
open Go.RowKit
set_option maxRecDepth 20000

theorem has_in (W : World) (p : Regrown) (A : Option Addr) (n c : Nat) (z : Int) (r : Bool) (hn : n ≤ maxLen) (hr : decide (0 ≤ z ∧ z < n) = r) : Calls Try.prog 48 #[.slice A n c, .int .i64 z] (In W p) fun e w'' => e = .returned (.bool r) ∧ ∃ q : Regrown, w'' = In W q :=
  (has_any A n c z r _ hn hr).mono fun _ _ h => ⟨h.1, p, h.2⟩
/-- ints of the call's own -/
def Tells (w : World) (l : List Int) (e : Ending) (w' : World) : Prop := ∃ v, e = .returned v ∧ OwnK .i64 3 w.heap.size w' v l ∧ Below w.heap.size w w'

set_option maxRecDepth 100000 in
set_option maxHeartbeats 4000000 in
theorem apart_any (A1 A2 : Option Addr) (n1 c1 n2 c2 B : Nat) (a b : List Int) (w : World) (ha : Nums .u8 w B A1 n1 a) (hb : Nums .u8 w B A2 n2 b) (hB : B ≤ w.heap.size) (h1 : n1 ≤ 100000) (h2 : n2 ≤ 100000) :
    Calls Try.prog 34 #[.slice A1 n1 c1, .slice A2 n2 c2] w (Tells w (apartL a b)) := by
  have HA := Lib.hid ha
  have HB := Lib.hid hb
  clear ha hb
  have hla := HA.out.1
  have hlb := HB.out.1
  obtain ⟨M, hM⟩ : ∃ M, max n1 n2 = M := ⟨_, rfl⟩
  have hM' : (max (n1 : Int) (n2 : Int)) = (M : Int) := by omega
  have HM := Lib.hid (show apartL a b = apartTo a b M by unfold apartL; rw [hla, hlb, hM])
  rw [HM.out]
  go_enter Try.func34, Try.ntmps34
  go_wp2_with fail
  go_loopw [5, 12] (fun v i wr => ∃ k : Nat, k ≤ M ∧ i = .int .i64 k ∧ OwnK .i64 3 w.heap.size wr v (apartTo a b k) ∧ Below w.heap.size w wr) (fun _ i _ => M - (intOf i).toNat)
  case atStart => exact ⟨0, Nat.zero_le _, rfl, OwnK.nil _ _ _ _, Below.refl _ _⟩
  case round =>
    obtain ⟨k, hk, rfl, hown, hbel⟩ := hrel
    have HOW := Lib.hid hown
    have HBE := Lib.hid hbel
    clear hown hbel
    by_cases hlt : k < M
    · have hkM : (k : Int) < (M : Int) := by omega
      by_cases ha : k < n1
      rotate_left
      · have HT := Lib.hid (show apartTo a b (k + 1) = apartTo a b k ++ [(k : Int)] by rw [apartTo_succ, if_pos (by unfold apartAt; simp; omega)])
        have HF := Lib.hid (show decide (0 ≤ (k : Int) ∧ (k : Int) < (n1 : Int)) = false from decide_eq_false (by omega))
        go_wp2_with fail
        refine wp_region_quiet_below (by kernel_rfl) (by kernel_rfl) ?_
        iterate 2 go_big_quiet_step (fail)
        go_big_quiet_step ((refine has_in wr _ A1 n1 c1 k false (by unfold maxLen; omega) HF.out))
        repeat (go_big_quiet_step (fail))
        refine wpQuiet_nil ?_
        rintro w' ⟨q, rfl⟩
        have HB2 := Lib.hid (HBE.out.trans ((in_below wr q).mono HBE.out.size))
        have HO2 := Lib.hid (HOW.out.below (in_below wr q))
        obtain ⟨W2, hW2⟩ : ∃ W2, In wr q = W2 := ⟨_, rfl⟩
        rw [hW2] at HB2 HO2
        have hW2' : Go.Sort.grow (redrawn wr q.d) q.os = W2 := hW2
        rw [hW2']
        clear hW2 hW2'
        obtain ⟨v', w', hrun, ho', hb'⟩ := append_one elemI W2 w.heap.size 60 _ _ HO2.out (k : Int) (int_wf.2 (by omega)) (by have := apartTo_len a b k; omega) HB2.out.size
        have R := Lib.hid (And.intro (show OwnK .i64 3 w.heap.size w' v' (apartTo a b (k + 1)) by rw [HT.out]; exact ho') (HB2.out.trans hb'))
        have HRUN := Lib.hid hrun
        clear hrun ho' hb'
        go_wp2_with (at_builtin; refine Lib.wpList_append_run _ rfl _ _ _ _ rfl _ _ rfl rfl _ _ HRUN.out ?_)
        go_roundw
        case rel => exact ⟨k + 1, by omega, by go_num, R.out.1, R.out.2⟩
        case measure => simp [intOf]; omega

      by_cases hb : k < n2
      rotate_left
      · have HT := Lib.hid (show apartTo a b (k + 1) = apartTo a b k ++ [(k : Int)] by rw [apartTo_succ, if_pos (by unfold apartAt; simp; omega)])
        have HF := Lib.hid (show decide (0 ≤ (k : Int) ∧ (k : Int) < (n1 : Int)) = true from decide_eq_true (by omega))
        have HF2 := Lib.hid (show decide (0 ≤ (k : Int) ∧ (k : Int) < (n2 : Int)) = false from decide_eq_false (by omega))
        go_wp2_with fail
        refine wp_region_quiet_below (by kernel_rfl) (by kernel_rfl) ?_
        iterate 2 go_big_quiet_step (fail)
        go_big_quiet_step ((refine has_in wr _ A1 n1 c1 k true (by unfold maxLen; omega) HF.out))
        iterate 4 go_big_quiet_step (fail)
        go_big_quiet_step ((refine has_in wr _ A2 n2 c2 k false (by unfold maxLen; omega) HF2.out))
        repeat (go_big_quiet_step (fail))
        refine wpQuiet_nil ?_
        rintro w' ⟨q, rfl⟩
        have HB2 := Lib.hid (HBE.out.trans ((in_below wr q).mono HBE.out.size))
        have HO2 := Lib.hid (HOW.out.below (in_below wr q))
        obtain ⟨W2, hW2⟩ : ∃ W2, In wr q = W2 := ⟨_, rfl⟩
        rw [hW2] at HB2 HO2
        have hW2' : Go.Sort.grow (redrawn wr q.d) q.os = W2 := hW2
        rw [hW2']
        clear hW2 hW2'
        obtain ⟨v', w', hrun, ho', hb'⟩ := append_one elemI W2 w.heap.size 60 _ _ HO2.out (k : Int) (int_wf.2 (by omega)) (by have := apartTo_len a b k; omega) HB2.out.size
        have R := Lib.hid (And.intro (show OwnK .i64 3 w.heap.size w' v' (apartTo a b (k + 1)) by rw [HT.out]; exact ho') (HB2.out.trans hb'))
        have HRUN := Lib.hid hrun
        clear hrun ho' hb'
        go_wp2_with (at_builtin; refine Lib.wpList_append_run _ rfl _ _ _ _ rfl _ _ rfl rfl _ _ HRUN.out ?_)
        go_roundw
        case rel => exact ⟨k + 1, by omega, by go_num, R.out.1, R.out.2⟩
        case measure => simp [intOf]; omega

      have HF := Lib.hid (show decide (0 ≤ (k : Int) ∧ (k : Int) < (n1 : Int)) = true from decide_eq_true (by omega))
      have HF2 := Lib.hid (show decide (0 ≤ (k : Int) ∧ (k : Int) < (n2 : Int)) = true from decide_eq_true (by omega))
      obtain ⟨b1, o1, rfl, hv1⟩ := HA.out.cell (HBE.out.mono hB) k ha
      obtain ⟨b2, o2, rfl, hv2⟩ := HB.out.cell (HBE.out.mono hB) k hb
      have hT := apartTo_succ a b k
      have hAt : apartAt a b k = (a.getD k 0 != b.getD k 0) := by unfold apartAt; rw [decide_eq_false (by omega), decide_eq_false (by omega)]; rfl
      rw [hAt] at hT
      generalize a.getD k 0 = x at *
      generalize b.getD k 0 = y at *
      have r1 := fun d os => cell_regrown hv1 d os
      have r2 := fun d os => cell_regrown hv2 d os
      have hk0 : (0 : Int) ≤ (k : Int) := by omega
      have hk1 : (k : Int) < (n1 : Int) := by omega
      have hk2 : (k : Int) < (n2 : Int) := by omega
      clear hv1 hv2 hAt
      cases hxy : (x != y)
      · rw [hxy] at hT
        have HT := Lib.hid (show apartTo a b (k + 1) = apartTo a b k from hT)
        clear hT
        go_wp2_with fail
        refine wp_region_quiet_below (by kernel_rfl) (by kernel_rfl) ?_
        iterate 2 go_big_quiet_step (fail)
        go_big_quiet_step ((refine has_in wr _ (some ⟨b1, o1, none⟩) n1 c1 k true (by unfold maxLen; omega) HF.out))
        iterate 4 go_big_quiet_step (fail)
        go_big_quiet_step ((refine has_in wr _ (some ⟨b2, o2, none⟩) n2 c2 k true (by unfold maxLen; omega) HF2.out))
        repeat (go_big_quiet_step (fail))
        refine wpQuiet_nil ?_
        rintro w' ⟨q, rfl⟩
        have HB2 := Lib.hid (HBE.out.trans ((in_below wr q).mono HBE.out.size))
        have HO2 := Lib.hid (HOW.out.below (in_below wr q))
        obtain ⟨W2, hW2⟩ : ∃ W2, In wr q = W2 := ⟨_, rfl⟩
        rw [hW2] at HB2 HO2
        have hW2' : Go.Sort.grow (redrawn wr q.d) q.os = W2 := hW2
        rw [hW2']
        clear hW2 hW2'
        go_wp2_with fail
        go_roundw
        case rel => exact ⟨k + 1, by omega, by go_num, by rw [HT.out]; exact HO2.out, HB2.out⟩
        case measure => simp [intOf]; omega

      · rw [hxy] at hT
        have HT := Lib.hid (show apartTo a b (k + 1) = apartTo a b k ++ [(k : Int)] from hT)
        clear hT
        go_wp2_with fail
        refine wp_region_quiet_below (by kernel_rfl) (by kernel_rfl) ?_
        iterate 2 go_big_quiet_step (fail)
        go_big_quiet_step ((refine has_in wr _ (some ⟨b1, o1, none⟩) n1 c1 k true (by unfold maxLen; omega) HF.out))
        iterate 4 go_big_quiet_step (fail)
        go_big_quiet_step ((refine has_in wr _ (some ⟨b2, o2, none⟩) n2 c2 k true (by unfold maxLen; omega) HF2.out))
        repeat (go_big_quiet_step (fail))
        refine wpQuiet_nil ?_
        rintro w' ⟨q, rfl⟩
        have HB2 := Lib.hid (HBE.out.trans ((in_below wr q).mono HBE.out.size))
        have HO2 := Lib.hid (HOW.out.below (in_below wr q))
        obtain ⟨W2, hW2⟩ : ∃ W2, In wr q = W2 := ⟨_, rfl⟩
        rw [hW2] at HB2 HO2
        have hW2' : Go.Sort.grow (redrawn wr q.d) q.os = W2 := hW2
        rw [hW2']
        clear hW2 hW2'
        obtain ⟨v', w', hrun, ho', hb'⟩ := append_one elemI W2 w.heap.size 60 _ _ HO2.out (k : Int) (int_wf.2 (by omega)) (by have := apartTo_len a b k; omega) HB2.out.size
        have R := Lib.hid (And.intro (show OwnK .i64 3 w.heap.size w' v' (apartTo a b (k + 1)) by rw [HT.out]; exact ho') (HB2.out.trans hb'))
        have HRUN := Lib.hid hrun
        clear hrun ho' hb'
        go_wp2_with (at_builtin; refine Lib.wpList_append_run _ rfl _ _ _ _ rfl _ _ rfl rfl _ _ HRUN.out ?_)
        go_roundw
        case rel => exact ⟨k + 1, by omega, by go_num, R.out.1, R.out.2⟩
        case measure => simp [intOf]; omega

    · obtain rfl : k = M := by omega
      go_wp2_with fail
      go_ret
      exact ⟨_, rfl, HOW.out, HBE.out⟩
end Go.Proofs.Ytojdbmkbcjaikaa
