/-
  THE WALKS OF keepsakeref08's Cells, Range.
-/
import Derived.Test.YtojdbmkbcjaikaaCRef
namespace Go.Proofs.Ytojdbmkbcjaikaa
open Go.RowKit
set_option maxRecDepth 20000

/-- what place i has when k picks are laid -/
def xAt (old zs ps : List Int) (i k : Nat) : Int := (cellsL old (zs.take k) ps).getD i 0
theorem xAt_zero (old zs ps : List Int) (i : Nat) : xAt old zs ps i 0 = old.getD i 0 := by simp [xAt, cellsL]
theorem xAt_succ (old zs ps : List Int) (i k : Nat) (hi : i < old.length) (h1 : k < zs.length) (h2 : k < ps.length) : xAt old zs ps i (k + 1) = if zs.getD k 0 = i then ps.getD k 0 else xAt old zs ps i k := by
  unfold xAt
  rw [take_succ_getD zs k h1, cellsL_succ _ _ _ _ (by simp; omega), putL_get _ _ _ _ (by rw [cellsL_len]; exact hi)]
  rw [show (zs.take k).length = k by simp; omega]
theorem xAt_end (old zs ps : List Int) (i k : Nat) (h : zs.length ≤ k ∨ ps.length ≤ k) : xAt old zs ps i k = (cellsL old zs ps).getD i 0 := by
  unfold xAt
  rcases h with h | h
  · rw [List.take_of_length_le h]
  · by_cases h2 : zs.length ≤ k
    · rw [List.take_of_length_le h2]
    · rw [cellsL_prefix (List.take_prefix _ _) (by simp; omega)]
theorem take_snoc {l : List Int} {i : Nat} {x : Int} (h : i < l.length) (hx : l.getD i 0 = x) : l.take (i + 1) = l.take i ++ [x] := by rw [take_succ_getD _ _ h, hx]
theorem getD_byte {l : List Int} (h : ∀ v ∈ l, 0 ≤ v ∧ v ≤ 255) (i : Nat) : 0 ≤ l.getD i 0 ∧ l.getD i 0 ≤ 255 := by
  by_cases hi : i < l.length
  · rw [show l.getD i 0 = l[i] by simp [List.getD, hi]]
    exact h _ (List.getElem_mem hi)
  · simp [List.getD, Nat.le_of_not_lt hi]
/-- what is answered: bytes of the call's own -/
def Makes (w : World) (l : List Int) (e : Ending) (w' : World) : Prop := ∃ v, e = .returned v ∧ OwnK .u8 5 w.heap.size w' v l ∧ Below w.heap.size w w'

set_option maxRecDepth 100000 in
set_option maxHeartbeats 4000000 in
theorem refRange_any (A P : Option Addr) (n c m cp B : Nat) (a T : Int) (old ps : List Int) (w : World) (ho : Nums .u8 w B A n old) (hp : Nums .u8 w B P m ps) (hB : B ≤ w.heap.size) (hn : n ≤ 1000) (hm : m ≤ 1000) (ha : -1099511627776 ≤ a ∧ a ≤ 1099511627776) (hT : T ≤ 9223372036854775807) :
    Calls Try.prog 45 #[.slice A n c, .int .i64 a, .int .i64 T, .slice P m cp] w (Makes w (cellsL old (rowL a T) ps)) := by
  have HO := Lib.hid ho
  have HP := Lib.hid hp
  have hno := ho.1
  obtain ⟨ha0, ha1⟩ := ha
  obtain ⟨zs, hzs⟩ : ∃ zs, rowL a T = zs := ⟨_, rfl⟩
  have hkz : zs.length = T.toNat := by rw [← hzs, rowL_len]
  have HRW := Lib.hid (show ∀ t : Nat, t < T.toNat → t < 1000 → zs.getD t 0 = a + (t : Int) from fun t h1 h2 => by rw [← hzs]; exact rowL_get a T t h1 (by omega) (by omega))
  rw [hzs]
  clear hzs
  have hmp := hp.1
  have HC := Lib.hid (show ∀ v ∈ cellsL old zs ps, 0 ≤ v ∧ v ≤ 255 from cellsL_in ho.byte hp.byte)
  have HCL := Lib.hid (show (cellsL old zs ps).length = n by rw [cellsL_len, hno])
  clear ho hp
  go_enter Try.func45, Try.ntmps45
  go_wp2_with fail
  go_loopw [9, 10] (fun v i wr => ∃ j : Nat, j ≤ n ∧ i = .int .i64 j ∧ OwnK .u8 5 w.heap.size wr v ((cellsL old zs ps).take j) ∧ Below w.heap.size w wr) (fun _ i _ => n - (intOf i).toNat)
  case atStart => exact ⟨0, Nat.zero_le _, rfl, OwnK.nil _ _ _ _, Below.refl _ _⟩
  case round =>
    obtain ⟨j, hj, rfl, hown, hbel⟩ := hrel
    have HOW := Lib.hid hown
    have HBE := Lib.hid hbel
    clear hown hbel
    by_cases hlt : j < n
    · obtain ⟨b, o, rfl, hv⟩ := HO.out.cell (HBE.out.mono hB) j hlt
      have HX := Lib.hid (xAt_zero old zs ps j)
      rw [← HX.out] at hv
      have hj0 : (0 : Int) ≤ (j : Int) := by omega
      have hj1 : (j : Int) < (n : Int) := by omega
      go_wp2_with fail
      go_loop [11, 12] (fun x q => ∃ t : Nat, t ≤ T.toNat ∧ t ≤ m ∧ q = .int .i64 t ∧ x = .int .u8 (xAt old zs ps j t)) (fun _ q => m - (intOf q).toNat)
      case atStart => exact ⟨0, Nat.zero_le _, Nat.zero_le _, rfl, rfl⟩
      case round =>
        obtain ⟨t, ht, htm, rfl, rfl⟩ := hrel
        by_cases htk : (t : Int) < T
        · by_cases htm1 : t < m
          · have hk2 : t < T.toNat := by omega
            have hm2 : (t : Int) < (m : Int) := by omega
            have ht0 : (0 : Int) ≤ (t : Int) := by omega
            obtain ⟨b2, o2, rfl, hv2⟩ := HP.out.cell (HBE.out.mono hB) t htm1
            have hS := xAt_succ old zs ps j t (by omega) (by omega) (by omega)
            rw [HRW.out t hk2 (by omega)] at hS
            have haw : -9223372036854775808 ≤ a + (t : Int) := by omega
            have haw2 : a + (t : Int) ≤ 9223372036854775807 := by omega
            generalize ps.getD t 0 = y at *
            by_cases hzj : a + (t : Int) = (j : Int)
            · rw [if_pos hzj] at hS
              have HS := Lib.hid hS
              have hne : ((a + (t : Int)) == (j : Int)) = true := by simp [hzj]
              clear hS hzj
              go_wp2_with fail
              go_round
              case rel => exact ⟨t + 1, by omega, by omega, by go_num, by rw [HS.out]⟩
              case measure => simp [intOf]; omega
            · rw [if_neg hzj] at hS
              have HS := Lib.hid hS
              have hne : ((a + (t : Int)) == (j : Int)) = false := by simp [hzj]
              clear hS hzj
              go_wp2_with fail
              go_round
              case rel => exact ⟨t + 1, by omega, by omega, by go_num, by rw [HS.out]⟩
              case measure => simp [intOf]; omega
          · have hk2 : t < T.toNat := by omega
            have hm2 : ¬ (t : Int) < (m : Int) := by omega
            have HXE := Lib.hid (xAt_end old zs ps j t (by omega))
            obtain ⟨y, hy⟩ : ∃ y, xAt old zs ps j t = y := ⟨_, rfl⟩
            have HYT := Lib.hid (take_snoc (l := cellsL old zs ps) (i := j) (x := y) (by rw [HCL.out]; omega) (by rw [← hy, HXE.out]))
            have hyb : 0 ≤ y ∧ y ≤ 255 := by rw [← hy, HXE.out]; exact getD_byte HC.out j
            rw [hy]
            clear hy
            obtain ⟨v', w', hrun, ho', hb'⟩ := append_one elemB wr w.heap.size 22 _ _ HOW.out y (byte_wf hyb) (by rw [List.length_take]; omega) HBE.out.size
            have R := Lib.hid (And.intro (show OwnK .u8 5 w.heap.size w' v' ((cellsL old zs ps).take (j + 1)) by rw [HYT.out]; exact ho') (HBE.out.trans hb'))
            have HRUN := Lib.hid hrun
            clear hrun ho' hb'
            go_wp2_with (at_builtin; refine Lib.wpList_append_run _ rfl _ _ _ _ rfl _ _ rfl rfl _ _ HRUN.out ?_)
            go_roundw
            case rel => exact ⟨j + 1, by omega, by go_num, R.out.1, R.out.2⟩
            case measure => simp [intOf]; omega

        · have hk2 : ¬ t < T.toNat := by omega
          have HXE := Lib.hid (xAt_end old zs ps j t (by omega))
          obtain ⟨y, hy⟩ : ∃ y, xAt old zs ps j t = y := ⟨_, rfl⟩
          have HYT := Lib.hid (take_snoc (l := cellsL old zs ps) (i := j) (x := y) (by rw [HCL.out]; omega) (by rw [← hy, HXE.out]))
          have hyb : 0 ≤ y ∧ y ≤ 255 := by rw [← hy, HXE.out]; exact getD_byte HC.out j
          rw [hy]
          clear hy
          obtain ⟨v', w', hrun, ho', hb'⟩ := append_one elemB wr w.heap.size 22 _ _ HOW.out y (byte_wf hyb) (by rw [List.length_take]; omega) HBE.out.size
          have R := Lib.hid (And.intro (show OwnK .u8 5 w.heap.size w' v' ((cellsL old zs ps).take (j + 1)) by rw [HYT.out]; exact ho') (HBE.out.trans hb'))
          have HRUN := Lib.hid hrun
          clear hrun ho' hb'
          go_wp2_with (at_builtin; refine Lib.wpList_append_run _ rfl _ _ _ _ rfl _ _ rfl rfl _ _ HRUN.out ?_)
          go_roundw
          case rel => exact ⟨j + 1, by omega, by go_num, R.out.1, R.out.2⟩
          case measure => simp [intOf]; omega

    · obtain rfl : j = n := by omega
      have HOE := Lib.hid (show OwnK .u8 5 w.heap.size wr _ (cellsL old zs ps) by have := HOW.out; rwa [List.take_of_length_le (by rw [HCL.out]; exact Nat.le_refl _)] at this)
      go_wp2_with fail
      go_ret
      exact ⟨_, rfl, HOE.out, HBE.out⟩
end Go.Proofs.Ytojdbmkbcjaikaa
