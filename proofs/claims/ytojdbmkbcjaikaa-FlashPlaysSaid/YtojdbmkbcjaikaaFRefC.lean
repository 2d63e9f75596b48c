/-
  THE DOCUMENT'S Range AND Program, AS BEFORE, OF MORE BYTES.
-/
import Derived.Test.YtojdbmkbcjaikaaCBits
namespace Go.Proofs.Ytojdbmkbcjaikaa
open Go.RowKit
set_option maxRecDepth 20000

set_option maxRecDepth 100000 in
set_option maxHeartbeats 4000000 in
theorem refRange_big (A P : Option Addr) (n c m cp B : Nat) (a T : Int) (old ps : List Int) (w : World) (ho : Nums .u8 w B A n old) (hp : Nums .u8 w B P m ps) (hB : B ≤ w.heap.size) (hn : n ≤ 100000) (hm : m ≤ 100000) (ha : -1099511627776 ≤ a ∧ a ≤ 1099511627776) (hT : T ≤ 9223372036854775807) :
    Calls Try.prog 45 #[.slice A n c, .int .i64 a, .int .i64 T, .slice P m cp] w (Makes w (cellsL old (rowL a T) ps)) := by
  have HO := Lib.hid ho
  have HP := Lib.hid hp
  have hno := ho.1
  obtain ⟨ha0, ha1⟩ := ha
  obtain ⟨zs, hzs⟩ : ∃ zs, rowL a T = zs := ⟨_, rfl⟩
  have hkz : zs.length = T.toNat := by rw [← hzs, rowL_len]
  have HRW := Lib.hid (show ∀ t : Nat, t < T.toNat → t < 100000 → zs.getD t 0 = a + (t : Int) from fun t h1 h2 => by rw [← hzs]; exact rowL_get a T t h1 (by omega) (by omega))
  rw [hzs]
  clear hzs
  have hmp := hp.1
  have HC := Lib.hid (show ∀ v ∈ cellsL old zs ps, 0 ≤ v ∧ v ≤ 255 from cellsL_in ho.byte hp.byte)
  have HCL := Lib.hid (show (cellsL old zs ps).length = n by rw [cellsL_len, hno])
  clear ho hp
  go_enter Try.func45, Try.ntmps45
  go_wp2_with fail
  go_loopw [9, 10] (fun v i wr => ∃ j : Nat, j ≤ n ∧ i = .int .i64 j ∧ OwnK .u8 5 w.heap.size wr v ((cellsL old zs ps).take j) ∧ Below w.heap.size w wr) (fun _ i _ => n - (intOf i).toNat)
  case atStart => exact ⟨0, Nat.zero_le _, rfl, OwnK.nil _ _ _ _, Below.refl _ _⟩
  case round =>
    obtain ⟨j, hj, rfl, hown, hbel⟩ := hrel
    have HOW := Lib.hid hown
    have HBE := Lib.hid hbel
    clear hown hbel
    by_cases hlt : j < n
    · obtain ⟨b, o, rfl, hv⟩ := HO.out.cell (HBE.out.mono hB) j hlt
      have HX := Lib.hid (xAt_zero old zs ps j)
      rw [← HX.out] at hv
      have hj0 : (0 : Int) ≤ (j : Int) := by omega
      have hj1 : (j : Int) < (n : Int) := by omega
      go_wp2_with fail
      go_loop [11, 12] (fun x q => ∃ t : Nat, t ≤ T.toNat ∧ t ≤ m ∧ q = .int .i64 t ∧ x = .int .u8 (xAt old zs ps j t)) (fun _ q => m - (intOf q).toNat)
      case atStart => exact ⟨0, Nat.zero_le _, Nat.zero_le _, rfl, rfl⟩
      case round =>
        obtain ⟨t, ht, htm, rfl, rfl⟩ := hrel
        by_cases htk : (t : Int) < T
        · by_cases htm1 : t < m
          · have hk2 : t < T.toNat := by omega
            have hm2 : (t : Int) < (m : Int) := by omega
            have ht0 : (0 : Int) ≤ (t : Int) := by omega
            obtain ⟨b2, o2, rfl, hv2⟩ := HP.out.cell (HBE.out.mono hB) t htm1
            have hS := xAt_succ old zs ps j t (by omega) (by omega) (by omega)
            rw [HRW.out t hk2 (by omega)] at hS
            have haw : -9223372036854775808 ≤ a + (t : Int) := by omega
            have haw2 : a + (t : Int) ≤ 9223372036854775807 := by omega
            generalize ps.getD t 0 = y at *
            by_cases hzj : a + (t : Int) = (j : Int)
            · rw [if_pos hzj] at hS
              have HS := Lib.hid hS
              have hne : ((a + (t : Int)) == (j : Int)) = true := by simp [hzj]
              clear hS hzj
              go_wp2_with fail
              go_round
              case rel => exact ⟨t + 1, by omega, by omega, by go_num, by rw [HS.out]⟩
              case measure => simp [intOf]; omega
            · rw [if_neg hzj] at hS
              have HS := Lib.hid hS
              have hne : ((a + (t : Int)) == (j : Int)) = false := by simp [hzj]
              clear hS hzj
              go_wp2_with fail
              go_round
              case rel => exact ⟨t + 1, by omega, by omega, by go_num, by rw [HS.out]⟩
              case measure => simp [intOf]; omega
          · have hk2 : t < T.toNat := by omega
            have hm2 : ¬ (t : Int) < (m : Int) := by omega
            have HXE := Lib.hid (xAt_end old zs ps j t (by omega))
            obtain ⟨y, hy⟩ : ∃ y, xAt old zs ps j t = y := ⟨_, rfl⟩
            have HYT := Lib.hid (take_snoc (l := cellsL old zs ps) (i := j) (x := y) (by rw [HCL.out]; omega) (by rw [← hy, HXE.out]))
            have hyb : 0 ≤ y ∧ y ≤ 255 := by rw [← hy, HXE.out]; exact getD_byte HC.out j
            rw [hy]
            clear hy
            obtain ⟨v', w', hrun, ho', hb'⟩ := append_one elemB wr w.heap.size 22 _ _ HOW.out y (byte_wf hyb) (by rw [List.length_take]; omega) HBE.out.size
            have R := Lib.hid (And.intro (show OwnK .u8 5 w.heap.size w' v' ((cellsL old zs ps).take (j + 1)) by rw [HYT.out]; exact ho') (HBE.out.trans hb'))
            have HRUN := Lib.hid hrun
            clear hrun ho' hb'
            go_wp2_with (at_builtin; refine Lib.wpList_append_run _ rfl _ _ _ _ rfl _ _ rfl rfl _ _ HRUN.out ?_)
            go_roundw
            case rel => exact ⟨j + 1, by omega, by go_num, R.out.1, R.out.2⟩
            case measure => simp [intOf]; omega

        · have hk2 : ¬ t < T.toNat := by omega
          have HXE := Lib.hid (xAt_end old zs ps j t (by omega))
          obtain ⟨y, hy⟩ : ∃ y, xAt old zs ps j t = y := ⟨_, rfl⟩
          have HYT := Lib.hid (take_snoc (l := cellsL old zs ps) (i := j) (x := y) (by rw [HCL.out]; omega) (by rw [← hy, HXE.out]))
          have hyb : 0 ≤ y ∧ y ≤ 255 := by rw [← hy, HXE.out]; exact getD_byte HC.out j
          rw [hy]
          clear hy
          obtain ⟨v', w', hrun, ho', hb'⟩ := append_one elemB wr w.heap.size 22 _ _ HOW.out y (byte_wf hyb) (by rw [List.length_take]; omega) HBE.out.size
          have R := Lib.hid (And.intro (show OwnK .u8 5 w.heap.size w' v' ((cellsL old zs ps).take (j + 1)) by rw [HYT.out]; exact ho') (HBE.out.trans hb'))
          have HRUN := Lib.hid hrun
          clear hrun ho' hb'
          go_wp2_with (at_builtin; refine Lib.wpList_append_run _ rfl _ _ _ _ rfl _ _ rfl rfl _ _ HRUN.out ?_)
          go_roundw
          case rel => exact ⟨j + 1, by omega, by go_num, R.out.1, R.out.2⟩
          case measure => simp [intOf]; omega

    · obtain rfl : j = n := by omega
      have HOE := Lib.hid (show OwnK .u8 5 w.heap.size wr _ (cellsL old zs ps) by have := HOW.out; rwa [List.take_of_length_le (by rw [HCL.out]; exact Nat.le_refl _)] at this)
      go_wp2_with fail
      go_ret
      exact ⟨_, rfl, HOE.out, HBE.out⟩
set_option maxRecDepth 100000 in
set_option maxHeartbeats 4000000 in
theorem refProgram_big (A : Option Addr) (n c B : Nat) (z p : Int) (old : List Int) (w : World) (ho : Nums .u8 w B A n old) (hp : 0 ≤ p ∧ p ≤ 255) (hB : B ≤ w.heap.size) (hn : n ≤ 100000) :
    Calls Try.prog 44 #[.slice A n c, .int .i64 z, .int .u8 p] w (Makes w (progL old z p)) := by
  obtain ⟨y, rfl⟩ := Int.eq_ofNat_of_zero_le hp.1
  have hy : y < 256 := by omega
  have HO := Lib.hid ho
  have hno := ho.1
  have HC := Lib.hid (show ∀ v ∈ progL old z y, 0 ≤ v ∧ v ≤ 255 from progL_in ho.byte hp)
  have HCL := Lib.hid (show (progL old z y).length = n by rw [progL_len, hno])
  have HG := Lib.hid (fun j (hj : j < n) => progL_get old z y j (by omega))
  have HBY := Lib.hid ho.byte
  clear ho hp
  go_enter Try.func44, Try.ntmps44
  go_wp2_with fail
  go_loopw [7, 8] (fun v i wr => ∃ j : Nat, j ≤ n ∧ i = .int .i64 j ∧ OwnK .u8 5 w.heap.size wr v ((progL old z y).take j) ∧ Below w.heap.size w wr) (fun _ i _ => n - (intOf i).toNat)
  case atStart => exact ⟨0, Nat.zero_le _, rfl, OwnK.nil _ _ _ _, Below.refl _ _⟩
  case round =>
    obtain ⟨j, hj, rfl, hown, hbel⟩ := hrel
    have HOW := Lib.hid hown
    have HBE := Lib.hid hbel
    clear hown hbel
    by_cases hlt : j < n
    · obtain ⟨b, o, rfl, hv⟩ := HO.out.cell (HBE.out.mono hB) j hlt
      have hG := HG.out j hlt
      have hxb := getD_byte HBY.out j
      obtain ⟨x, hx⟩ := Int.eq_ofNat_of_zero_le hxb.1
      rw [hx] at hv hG hxb
      have hx256 : x < 256 := by omega
      have hj0 : (0 : Int) ≤ (j : Int) := by omega
      have hj1 : (j : Int) < (n : Int) := by omega
      clear hx
      have app : ∀ (v : Value) (u : Int), 0 ≤ u ∧ u ≤ 255 → (progL old z y).getD j 0 = u → OwnK .u8 5 w.heap.size wr v ((progL old z y).take j) → ∃ v' w', (Builtin.append_ #[22, 22] 22 #[v, .slice (some ⟨wr.heap.size, 0, none⟩) 1 1]).run Try.prog (wr.alloc (.cells #[.int .u8 u] 5)) = .ok v' w' ∧ OwnK .u8 5 w.heap.size w' v' ((progL old z y).take (j + 1)) ∧ Below w.heap.size w w' := by
        intro v u hu hg ho
        obtain ⟨v', w', hrun, ho', hb'⟩ := append_one elemB wr w.heap.size 22 _ _ ho u (byte_wf hu) (by rw [List.length_take]; omega) HBE.out.size
        exact ⟨v', w', hrun, by rw [take_snoc (by rw [HCL.out]; omega) hg]; exact ho', HBE.out.trans hb'⟩
      by_cases hzj : z = (j : Int)
      · rw [if_pos hzj, band_nat x y hx256 hy] at hG
        have hne : ((j : Int) == z) = true := by simp [hzj]
        have hxy := @Nat.and_le_left x y
        obtain ⟨v', w', hrun, ho', hb'⟩ := app _ _ (by omega) hG HOW.out
        have R := Lib.hid (And.intro ho' hb')
        have HRUN := Lib.hid hrun
        have HJ := Lib.hid hzj
        clear hrun ho' hb' hG app hzj
        go_wp2_with fail
        refine (both_any x y hx256 hy _).mono ?_
        rintro e w1 ⟨rfl, rfl⟩
        go_wp2_with (at_builtin; refine Lib.wpList_append_run _ rfl _ _ _ _ rfl _ _ rfl rfl _ _ HRUN.out ?_)
        go_roundw
        case rel => exact ⟨j + 1, by omega, by go_num, R.out.1, R.out.2⟩
        case measure => simp [intOf]; omega
      · rw [if_neg hzj] at hG
        have hne : ((j : Int) == z) = false := by simp; exact fun e => hzj e.symm
        obtain ⟨v', w', hrun, ho', hb'⟩ := app _ _ (by omega) hG HOW.out
        have R := Lib.hid (And.intro ho' hb')
        have HRUN := Lib.hid hrun
        have HJ := Lib.hid hzj
        clear hrun ho' hb' hG app hzj
        go_wp2_with (at_builtin; refine Lib.wpList_append_run _ rfl _ _ _ _ rfl _ _ rfl rfl _ _ HRUN.out ?_)
        go_roundw
        case rel => exact ⟨j + 1, by omega, by go_num, R.out.1, R.out.2⟩
        case measure => simp [intOf]; omega
    · obtain rfl : j = n := by omega
      have HOE := Lib.hid (show OwnK .u8 5 w.heap.size wr _ (progL old z y) by have := HOW.out; rwa [List.take_of_length_le (by rw [HCL.out]; exact Nat.le_refl _)] at this)
      go_wp2_with fail
      go_ret
      exact ⟨_, rfl, HOE.out, HBE.out⟩
end Go.Proofs.Ytojdbmkbcjaikaa
