/-
  AND, BIT BY BIT; THE WALKS OF keepsakeref08's both, Program.
-/
import Derived.Test.YtojdbmkbcjaikaaCFun
import Derived.Test.YtojdbmkbcjaikaaCRefCells
import Derived.Laws.BitsLemmas
namespace Go.Proofs.Ytojdbmkbcjaikaa
open Go.RowKit
set_option maxRecDepth 20000

theorem and_bit (x y k : Nat) : ((x &&& y) / 2 ^ k % 2 = 1) ↔ (x / 2 ^ k % 2 = 1 ∧ y / 2 ^ k % 2 = 1) := by
  have h := Nat.testBit_and x y k
  simp only [Nat.testBit_eq_decide_div_mod_eq] at h
  rw [← Bool.decide_and, decide_eq_decide] at h
  exact h
/-- the lowest k bits of both -/
def andTo (x y k : Nat) : Nat := (x &&& y) % 2 ^ k
theorem andTo_succ (x y k : Nat) : andTo x y (k + 1) = if x / 2 ^ k % 2 = 1 ∧ y / 2 ^ k % 2 = 1 then andTo x y k + 2 ^ k else andTo x y k := by
  unfold andTo
  rw [Nat.mod_pow_succ]
  by_cases h : (x &&& y) / 2 ^ k % 2 = 1
  · rw [if_pos ((and_bit x y k).1 h), h, Nat.mul_one]
  · rw [if_neg (fun e => h ((and_bit x y k).2 e)), show (x &&& y) / 2 ^ k % 2 = 0 by omega, Nat.mul_zero, Nat.add_zero]
theorem andTo_end (x y : Nat) (h : x < 256) : andTo x y 8 = x &&& y := by
  unfold andTo
  exact Nat.mod_eq_of_lt (Nat.lt_of_le_of_lt Nat.and_le_left (by simpa using h))
theorem band_nat (x y : Nat) (hx : x < 256) (hy : y < 256) : bits .and .u8 (x : Int) (y : Int) = ((x &&& y : Nat) : Int) :=
  (bits_nat .u8 8 (by decide) wraps_u8 x y (by simpa using hx) (by simpa using hy)).1
theorem band_in {a b : Int} (ha : 0 ≤ a ∧ a ≤ 255) (hb : 0 ≤ b ∧ b ≤ 255) : 0 ≤ bits .and .u8 a b ∧ bits .and .u8 a b ≤ 255 := by
  obtain ⟨x, rfl⟩ := Int.eq_ofNat_of_zero_le ha.1
  obtain ⟨y, rfl⟩ := Int.eq_ofNat_of_zero_le hb.1
  rw [band_nat _ _ (by omega) (by omega)]
  have := @Nat.and_le_left x y
  omega
theorem band_all {a : Int} (ha : 0 ≤ a ∧ a ≤ 255) : bits .and .u8 a 255 = a := by
  obtain ⟨x, rfl⟩ := Int.eq_ofNat_of_zero_le ha.1
  have := band_nat x 255 (by omega) (by omega)
  rw [show ((255 : Nat) : Int) = 255 from rfl] at this
  rw [this, show (255 : Nat) = 2 ^ 8 - 1 from rfl, Nat.and_two_pow_sub_one_eq_mod, Nat.mod_eq_of_lt (by omega)]
theorem band_self {a : Int} (ha : 0 ≤ a ∧ a ≤ 255) : bits .and .u8 a a = a := by
  obtain ⟨x, rfl⟩ := Int.eq_ofNat_of_zero_le ha.1
  rw [band_nat _ _ (by omega) (by omega), Nat.and_self]
theorem band_right {a b : Int} (ha : 0 ≤ a ∧ a ≤ 255) (hb : 0 ≤ b ∧ b ≤ 255) : bits .and .u8 (bits .and .u8 a b) b = bits .and .u8 a b := by
  obtain ⟨x, rfl⟩ := Int.eq_ofNat_of_zero_le ha.1
  obtain ⟨y, rfl⟩ := Int.eq_ofNat_of_zero_le hb.1
  have := @Nat.and_le_left x y
  rw [band_nat _ _ (by omega) (by omega), band_nat _ _ (by omega) (by omega), Nat.and_assoc, Nat.and_self]
theorem band_left {a b : Int} (ha : 0 ≤ a ∧ a ≤ 255) (hb : 0 ≤ b ∧ b ≤ 255) : bits .and .u8 (bits .and .u8 a b) a = bits .and .u8 a b := by
  obtain ⟨x, rfl⟩ := Int.eq_ofNat_of_zero_le ha.1
  obtain ⟨y, rfl⟩ := Int.eq_ofNat_of_zero_le hb.1
  have := @Nat.and_le_left x y
  rw [band_nat _ _ (by omega) (by omega), band_nat _ _ (by omega) (by omega), Nat.and_comm x y, Nat.and_assoc, Nat.and_self]
theorem progL_in {l : List Int} {z p : Int} (hl : ∀ v ∈ l, 0 ≤ v ∧ v ≤ 255) (hp : 0 ≤ p ∧ p ≤ 255) : ∀ v ∈ progL l z p, 0 ≤ v ∧ v ≤ 255 := by
  unfold progL
  split
  · intro v hv
    rcases List.mem_or_eq_of_mem_set hv with h | h
    · exact hl v h
    · rw [h]; exact band_in (getD_byte hl _) hp
  · exact hl
theorem progL_get (l : List Int) (z p : Int) (i : Nat) (hi : i < l.length) : (progL l z p).getD i 0 = if z = i then bits .and .u8 (l.getD i 0) p else l.getD i 0 := by
  unfold progL
  split
  · rename_i h
    simp only [List.getD, List.getElem?_set]
    by_cases e : z = i
    · subst e; simp [hi]
    · rw [if_neg (by omega), if_neg e]
  · rw [if_neg (by omega)]

set_option maxRecDepth 100000 in
set_option maxHeartbeats 4000000 in
theorem both_any (x y : Nat) (hx : x < 256) (hy : y < 256) (w : World) : Calls Try.prog 53 #[.int .u8 x, .int .u8 y] w fun e w' => e = .returned (.int .u8 ((x &&& y : Nat) : Int)) ∧ w' = w := by
  have HE := Lib.hid (andTo_end x y hx)
  go_enter Try.func53, Try.ntmps53
  go_wp2_with fail
  go_loop [5, 6, 7] (fun n p q => ∃ t : Nat, t ≤ 8 ∧ q = .int .i64 t ∧ p = .int .i64 ((2 ^ t : Nat) : Int) ∧ n = .int .u8 (andTo x y t : Nat)) (fun _ _ q => 8 - (intOf q).toNat)
  case atStart => exact ⟨0, Nat.zero_le _, rfl, rfl, by unfold andTo; simp⟩
  case round =>
    obtain ⟨t, ht, rfl, rfl, rfl⟩ := hrel
    by_cases hlt : t < 8
    · have hS := andTo_succ x y t
      have hn : andTo x y t + 2 ^ t ≤ 255 := by
        have h1 : andTo x y t < 2 ^ t := Nat.mod_lt _ (Nat.two_pow_pos t)
        have h2 : 2 ^ t ≤ 2 ^ 7 := Nat.pow_le_pow_right (by omega) (by omega)
        omega
      have hP := Nat.two_pow_pos t
      have hP7 : 2 ^ t ≤ 128 := Nat.pow_le_pow_right (n := 2) (by omega) (show t ≤ 7 by omega)
      have HP2 := Lib.hid (show 2 ^ (t + 1) = 2 * 2 ^ t by rw [Nat.pow_succ]; omega)
      generalize 2 ^ t = P at *
      generalize andTo x y t = N at *
      have hxq : x / P ≤ x := Nat.div_le_self _ _
      have hyq : y / P ≤ y := Nat.div_le_self _ _
      have hxt : ((x : Nat) : Int).tdiv (P : Int) = ((x / P : Nat) : Int) := rfl
      have hyt : ((y : Nat) : Int).tdiv (P : Int) = ((y / P : Nat) : Int) := rfl
      generalize x / P = X at *
      generalize y / P = Y at *
      have hXm : ((X : Nat) : Int).tmod 2 = ((X % 2 : Nat) : Int) := rfl
      have hYm : ((Y : Nat) : Int).tmod 2 = ((Y % 2 : Nat) : Int) := rfl
      have hX2 : X % 2 < 2 := Nat.mod_lt _ (by omega)
      have hY2 : Y % 2 < 2 := Nat.mod_lt _ (by omega)
      generalize X % 2 = bx at *
      generalize Y % 2 = yb at *
      have hP0 : (P : Int) ≠ 0 := by omega
      by_cases hb1 : bx = 1
      · have hc1 : ((bx : Nat) : Int) = 1 := by omega
        by_cases hb2 : yb = 1
        · have hc2 : ((yb : Nat) : Int) = 1 := by omega
          rw [if_pos ⟨hb1, hb2⟩] at hS
          have HS := Lib.hid hS
          clear hS
          go_wp2_with fail
          go_round
          case rel => exact ⟨t + 1, by omega, by go_num, congrArg (Value.int .i64) (by rw [HP2.out]; omega), congrArg (Value.int .u8) (by rw [HS.out]; omega)⟩
          case measure => simp [intOf]; omega
        · have hc2 : ((yb : Nat) : Int) ≠ 1 := by omega
          rw [if_neg (fun h => hb2 h.2)] at hS
          have HS := Lib.hid hS
          clear hS
          go_wp2_with fail
          go_round
          case rel => exact ⟨t + 1, by omega, by go_num, congrArg (Value.int .i64) (by rw [HP2.out]; omega), congrArg (Value.int .u8) (by rw [HS.out])⟩
          case measure => simp [intOf]; omega
      · have hc1 : ((bx : Nat) : Int) ≠ 1 := by omega
        rw [if_neg (fun h => hb1 h.1)] at hS
        have HS := Lib.hid hS
        clear hS
        go_wp2_with fail
        go_round
        case rel => exact ⟨t + 1, by omega, by go_num, congrArg (Value.int .i64) (by rw [HP2.out]; omega), congrArg (Value.int .u8) (by rw [HS.out])⟩
        case measure => simp [intOf]; omega
    · obtain rfl : t = 8 := by omega
      go_wp2_with fail
      go_ret
      exact ⟨ret_int (by rw [HE.out]), rfl⟩

set_option maxRecDepth 100000 in
set_option maxHeartbeats 4000000 in
theorem refProgram_any (A : Option Addr) (n c B : Nat) (z p : Int) (old : List Int) (w : World) (ho : Nums .u8 w B A n old) (hp : 0 ≤ p ∧ p ≤ 255) (hB : B ≤ w.heap.size) (hn : n ≤ 1000) :
    Calls Try.prog 44 #[.slice A n c, .int .i64 z, .int .u8 p] w (Makes w (progL old z p)) := by
  obtain ⟨y, rfl⟩ := Int.eq_ofNat_of_zero_le hp.1
  have hy : y < 256 := by omega
  have HO := Lib.hid ho
  have hno := ho.1
  have HC := Lib.hid (show ∀ v ∈ progL old z y, 0 ≤ v ∧ v ≤ 255 from progL_in ho.byte hp)
  have HCL := Lib.hid (show (progL old z y).length = n by rw [progL_len, hno])
  have HG := Lib.hid (fun j (hj : j < n) => progL_get old z y j (by omega))
  have HBY := Lib.hid ho.byte
  clear ho hp
  go_enter Try.func44, Try.ntmps44
  go_wp2_with fail
  go_loopw [7, 8] (fun v i wr => ∃ j : Nat, j ≤ n ∧ i = .int .i64 j ∧ OwnK .u8 5 w.heap.size wr v ((progL old z y).take j) ∧ Below w.heap.size w wr) (fun _ i _ => n - (intOf i).toNat)
  case atStart => exact ⟨0, Nat.zero_le _, rfl, OwnK.nil _ _ _ _, Below.refl _ _⟩
  case round =>
    obtain ⟨j, hj, rfl, hown, hbel⟩ := hrel
    have HOW := Lib.hid hown
    have HBE := Lib.hid hbel
    clear hown hbel
    by_cases hlt : j < n
    · obtain ⟨b, o, rfl, hv⟩ := HO.out.cell (HBE.out.mono hB) j hlt
      have hG := HG.out j hlt
      have hxb := getD_byte HBY.out j
      obtain ⟨x, hx⟩ := Int.eq_ofNat_of_zero_le hxb.1
      rw [hx] at hv hG hxb
      have hx256 : x < 256 := by omega
      have hj0 : (0 : Int) ≤ (j : Int) := by omega
      have hj1 : (j : Int) < (n : Int) := by omega
      clear hx
      have app : ∀ (v : Value) (u : Int), 0 ≤ u ∧ u ≤ 255 → (progL old z y).getD j 0 = u → OwnK .u8 5 w.heap.size wr v ((progL old z y).take j) → ∃ v' w', (Builtin.append_ #[22, 22] 22 #[v, .slice (some ⟨wr.heap.size, 0, none⟩) 1 1]).run Try.prog (wr.alloc (.cells #[.int .u8 u] 5)) = .ok v' w' ∧ OwnK .u8 5 w.heap.size w' v' ((progL old z y).take (j + 1)) ∧ Below w.heap.size w w' := by
        intro v u hu hg ho
        obtain ⟨v', w', hrun, ho', hb'⟩ := append_one elemB wr w.heap.size 22 _ _ ho u (byte_wf hu) (by rw [List.length_take]; omega) HBE.out.size
        exact ⟨v', w', hrun, by rw [take_snoc (by rw [HCL.out]; omega) hg]; exact ho', HBE.out.trans hb'⟩
      by_cases hzj : z = (j : Int)
      · rw [if_pos hzj, band_nat x y hx256 hy] at hG
        have hne : ((j : Int) == z) = true := by simp [hzj]
        have hxy := @Nat.and_le_left x y
        obtain ⟨v', w', hrun, ho', hb'⟩ := app _ _ (by omega) hG HOW.out
        have R := Lib.hid (And.intro ho' hb')
        have HRUN := Lib.hid hrun
        have HJ := Lib.hid hzj
        clear hrun ho' hb' hG app hzj
        go_wp2_with fail
        refine (both_any x y hx256 hy _).mono ?_
        rintro e w1 ⟨rfl, rfl⟩
        go_wp2_with (at_builtin; refine Lib.wpList_append_run _ rfl _ _ _ _ rfl _ _ rfl rfl _ _ HRUN.out ?_)
        go_roundw
        case rel => exact ⟨j + 1, by omega, by go_num, R.out.1, R.out.2⟩
        case measure => simp [intOf]; omega
      · rw [if_neg hzj] at hG
        have hne : ((j : Int) == z) = false := by simp; exact fun e => hzj e.symm
        obtain ⟨v', w', hrun, ho', hb'⟩ := app _ _ (by omega) hG HOW.out
        have R := Lib.hid (And.intro ho' hb')
        have HRUN := Lib.hid hrun
        have HJ := Lib.hid hzj
        clear hrun ho' hb' hG app hzj
        go_wp2_with (at_builtin; refine Lib.wpList_append_run _ rfl _ _ _ _ rfl _ _ rfl rfl _ _ HRUN.out ?_)
        go_roundw
        case rel => exact ⟨j + 1, by omega, by go_num, R.out.1, R.out.2⟩
        case measure => simp [intOf]; omega
    · obtain rfl : j = n := by omega
      have HOE := Lib.hid (show OwnK .u8 5 w.heap.size wr _ (progL old z y) by have := HOW.out; rwa [List.take_of_length_le (by rw [HCL.out]; exact Nat.le_refl _)] at this)
      go_wp2_with fail
      go_ret
      exact ⟨_, rfl, HOE.out, HBE.out⟩
end Go.Proofs.Ytojdbmkbcjaikaa
