/-
  THE WALKS OF keepsakeref05.Glue, Lists.
-/
import Derived.Test.YtcojpiepbdcohaaDoorRefCut
import Derived.Test.YtcojpiepbdcohaaDoorOwn
namespace Go.Proofs.YtcojpiepbdcohaaDoor
open Go.RowKit

theorem mem_getD {l : List Int} {k : Nat} (h : k < l.length) : l.getD k 0 ∈ l := by simp [List.getD, h]
theorem own_len {base : Nat} {w : World} {v : Value} {l : List Int} (h : Own base w v l) : ∃ A c, v = .slice A l.length c := by
  rcases h.2 with ⟨rfl, h0⟩ | ⟨g, cap, cur, rfl, _⟩
  · exact ⟨none, 0, by rw [h0]⟩
  · exact ⟨_, _, rfl⟩
/-- behind i lists and k bytes of the next one -/
def acc (L : List (List Int)) (m i k : Nat) : List Int := ((L.take i).flatten ++ (L.getD i []).take k).take m
theorem acc_zero (L : List (List Int)) (m i : Nat) : acc L m i 0 = glued (L.take i) m := by simp [acc, glued]
theorem acc_end (L : List (List Int)) (m i : Nat) (h : i < L.length) : acc L m i (L.getD i []).length = acc L m (i + 1) 0 := by
  rw [acc_zero]
  unfold acc glued
  rw [List.take_length, take_flat h]
theorem acc_le (L : List (List Int)) (m i k : Nat) : (acc L m i k).length ≤ m := by simp [acc]; omega
theorem take_snoc (P : List Int) (x : Int) (m : Nat) : (P ++ [x]).take m = if (P.take m).length < m then P.take m ++ [x] else P.take m := by
  rw [List.length_take]
  split
  · rw [List.take_of_length_le (by simp; omega), List.take_of_length_le (by omega)]
  · rw [List.take_append_of_le_length (by omega)]
theorem acc_succ (L : List (List Int)) (m i k : Nat) (h : k < (L.getD i []).length) : acc L m i (k + 1) = if (acc L m i k).length < m then acc L m i k ++ [(L.getD i []).getD k 0] else acc L m i k := by
  unfold acc
  rw [← take_snoc, List.append_assoc]
  congr 2
  rw [List.take_add_one]
  congr 1
  generalize L.getD i [] = Q at *
  simp [List.getD, h]
theorem acc_size (L : List (List Int)) (m z n i k : Nat) (hz : ∀ k, k < L.length → (L.getD k []).length ≤ z) (hi : i < L.length) (hn : L.length = n) (hnz : n * z ≤ 100000) : (acc L m i k).length ≤ 100000 := by
  have h1 := flat_bound L z hz i (by omega)
  have h2 := hz i hi
  have h3 : (i + 1) * z ≤ n * z := Nat.mul_le_mul_right _ (by omega)
  rw [Nat.add_mul, Nat.one_mul] at h3
  unfold acc
  rw [List.length_take, List.length_append, List.length_take]
  omega

/-- what the document's Glue answers -/
def RGluePost (w : World) (many : Int) (b : List Int) (e : Ending) (w' : World) : Prop :=
  Below w.heap.size w w' ∧ (((many < 0 ∨ (b.length : Int) < many) ∧ e = .returned (.tuple #[.slice none 0 0, .int .i64 1])) ∨ (¬ (many < 0 ∨ (b.length : Int) < many) ∧ ∃ v, e = .returned (.tuple #[v, .int .i64 0]) ∧ Own w.heap.size w' v b))

theorem refGlue_any (A : Option Addr) (n c B z : Nat) (many : Int) (L : List (List Int)) (w : World) (hL : Lsts w B A n L) (hB : B ≤ w.heap.size) (hz : ∀ k, k < L.length → (L.getD k []).length ≤ z) (hnz : n * z ≤ 100000) (hn : n ≤ 100000) (hzz : z ≤ 100000) :
    Calls Tryd.prog 24 #[.slice A n c, .int .i64 many] w (RGluePost w many (glued L many.toNat)) := by
  have HL := Lib.hid hL
  have HB := Lib.hid hB
  have HZ := Lib.hid hz
  have HNZ := Lib.hid hnz
  obtain ⟨m, hm⟩ : ∃ m, many.toNat = m := ⟨_, rfl⟩
  have HM := Lib.hid hm
  rw [hm]
  clear hL hB hz hnz hm
  go_enter Tryd.func24, Tryd.ntmps24
  go_wp2_with fail
  go_loopw [6, 7] (fun v i wr => ∃ k : Nat, k ≤ n ∧ i = .int .i64 k ∧ Own w.heap.size wr v (acc L m k 0) ∧ Below w.heap.size w wr) (fun _ i _ => n - (intOf i).toNat)
  case atStart => exact ⟨0, Nat.zero_le _, rfl, by unfold Own acc; simpa using World.ownsRow_nil _ _ _ _, Below.refl _ _⟩
  case round =>
    obtain ⟨i, hi, rfl, hown, hbel⟩ := hrel
    have hLn := HL.out.1
    by_cases hlt : i < n
    · obtain ⟨b, o, rfl, hbB, hcs⟩ := HL.out.2 (by omega)
      obtain ⟨v, hv, A2, c2, rfl, hc2, _, hy⟩ := hcs i hlt
      have hzi := HZ.out i (by omega)
      have HY := Lib.hid hy
      have HV := Lib.hid hv
      have HBB := Lib.hid hbB
      have HEND := Lib.hid (acc_end L m i (by omega))
      have HSUC := Lib.hid (acc_succ L m i)
      have HSZ := Lib.hid (fun k => acc_size L m z n i k HZ.out (by omega) hLn HNZ.out)
      have HO0 := Lib.hid (And.intro hown hbel)
      have HQQ := Lib.hid (show ∀ k, k < (L.getD i []).length → 0 ≤ (L.getD i []).getD k 0 ∧ (L.getD i []).getD k 0 ≤ 255 from fun k hk => hy.2.1 _ (mem_getD hk))
      obtain ⟨Q, hQ⟩ : ∃ Q, L.getD i [] = Q := ⟨_, rfl⟩
      rw [hQ] at hzi hc2 HY HV HEND HSUC HQQ
      obtain ⟨q, hq⟩ : ∃ q, Q.length = q := ⟨_, rfl⟩
      rw [hq] at hzi hc2 HY HV HEND HSUC HQQ
      have hi0 : (0 : Int) ≤ (i : Int) := by omega
      have hi1 : (i : Int) < (n : Int) := by omega
      clear hcs hv hy hbB hown hbel hQ hq hLn
      go_wp2_with fail
      go_loopw [6, 8] (fun v s wr => ∃ k : Nat, k ≤ q ∧ s = .int .i64 k ∧ Own w.heap.size wr v (acc L m i k) ∧ Below w.heap.size w wr) (fun _ s _ => q - (intOf s).toNat)
      case atStart => exact ⟨0, Nat.zero_le _, rfl, HO0.out.1, HO0.out.2⟩
      case round =>
        obtain ⟨k, hk, rfl, hown, hbel⟩ := hrel
        have hcell : wr.cell? ⟨b, o + i, none⟩ = some (.slice A2 q c2) := (hbel.cell (p := ⟨b, o + i, none⟩) (Nat.lt_of_lt_of_le HBB.out HB.out)).trans HV.out
        by_cases hkq : k < q
        · obtain ⟨b2, o2, rfl, hb2, hcs2⟩ := HY.out.2.2 (by omega)
          have hcell2 : wr.cell? ⟨b2, o2 + k, none⟩ = some (.int .u8 (Q.getD k 0)) := (hbel.cell (p := ⟨b2, o2 + k, none⟩) (Nat.lt_of_lt_of_le hb2 HB.out)).trans (hcs2 k hkq)
          have hxr := HQQ.out k hkq
          have hsuc := HSUC.out k hkq
          have hsz := HSZ.out k
          obtain ⟨A6, c6, rfl⟩ := own_len hown
          obtain ⟨x, hx⟩ : ∃ x, Q.getD k 0 = x := ⟨_, rfl⟩
          obtain ⟨t, ht⟩ : ∃ t, (acc L m i k).length = t := ⟨_, rfl⟩
          rw [hx] at hcell2 hxr hsuc
          rw [ht] at hsuc hsz
          have hk0 : (0 : Int) ≤ (k : Int) := by omega
          have hk1 : (k : Int) < (q : Int) := by omega
          by_cases htm : t < m
          · rw [if_pos htm] at hsuc
            obtain ⟨v', w', hrun, ho', hb'⟩ := append_byte wr w.heap.size 25 _ _ hown x hxr (by omega) hbel.size
            rw [← hsuc] at ho'
            rw [ht] at hrun ⊢
            have hlt2 : (t : Int) < many := by have := HM.out; omega
            have R := Lib.hid (And.intro ho' (hbel.trans hb'))
            have HRUN := Lib.hid hrun
            clear hcs2 hb2 hxr hsuc ht hx hrun ho' hb' hown hbel
            go_wp2_with (at_builtin; refine Lib.wpList_append_run _ rfl _ _ _ _ rfl _ _ rfl rfl _ _ HRUN.out ?_)
            go_roundw
            case rel => exact ⟨k + 1, by omega, by go_num, R.out.1, R.out.2⟩
            case measure => simp [intOf]; omega
          · rw [if_neg htm] at hsuc
            have hlt2 : ¬ (t : Int) < many := by have := HM.out; omega
            have R := Lib.hid (show Own w.heap.size wr _ (acc L m i (k + 1)) ∧ _ by rw [hsuc]; exact And.intro hown hbel)
            rw [ht] at R ⊢
            clear hcs2 hb2 hxr hsuc ht hx hown hbel
            go_wp2_with fail
            go_roundw
            case rel => exact ⟨k + 1, by omega, by go_num, R.out.1, R.out.2⟩
            case measure => simp [intOf]; omega
        · obtain rfl : k = q := by omega
          rw [HEND.out] at hown
          have R := Lib.hid (And.intro hown hbel)
          clear hown hbel
          go_wp2_with fail
          go_roundw
          case rel => exact ⟨i + 1, by omega, by go_num, R.out.1, R.out.2⟩
          case measure => simp [intOf]; omega
    · obtain rfl : i = n := by omega
      rw [acc_zero, show L.take i = L by rw [← hLn, List.take_length]] at hown
      obtain ⟨A6, c6, rfl⟩ := own_len hown
      have hgl := glued_le L m
      have R := Lib.hid (And.intro hown hbel)
      obtain ⟨t, ht⟩ : ∃ t, (glued L m).length = t := ⟨_, rfl⟩
      rw [ht] at R hgl ⊢
      have HTT := Lib.hid ht
      clear hown hbel ht
      have hmm := HM.out
      by_cases h0 : many < 0
      · clear hmm
        go_wp2_with fail
        go_returns
        exact ⟨R.out.2, .inl ⟨.inl h0, rfl⟩⟩
      · by_cases h1 : (t : Int) < many
        · clear hmm
          go_wp2_with fail
          go_returns
          exact ⟨R.out.2, .inl ⟨.inr (by rw [HTT.out]; exact h1), rfl⟩⟩
        · clear hmm
          go_wp2_with fail
          go_returns
          exact ⟨R.out.2, .inr ⟨by rw [HTT.out]; omega, _, rfl, R.out.1⟩⟩

theorem lists_refl (A1 A2 : Option Addr) (n c1 c2 B : Nat) (L : List (List Int)) (w : World) (h1 : Lsts w B A1 n L) (h2 : Lsts w B A2 n L) (hB : B ≤ w.heap.size) (hn : n ≤ 100000) (hz : ∀ k, k < L.length → (L.getD k []).length ≤ 100000) :
    Calls Tryd.prog 25 #[.slice A1 n c1, .slice A2 n c2] w fun e w' => e = .returned (.bool true) ∧ Below w.heap.size w w' := by
  have H1 := Lib.hid h1
  have H2 := Lib.hid h2
  have HB := Lib.hid hB
  have HZ := Lib.hid hz
  have hne : ((n : Int) != (n : Int)) = false := by simp
  clear h1 h2 hB hz
  go_enter Tryd.func25, Tryd.ntmps25
  go_wp2_with fail
  go_loopw [5] (fun i wr => ∃ k : Nat, k ≤ n ∧ i = .int .i64 k ∧ Below w.heap.size w wr) (fun i _ => n - (intOf i).toNat)
  case atStart => exact ⟨0, Nat.zero_le _, rfl, Below.refl _ _⟩
  case round =>
    obtain ⟨k, hk, rfl, hbel⟩ := hrel
    by_cases hlt : k < n
    · obtain ⟨b1, o1, rfl, hb1, hcs1⟩ := H1.out.2 (by omega)
      obtain ⟨b2, o2, rfl, hb2, hcs2⟩ := H2.out.2 (by omega)
      obtain ⟨v1, hv1, A3, c3, rfl, _, _, hy1⟩ := hcs1 k hlt
      obtain ⟨v2, hv2, A4, c4, rfl, _, _, hy2⟩ := hcs2 k hlt
      have hc1 := (hbel.cell (p := ⟨b1, o1 + k, none⟩) (Nat.lt_of_lt_of_le hb1 HB.out)).trans hv1
      have hc2 := (hbel.cell (p := ⟨b2, o2 + k, none⟩) (Nat.lt_of_lt_of_le hb2 HB.out)).trans hv2
      have hzk := HZ.out k (by have := H1.out.1; omega)
      have HY1 := Lib.hid (bytes_below hy1 (hbel.mono HB.out))
      have HY2 := Lib.hid (bytes_below hy2 (hbel.mono HB.out))
      have HBL := Lib.hid hbel
      obtain ⟨q, hq⟩ : ∃ q, (L.getD k []).length = q := ⟨_, rfl⟩
      rw [hq] at hc1 hc2 hzk HY1 HY2
      have hr1 := fun d os => cell_regrown hc1 d os
      have hr2 := fun d os => cell_regrown hc2 d os
      have hk0 : (0 : Int) ≤ (k : Int) := by omega
      have hk1 : (k : Int) < (n : Int) := by omega
      clear hcs1 hcs2 hv1 hv2 hy1 hy2 hc1 hc2 hbel hq
      go_wp2_with fail
      refine wp_region_quiet_below (by kernel_rfl) (by kernel_rfl) ?_
      iterate 8 go_big_quiet_step (fail)
      go_big_quiet_step ((refine same_in wr _ A3 A4 q c3 c4 B _ (by unfold maxLen; omega) HY1.out HY2.out (Nat.le_trans HB.out HBL.out.size)))
      repeat (go_big_quiet_step (fail))
      refine wpQuiet_nil ?_
      rintro w' ⟨p, rfl⟩
      have HB3 := Lib.hid (HBL.out.trans ((in_below wr p).mono HBL.out.size))
      go_wp2_with fail
      go_roundw
      case rel => exact ⟨k + 1, by omega, by go_num, HB3.out⟩
      case measure => simp [intOf]; omega
    · have HBL := Lib.hid hbel
      clear hbel
      go_wp2_with fail
      go_ret
      exact ⟨rfl, HBL.out⟩
end Go.Proofs.YtcojpiepbdcohaaDoor
