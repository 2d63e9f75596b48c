/-
  THE WALKS OF THE DOCUMENT'S Locked, Byte, Bytes.
-/
import Derived.Test.YtbpdajffkcgcgaaRLaw
namespace Go.Proofs.Ytbpdajffkcgcgaa
open Go.RowKit
set_option maxRecDepth 20000

theorem does_latch (s : Ram) (x : Opn) (h : x.k = 1) : (s.does x).op = (x.v == 165) := by
  unfold Ram.does
  rw [if_neg (by omega), if_pos h]
  rfl
theorem does_op (s : Ram) (x : Opn) (h : x.k ≠ 1) : (s.does x).op = s.op := by
  unfold Ram.does
  split
  · exact Ram.write_op _ _ _
  · first | rfl | rw [if_neg h]
theorem does_yes (s : Ram) (x : Opn) (h : x.k = 0) (ho : s.op = true) : (s.does x).data = s.data.set (s.at_ x.a) x.v := by
  unfold Ram.does Ram.write
  rw [if_pos h, if_pos ho]
theorem does_no (s : Ram) (x : Opn) (h : x.k ≠ 0 ∨ s.op = false) : (s.does x).data = s.data := by
  unfold Ram.does Ram.write
  rcases h with h | h
  · rw [if_neg h]
    split <;> rfl
  · rw [h]
    split
    · rfl
    · split <;> rfl
theorem getD_set_eq {l : List Int} {i : Nat} (x : Int) (h : i < l.length) : (l.set i x).getD i 0 = x := by simp [List.getD, h]
theorem getD_set_ne {l : List Int} {i j : Nat} (x : Int) (h : i ≠ j) : (l.set i x).getD j 0 = l.getD j 0 := by simp [List.getD, h]
set_option maxRecDepth 100000 in
set_option maxHeartbeats 4000000 in
theorem refLocked_any (s : Ram) (A : Option Addr) (n c B : Nat) (l : List Opn) (w : World) (hs : s.op = false) (hl : Many opE w B A n l) (hn : n ≤ 1000000) :
    Calls Try.prog 11 #[.slice A n c] w fun e w' => e = .returned (.bool (!(s.plays l).op)) ∧ w = w' := by
  have HL := Lib.hid hl
  have HLL := Lib.hid hl.1
  have HS := Lib.hid hs
  clear hl hs
  go_enter Try.func11, Try.ntmps11
  go_wp2_with fail
  go_loop [3] (fun i => ∃ k : Nat, k ≤ n ∧ i = .int .i64 ((k : Int) - 1) ∧ (s.plays l).op = (s.plays (l.take k)).op) (fun i => (intOf i + 1).toNat)
  case atStart => exact ⟨n, Nat.le_refl _, rfl, by rw [List.take_of_length_le (Nat.le_of_eq HLL.out)]⟩
  case round =>
    obtain ⟨k, hk, rfl, hz⟩ := hrel
    have Z := Lib.hid hz
    clear hz
    by_cases h0 : 0 < k
    · obtain ⟨k, rfl⟩ : ∃ m, k = m + 1 := ⟨k - 1, by omega⟩
      obtain ⟨x, hx⟩ : ∃ x, l[k]? = some x := ⟨l[k]'(by have := HLL.out; omega), by simp [show k < l.length by have := HLL.out; omega]⟩
      have HX := Lib.hid (plays_take s l k x hx)
      obtain ⟨b, o, rfl, hc⟩ := HL.out.cell (Below.refl B w) k x hx
      have c0 := hc 0 _ rfl
      have c2 := hc 2 _ rfl
      simp only [opE, Nat.add_zero] at c0 c2
      have HD1 := Lib.hid (does_latch (s.plays (l.take k)) x)
      have HD2 := Lib.hid (does_op (s.plays (l.take k)) x)
      rw [show (((k + 1 : Nat) : Int) - 1) = (k : Int) by omega]
      have hk0 : (0 : Int) ≤ (k : Int) := by omega
      have hkn : (k : Int) < (n : Int) := by omega
      clear hc hx
      generalize x.v = xv at *
      generalize x.k = xk at *
      by_cases h1 : xk = 1
      · subst h1
        go_wp2_with fail
        go_ret
        rw [Z.out, HX.out, HD1.out (by trivial)]
        exact ⟨rfl, rfl⟩
      · have u1 : (xk == 1) = false := by simp [h1]
        go_wp2_with fail
        go_round
        case rel => exact ⟨k, by omega, by go_num, by rw [Z.out, HX.out, HD2.out h1]⟩
        case measure => simp [intOf] <;> omega
    · obtain rfl : k = 0 := by omega
      have HR := Lib.hid (show (s.plays l).op = false by rw [Z.out]; exact HS.out)
      go_wp2_with fail
      go_ret
      rw [HR.out]
      exact ⟨rfl, rfl⟩
set_option maxRecDepth 100000 in
set_option maxHeartbeats 4000000 in
theorem refByte_any (s : Ram) (A D : Option Addr) (n c m dc j B : Nat) (l : List Opn) (w : World) (hok : s.Ok) (hs : s.op = false) (hl : Many opE w B A n l) (hd : Nums .u8 w B D m s.data) (_hB : B ≤ w.heap.size) (hn : n ≤ 1000000) (hc : n ≤ c) (hj : j < m) :
    Calls Try.prog 16 #[.slice D m dc, .slice A n c, .int .i64 j] w fun e w' => e = .returned (.int .u8 ((s.plays l).data.getD j 0)) ∧ w = w' := by
  have HL := Lib.hid hl
  have HLL := Lib.hid hl.1
  have HS := Lib.hid hs
  have HDM := Lib.hid hd.1
  have HO := Lib.hid hok
  obtain ⟨bd, od, rfl, q0⟩ := hd.cell (Below.refl B w) j hj
  obtain ⟨y0, hy0⟩ : ∃ y, s.data.getD j 0 = y := ⟨_, rfl⟩
  rw [hy0] at q0
  have HY := Lib.hid hy0
  clear hy0
  have hm9 : m ≤ 8192 := by have := hok.len; have := hd.1; omega
  have hjm : (j : Int) < (m : Int) := by omega
  have hj0 : (0 : Int) ≤ (j : Int) := by omega
  have hmz : (m : Int) ≠ 0 := by omega
  have hmn : ¬ m = 0 := by omega
  clear hl hs hd hok
  go_enter Try.func16, Try.ntmps16
  go_wp2_with fail
  go_loop [7, 8] (fun i _ => ∃ k : Nat, k ≤ n ∧ i = .int .i64 ((k : Int) - 1) ∧ (s.plays l).data.getD j 0 = (s.plays (l.take k)).data.getD j 0) (fun i _ => (intOf i + 1).toNat)
  case atStart => exact ⟨n, Nat.le_refl _, rfl, by rw [List.take_of_length_le (Nat.le_of_eq HLL.out)]⟩
  case round =>
    obtain ⟨k, hk, rfl, hz⟩ := hrel
    have Z := Lib.hid hz
    clear hz
    by_cases h0 : 0 < k
    · obtain ⟨k, rfl⟩ : ∃ m, k = m + 1 := ⟨k - 1, by omega⟩
      obtain ⟨x, hx⟩ : ∃ x, l[k]? = some x := ⟨l[k]'(by have := HLL.out; omega), by simp [show k < l.length by have := HLL.out; omega]⟩
      have HX := Lib.hid (plays_take s l k x hx)
      have HT := Lib.hid (HL.out.take k (by omega))
      obtain ⟨b, o, rfl, hc'⟩ := HL.out.cell (Below.refl B w) k x hx
      have c0 := hc' 0 _ rfl
      have c1 := hc' 1 _ rfl
      have c2 := hc' 2 _ rfl
      simp only [opE, Nat.add_zero] at c0 c1 c2
      have HD1 := Lib.hid (does_yes (s.plays (l.take k)) x)
      have HD2 := Lib.hid (does_no (s.plays (l.take k)) x)
      have hml : (s.plays (l.take k)).data.length = m := by rw [plays_len]; exact HDM.out
      have HML := Lib.hid hml
      rw [show (((k + 1 : Nat) : Int) - 1) = (k : Int) by omega]
      have hk0 : (0 : Int) ≤ (k : Int) := by omega
      have hkn : (k : Int) < (n : Int) := by omega
      have hkc : k ≤ c := by omega
      have hxa := x.ha
      obtain ⟨t, ht⟩ : ∃ t : Nat, max 0 x.a = t := ⟨(max 0 x.a).toNat, by omega⟩
      have htb : (t : Int) ≤ 9223372036854775807 := by omega
      have ht0 : (0 : Int) ≤ (t : Int) := by omega
      obtain ⟨g, hg⟩ : ∃ g, t % m = g := ⟨_, rfl⟩
      have hgm : g < m := by rw [← hg]; exact Nat.mod_lt _ (by omega)
      have HA := Lib.hid (show (s.plays (l.take k)).at_ x.a = g by unfold Ram.at_; rw [hml, Int.max_comm, ht]; exact hg)
      have e1 : (t : Int).tmod (m : Int) = (g : Int) := by rw [Int.tmod_eq_emod_of_nonneg ht0, ← hg]; omega
      have e2 : IntKind.i64.wrap (g : Int) = (g : Int) := IntWalk.i64_in _ (by omega)
      have e0 : IntKind.i64.wrap ((t : Int).tmod (m : Int)) = (g : Int) := by rw [e1]; exact e2
      clear hc' hx hml hg
      generalize x.v = xv at *
      generalize x.a = xa at *
      generalize x.k = xk at *
      go_wp2_with fail
      refine (refLocked_any s _ k c B _ w HS.out HT.out (by omega)).mono ?_
      rintro e w1 ⟨rfl, rfl⟩
      by_cases h0 : xk = 0
      · subst h0
        by_cases hgj : g = j
        · subst hgj
          have u1 : ((g : Int) == (g : Int)) = true := by simp
          by_cases ho : (s.plays (l.take k)).op = true
          · have HR := Lib.hid (show (s.plays l).data.getD g 0 = xv by rw [Z.out, HX.out, HD1.out (by trivial) ho, HA.out]; exact getD_set_eq _ (by rw [HML.out]; exact hgm))
            rw [ho]
            clear ho
            go_wp2_with fail
            go_ret
            rw [HR.out]
            exact ⟨rfl, rfl⟩
          · have ho' : (s.plays (l.take k)).op = false := by simpa using ho
            have HR := Lib.hid (show (s.plays l).data.getD g 0 = (s.plays (l.take k)).data.getD g 0 by rw [Z.out, HX.out, HD2.out (.inr ho')])
            rw [ho']
            clear ho ho'
            go_wp2_with fail
            go_round
            case rel => exact ⟨k, by omega, by go_num, HR.out⟩
            case measure => simp [intOf] <;> omega
        · have u1 : ((g : Int) == (j : Int)) = false := beq_eq_false_iff_ne.2 (fun e => hgj (by omega))
          have HR := Lib.hid (show (s.plays l).data.getD j 0 = (s.plays (l.take k)).data.getD j 0 by
            by_cases ho : (s.plays (l.take k)).op = true
            · rw [Z.out, HX.out, HD1.out (by trivial) ho, HA.out, getD_set_ne _ hgj]
            · rw [Z.out, HX.out, HD2.out (.inr (by simpa using ho))])
          go_wp2_with fail
          go_round
          case rel => exact ⟨k, by omega, by go_num, HR.out⟩
          case measure => simp [intOf] <;> omega
      · have u0 : (xk == 0) = false := by simp [h0]
        have HR := Lib.hid (show (s.plays l).data.getD j 0 = (s.plays (l.take k)).data.getD j 0 by rw [Z.out, HX.out, HD2.out (.inl h0)])
        go_wp2_with fail
        go_round
        case rel => exact ⟨k, by omega, by go_num, HR.out⟩
        case measure => simp [intOf] <;> omega
    · obtain rfl : k = 0 := by omega
      have HR := Lib.hid (show (s.plays l).data.getD j 0 = y0 by rw [Z.out]; exact HY.out)
      go_wp2_with fail
      go_ret
      exact ⟨by show Ending.returned (.int .u8 y0) = .returned (.int .u8 ((s.plays l).data.getD j 0)); rw [HR.out], rfl⟩
theorem take_snoc {l : List Int} {i : Nat} (h : i < l.length) : l.take (i + 1) = l.take i ++ [l.getD i 0] := by
  rw [List.take_add_one, List.getElem?_eq_getElem h]
  simp [List.getD, h]
set_option maxRecDepth 100000 in
set_option maxHeartbeats 4000000 in
theorem refBytes_any (s : Ram) (A D : Option Addr) (n c m dc B : Nat) (l : List Opn) (w : World) (hok : s.Ok) (hs : s.op = false) (hl : Many opE w B A n l) (hd : Nums .u8 w B D m s.data) (hB : B ≤ w.heap.size) (hn : n ≤ 1000000) (hc : n ≤ c) :
    Calls Try.prog 19 #[.slice D m dc, .slice A n c] w fun e w' => ∃ v, e = .returned v ∧ OwnK .u8 5 w.heap.size w' v (s.plays l).data ∧ Below w.heap.size w w' := by
  have HL := Lib.hid hl
  have HD := Lib.hid hd
  have HS := Lib.hid hs
  have HO := Lib.hid hok
  have HPL := Lib.hid (show (s.plays l).data.length = m by rw [plays_len]; exact hd.1)
  have HPB := Lib.hid (plays_ok l hok).byte
  have hm9 : m ≤ 8192 := by have := hok.len; have := hd.1; omega
  clear hl hs hd hok
  go_enter Try.func19, Try.ntmps19
  go_wp2_with fail
  go_loopw [5, 6] (fun v i wr => ∃ j : Nat, j ≤ m ∧ i = .int .i64 j ∧ OwnK .u8 5 w.heap.size wr v ((s.plays l).data.take j) ∧ Below w.heap.size w wr) (fun _ i _ => m - (intOf i).toNat)
  case atStart => exact ⟨0, Nat.zero_le _, rfl, OwnK.nil _ _ _ _, Below.refl _ _⟩
  case round =>
    obtain ⟨j, hj, rfl, hown, hbel⟩ := hrel
    have HOW := Lib.hid hown
    have HBE := Lib.hid hbel
    clear hown hbel
    by_cases hlt : j < m
    · have hj0 : (0 : Int) ≤ (j : Int) := by omega
      have hj1 : (j : Int) < (m : Int) := by omega
      have HC := Lib.hid (refByte_any s A D n c m dc j B l wr HO.out HS.out (HL.out.below (HBE.out.mono hB)) (HD.out.below (HBE.out.mono hB)) (Nat.le_trans hB HBE.out.size) hn hc hlt)
      have HXB := Lib.hid (Ram.getD_in HPB.out j)
      have HT := Lib.hid (take_snoc (show j < (s.plays l).data.length by rw [HPL.out]; exact hlt))
      generalize (s.plays l).data.getD j 0 = y at *
      obtain ⟨v', w', hrun, ho', hb'⟩ := append_one elemB wr w.heap.size 22 _ _ HOW.out y (byte_wf HXB.out) (by rw [List.length_take]; omega) HBE.out.size
      have HRUN := Lib.hid hrun
      have HOW2 := Lib.hid ho'
      have HB2 := Lib.hid hb'
      clear hrun ho' hb'
      go_wp2_with fail
      refine HC.out.mono ?_
      rintro e w1 ⟨rfl, rfl⟩
      go_wp2_with (at_builtin; refine Lib.wpList_append_run _ rfl _ _ _ _ rfl _ _ rfl rfl _ _ HRUN.out ?_)
      go_roundw
      case rel => exact ⟨j + 1, by omega, by go_num, by rw [HT.out]; exact HOW2.out, HBE.out.trans HB2.out⟩
      case measure => simp [intOf]; omega
    · obtain rfl : j = m := by omega
      have HR := Lib.hid (show (s.plays l).data.take j = (s.plays l).data by rw [← HPL.out]; exact List.take_of_length_le (Nat.le_refl _))
      go_wp2_with fail
      go_ret
      rw [HR.out] at HOW
      exact ⟨_, rfl, HOW.out, HBE.out⟩
end Go.Proofs.Ytbpdajffkcgcgaa
