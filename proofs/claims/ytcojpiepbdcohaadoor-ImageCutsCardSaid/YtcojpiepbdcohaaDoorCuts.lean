/-
  THE WALK OF keepsakelaw05.ImageCuts.
-/
import Derived.Test.YtcojpiepbdcohaaDoorRefGlue
namespace Go.Proofs.YtcojpiepbdcohaaDoor
open Go.RowKit

theorem Lsts.mono {w : World} {B C n : Nat} {A : Option Addr} {L : List (List Int)} (h : Lsts w B A n L) (hBC : B ≤ C) : Lsts w C A n L := by
  refine ⟨h.1, fun hn => ?_⟩
  obtain ⟨b, o, e, hB, hc⟩ := h.2 hn
  refine ⟨b, o, e, Nat.lt_of_lt_of_le hB hBC, fun k hk => ?_⟩
  obtain ⟨v, hv, hy⟩ := hc k hk
  exact ⟨v, hv, hy.mono hBC⟩
theorem Lsts.next {w w' : World} {n : Nat} {A : Option Addr} {L : List (List Int)} (h : Lsts w w.heap.size A n L) (hb : Below w.heap.size w w') : Lsts w' w'.heap.size A n L := (h.below hb).mono hb.size
/-- lists, and a number: what Cut answers -/
def TellsL (w : World) (s : Nat) (LL : List (List Int)) (er : Int) (e : Ending) (w' : World) : Prop := ∃ A k, e = .returned (.tuple #[.slice A s k, .int .i64 er]) ∧ Below w.heap.size w w' ∧ Lsts w' w'.heap.size A s LL
/-- bytes, and a number: what Glue answers -/
def TellsB (w : World) (q : Nat) (bs : List Int) (er : Int) (e : Ending) (w' : World) : Prop := ∃ A k, e = .returned (.tuple #[.slice A q k, .int .i64 er]) ∧ Below w.heap.size w w' ∧ Bytes w' w'.heap.size A q bs

theorem cut_both (n : Nat) (l : List Int) (hl : l.length = n) (hin : ∀ v ∈ l, 0 ≤ v ∧ v ≤ 255) (hn : n ≤ 300) (size : Int) : ∃ (s : Nat) (LL : List (List Int)) (er : Int), s ≤ 300 ∧ (∀ k, k < LL.length → (LL.getD k []).length ≤ 100000) ∧
    (∀ A c B w, Bytes w B A n l → B ≤ w.heap.size → Calls Tryd.prog 21 #[.slice A n c, .int .i64 size] w (TellsL w s LL er)) ∧ (∀ A c B w, Bytes w B A n l → B ≤ w.heap.size → Calls Tryd.prog 22 #[.slice A n c, .int .i64 size] w (TellsL w s LL er)) := by
  cases hs : sizeOk size
  · have h0 : ∀ w : World, Lsts w w.heap.size none 0 [] := fun w => ⟨rfl, fun h => absurd h (by omega)⟩
    refine ⟨0, [], 1, by omega, fun k hk => absurd hk (by simp), fun A c B w _ _ => ?_, fun A c B w _ _ => ?_⟩
    · refine (cut_bad A n c size w hs).mono ?_
      rintro e w' ⟨rfl, rfl⟩
      exact ⟨none, 0, rfl, Below.refl _ _, h0 _⟩
    · refine (refCut_bad A n c size w hs).mono ?_
      rintro e w' ⟨rfl, rfl⟩
      exact ⟨none, 0, rfl, Below.refl _ _, h0 _⟩
  · have hb : 1 ≤ size ∧ size ≤ 4096 := by unfold sizeOk at hs; simpa using hs
    obtain ⟨z, rfl⟩ := Int.eq_ofNat_of_zero_le (show 0 ≤ size by omega)
    obtain ⟨b1, b2, b3⟩ := many_bounds n z (by omega) (by omega)
    have hX : (fill l (many n z * z)).length = many n z * z := fill_len _ _ (by omega)
    refine ⟨many n z, cutL (fill l (many n z * z)) z (many n z), 0, by omega, fun k hk => ?_, fun A c B w hy hB => ?_, fun A c B w hy hB => ?_⟩
    · rw [cutL_len] at hk
      rw [cutL_piece_len _ z _ k hk hX]
      omega
    · refine (cut_ok A n c B z l w hy hB (by omega) (by omega) (by omega)).mono ?_
      rintro e w' ⟨g, h, rfl, hc⟩
      exact ⟨_, _, rfl, hc.bel, hc.lsts hX (fill_in _ _ hin)⟩
    · refine (refCut_ok A n c B z (many n z) l w hy hB (by omega) (by omega) (by omega) rfl).mono ?_
      rintro e w' ⟨V, rfl, hc⟩
      obtain ⟨A', k, rfl, hL⟩ := hc.lsts (fill_in _ _ hin)
      exact ⟨A', k, rfl, hc.bel, hL⟩

theorem glue_both (n : Nat) (L : List (List Int)) (hin : ∀ x ∈ L, ∀ v ∈ x, 0 ≤ v ∧ v ≤ 255) (hn : n ≤ 30) (hL : L.length = n) (hz : ∀ k, k < L.length → (L.getD k []).length ≤ 50) (many : Int) (hm : (Lit.int .i64 many).wf = true) : ∃ (q : Nat) (bs : List Int) (er : Int), q ≤ 100000 ∧
    (∀ A c B w, Lsts w B A n L → B ≤ w.heap.size → Calls Tryd.prog 23 #[.slice A n c, .int .i64 many] w (TellsB w q bs er)) ∧ (∀ A c B w, Lsts w B A n L → B ≤ w.heap.size → Calls Tryd.prog 24 #[.slice A n c, .int .i64 many] w (TellsB w q bs er)) := by
  have hw : many ≤ 9223372036854775807 := by simp [Lit.wf, IntKind.min, IntKind.max, IntKind.signed, IntKind.bits] at hm; omega
  have hn50 : n * 50 ≤ 1500 := by omega
  have hfl := flat_bound L 50 hz L.length (Nat.le_refl _)
  rw [List.take_length] at hfl
  have hg : (glued L many.toNat).length ≤ 1500 := by
    unfold glued
    rw [List.length_take]
    omega
  have hgin := glued_in L many.toNat hin
  by_cases hbad : many < 0 ∨ ((glued L many.toNat).length : Int) < many
  · refine ⟨0, [], 1, by omega, fun A c B w hy hB => ?_, fun A c B w hy hB => ?_⟩
    · by_cases h0 : many < 0
      · refine (glue_neg A n c many w h0).mono ?_
        rintro e w' ⟨rfl, rfl⟩
        exact ⟨none, 0, rfl, Below.refl _ _, bytes_nil _ _⟩
      · obtain ⟨m, rfl⟩ := Int.eq_ofNat_of_zero_le (show 0 ≤ many by omega)
        refine (glue_few A n c B m 50 L w hy hB hz (by omega) (by omega) (by omega) (by simp at hbad ⊢; omega)).mono ?_
        rintro e w' ⟨rfl, hb⟩
        exact ⟨none, 0, rfl, hb, bytes_nil _ _⟩
    · refine (refGlue_any A n c B 50 many L w hy hB hz (by omega) (by omega) (by omega)).mono ?_
      rintro e w' ⟨hb, ⟨_, rfl⟩ | ⟨h, _⟩⟩
      · exact ⟨none, 0, rfl, hb, bytes_nil _ _⟩
      · exact absurd hbad h
  · obtain ⟨m, rfl⟩ := Int.eq_ofNat_of_zero_le (show 0 ≤ many by omega)
    rw [Int.toNat_natCast] at *
    have hlen : (glued L m).length = m := by have := glued_le L m; omega
    refine ⟨m, glued L m, 0, by omega, fun A c B w hy hB => ?_, fun A c B w hy hB => ?_⟩
    · refine (glue_ok A n c B m 50 L _ w hy hB hz (by omega) (by omega) (by omega) rfl hlen).mono ?_
      rintro e w' ⟨hb, A', c', rfl, h⟩
      exact ⟨A', c', rfl, hb, h⟩
    · refine (refGlue_any A n c B 50 m L w hy hB hz (by omega) (by omega) (by omega)).mono ?_
      rw [Int.toNat_natCast]
      rintro e w' ⟨hb, ⟨h, _⟩ | ⟨_, v, rfl, ho⟩⟩
      · exact absurd h hbad
      · obtain ⟨A', c', rfl, _, h⟩ := ho.bytes hgin
        rw [hlen] at h ⊢
        exact ⟨A', c', rfl, hb, h⟩
theorem cuts_long (w : World) (A : Option Addr) (n c : Nat) (size : Int) (A' : Option Addr) (n' c' : Nat) (many : Int) (m1 : n ≤ maxLen) (m2 : n' ≤ maxLen) (h : 300 < n ∨ 30 < n') (hT : Tab w) : Calls Tryd.prog 6 #[.slice A n c, .int .i64 size, .slice A' n' c', .int .i64 many] w fun e w' => e = .returned (.bool true) ∧ Below w.heap.size w w' := by
  unfold maxLen at m1 m2
  have HT := Lib.hid hT
  clear hT
  by_cases h1 : 300 < n
  · clear h
    go_enter Tryd.func6, Tryd.ntmps6
    go_wp2_with fail
    refine (awake_any w HT.out).mono ?_
    rintro e w1 ⟨rfl, hw1⟩
    have HO := Lib.hid hw1.bel
    clear hw1
    go_wp2_with fail
    go_ret
    exact ⟨rfl, HO.out⟩
  · have h2 : 30 < n' := by omega
    clear h
    go_enter Tryd.func6, Tryd.ntmps6
    go_wp2_with fail
    refine (awake_any w HT.out).mono ?_
    rintro e w1 ⟨rfl, hw1⟩
    have HO := Lib.hid hw1.bel
    clear hw1
    go_wp2_with fail
    go_ret
    exact ⟨rfl, HO.out⟩

theorem cuts_walk (w : World) (A : Option Addr) (n c : Nat) (size : Int) (A' : Option Addr) (n' c' : Nat) (many : Int) (l : List Int) (L : List (List Int)) (hl : Bytes w w.heap.size A n l) (hL : Lsts w w.heap.size A' n' L) (hm : (Lit.int .i64 many).wf = true) (hlen : ∀ k, k < L.length → (L.getD k []).length ≤ maxLen) (h1 : n ≤ 300) (h2 : n' ≤ 30) (hT : Tab w) : Calls Tryd.prog 6 #[.slice A n c, .int .i64 size, .slice A' n' c', .int .i64 many] w fun e w' => e = .returned (.bool true) ∧ Below w.heap.size w w' := by
  obtain ⟨s, LL, er, hs, hLL, hcut, hrcut⟩ := cut_both n l hl.1 hl.2.1 h1 size
  have HT := Lib.hid hT
  have HL := Lib.hid hl
  have HLS := Lib.hid hL
  have HLL := Lib.hid hLL
  have HC := Lib.hid hcut
  have HRC := Lib.hid hrcut
  have HM := Lib.hid hm
  have HLEN := Lib.hid hlen
  clear hT hl hL hLL hcut hrcut hm hlen
  go_enter Tryd.func6, Tryd.ntmps6
  go_wp2_with fail
  refine (awake_any w HT.out).mono ?_
  rintro e w1 ⟨rfl, hw1⟩
  have HO := Lib.hid hw1
  clear hw1
  go_wp2_with fail
  go_loop [10] (fun i => ∃ k : Nat, k ≤ n' ∧ i = .int .i64 k ∧ ∀ j, j < k → (L.getD j []).length ≤ 50) (fun i => n' - (intOf i).toNat)
  case atStart => exact ⟨0, Nat.zero_le _, rfl, fun j hj => absurd hj (by omega)⟩
  case round =>
    obtain ⟨k, hk, rfl, hall⟩ := hrel
    have HALL := Lib.hid hall
    clear hall
    have hLn := HLS.out.1
    by_cases hlt : k < n'
    · obtain ⟨b, o, rfl, hbB, hcs⟩ := HLS.out.2 (by omega)
      obtain ⟨v, hv, A2, c2, rfl, _, _, hy⟩ := hcs k hlt
      have hcell : w1.cell? ⟨b, o + k, none⟩ = some (.slice A2 (L.getD k []).length c2) := (HO.out.bel.cell (p := ⟨b, o + k, none⟩) hbB).trans hv
      have hmx := HLEN.out k (by omega)
      unfold maxLen at hmx
      obtain ⟨q, hq⟩ : ∃ q, (L.getD k []).length = q := ⟨_, rfl⟩
      rw [hq] at hcell hmx
      have HQ := Lib.hid hq
      have hk0 : (0 : Int) ≤ (k : Int) := by omega
      have hk1 : (k : Int) < (n' : Int) := by omega
      clear hcs hv hy hbB hq hLn
      by_cases hq50 : 50 < q
      · go_wp2_with fail
        go_ret
        exact ⟨rfl, HO.out.bel⟩
      · go_wp2_with fail
        go_round
        case rel =>
          refine ⟨k + 1, by omega, by go_num, fun j hj => ?_⟩
          by_cases hjk : j = k
          · rw [hjk, HQ.out]; omega
          · exact HALL.out j (by omega)
        case measure => simp [intOf]; omega
    · obtain rfl : k = n' := by omega
      obtain ⟨q, bs, er2, hq, hglue, hrglue⟩ := glue_both k L HLS.out.ok h2 hLn (fun j hj => HALL.out j (by omega)) many HM.out
      have HG := Lib.hid hglue
      have HRG := Lib.hid hrglue
      obtain ⟨v, hv⟩ : ∃ v, sect many size = v := ⟨_, rfl⟩
      have HV := Lib.hid hv
      have hvv : (v == v) = true := by simp
      have hee : (er == er) = true := by simp
      have hee2 : (er2 == er2) = true := by simp
      clear hglue hrglue hv hLn
      go_wp2_with fail
      refine (HC.out A c w.heap.size _ (bytes_below HL.out HO.out.bel) HO.out.bel.size).mono ?_
      rintro e w2 ⟨A3, k3, rfl, hb2, hl2⟩
      have HO2 := Lib.hid (HO.out.next hb2)
      have HL2 := Lib.hid hl2
      clear hb2 hl2
      go_wp2_with fail
      refine (HRC.out A c w.heap.size _ (bytes_below HL.out HO2.out.bel) HO2.out.bel.size).mono ?_
      rintro e w3 ⟨A4, k4, rfl, hb3, hl3⟩
      have HO3 := Lib.hid (HO2.out.next hb3)
      have HL3 := Lib.hid hl3
      have HB3 := Lib.hid hb3
      clear hb3 hl3
      go_wp2_with fail
      refine (HG.out A' c' w.heap.size _ (HLS.out.below HO3.out.bel) HO3.out.bel.size).mono ?_
      rintro e w4 ⟨A5, k5, rfl, hb4, hl4⟩
      have HO4 := Lib.hid (HO3.out.next hb4)
      have HL4 := Lib.hid hl4
      have HB4 := Lib.hid hb4
      clear hb4 hl4
      go_wp2_with fail
      refine (HRG.out A' c' w.heap.size _ (HLS.out.below HO4.out.bel) HO4.out.bel.size).mono ?_
      rintro e w5 ⟨A6, k6, rfl, hb5, hl5⟩
      have HO5 := Lib.hid (HO4.out.next hb5)
      have HL5 := Lib.hid hl5
      have HB5 := Lib.hid hb5
      clear hb5 hl5
      go_wp2_with fail
      refine (lists_refl A3 A4 s k3 k4 w5.heap.size LL w5 (((HL2.out.next HB3.out).next HB4.out).next HB5.out) ((HL3.out.next HB4.out).next HB5.out) (Nat.le_refl _) (by omega) HLL.out).mono ?_
      rintro e w6 ⟨rfl, hb6⟩
      have HO6 := Lib.hid (HO5.out.next hb6)
      have HB6 := Lib.hid hb6
      clear hb6
      go_wp2_with fail
      refine (same_refl A5 A6 q k5 k6 w6.heap.size bs w6 (by unfold maxLen; omega) (bytes_mono (bytes_below (bytes_mono (bytes_below HL4.out HB5.out) HB5.out.size) HB6.out) HB6.out.size) (bytes_mono (bytes_below HL5.out HB6.out) HB6.out.size) (Nat.le_refl _)).mono ?_
      rintro e w7 ⟨rfl, hb7⟩
      have HO7 := Lib.hid (HO6.out.next hb7)
      clear hb7
      go_wp2_with fail
      refine (sectors_any many size v _ HM.out HV.out).mono ?_
      rintro e w7 ⟨rfl, rfl⟩
      go_wp2_with fail
      refine (refSectors_any many size v _ HM.out HV.out).mono ?_
      rintro e w7 ⟨rfl, rfl⟩
      go_wp2_with fail
      go_ret
      exact ⟨rfl, HO7.out.bel⟩

theorem imageCuts_walk (w : World) (A : Option Addr) (n c : Nat) (zs : List Int) (hr : IsRow .u8 w A n c zs) (size : Int) (_ws : (Lit.int .i64 size).wf = true) (A' : Option Addr) (n' c' : Nat) (L : List (List Int)) (hL : Lsts w w.heap.size A' n' L ∧ n' ≤ maxLen ∧ ∀ k, k < L.length → (L.getD k []).length ≤ maxLen) (many : Int) (wm : (Lit.int .i64 many).wf = true) (hT : Tab w) : Calls Tryd.prog 6 #[.slice A n c, .int .i64 size, .slice A' n' c', .int .i64 many] w fun e w' => e = .returned (.bool true) ∧ Below w.heap.size w w' := by
  by_cases h : 300 < n ∨ 30 < n'
  · exact cuts_long w A n c size A' n' c' many hr.len_le.2 hL.2.1 h hT
  · exact cuts_walk w A n c size A' n' c' many _ L hr.bytes hL.1 wm hL.2.2 (by omega) (by omega) hT
end Go.Proofs.YtcojpiepbdcohaaDoor
