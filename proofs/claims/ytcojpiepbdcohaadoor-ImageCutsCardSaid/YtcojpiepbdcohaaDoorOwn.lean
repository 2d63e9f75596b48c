/-
  THE WALK OF keepsakelaw05.ImageOwn.
-/
import Derived.Test.YtcojpiepbdcohaaDoorLists
import Derived.Test.YtcojpiepbdcohaaDoorNeeds
namespace Go.Proofs.YtcojpiepbdcohaaDoor
open Go.RowKit

theorem same_in (W : World) (p : Regrown) (A1 A2 : Option Addr) (n c1 c2 B : Nat) (l : List Int) (hn : n ≤ maxLen) (ha : Bytes W B A1 n l) (hb : Bytes W B A2 n l) (hB : B ≤ W.heap.size) :
    Calls Tryd.prog 13 #[.slice A1 n c1, .slice A2 n c2] (In W p) fun e w'' => e = .returned (.bool true) ∧ ∃ q : Regrown, w'' = In W q := by
  apply Calls.regrown_of
  exact same_refl A1 A2 n c1 c2 B l _ hn (bytes_below ha ((in_below W p).mono hB)) (bytes_below hb ((in_below W p).mono hB)) (Nat.le_trans hB (in_below W p).size)

/-- append of a byte behind a piece that is full: new memory -/
theorem append_full (W : World) (h n ty : Nat) (X : List Int) (x : Int) (hR : Row W h X) (hn : n ≤ X.length) (hn1 : n ≤ 1000) :
    ∃ A c w', (Builtin.append_ #[25, 25] ty #[.slice (some ⟨h, 0, none⟩) n n, .slice (some ⟨W.heap.size, 0, none⟩) 1 1]).run Tryd.prog (W.alloc (.cells #[.int .u8 x] 5)) = .ok (.slice A (n + 1) c) w' ∧ Below W.heap.size W w' := by
  obtain ⟨i0, hi, hz0, hz1, hz2⟩ := info_parts info5
  have hlt := hR.lt
  have hR' : Row (W.alloc (.cells #[.int .u8 x] 5)) h X := hR.below (below_box W _) hlt
  have hr := run_append_grow (P := Tryd.prog) (W.alloc (.cells #[.int .u8 x] 5)) 25 ty 5 i0 _ Tryd.underlying25 hi hz0 ⟨h, 0, none⟩ n n ((X.take n).map (Value.int .u8)) (by rw [hz1]; simp; omega) (by
      intro j v hj
      rw [Go.WideShapes.add_plain, Nat.zero_add]
      have hj' : j < (X.take n).length := by have := (List.getElem?_eq_some_iff.1 hj).1; simpa using this
      have hjn : j < n := by simp at hj'; omega
      have hjX : j < X.length := by omega
      rw [(hR'.cell j hjX).1]
      simp [hjn, hjX] at hj
      simp [List.getD, hjX, hj])
    ⟨W.heap.size, 0, none⟩ 1 1 [.int .u8 x] (by rw [hz1]; rfl) (cell_one_new W (.int .u8 x) 5) (by omega) (by omega) (growslice_fits (by omega) (by rw [hz2]; omega))
  refine ⟨_, _, _, hr, ?_⟩
  have h1 : Below W.heap.size W (W.alloc (.cells #[.int .u8 x] 5)).drew := (below_box W _).drew
  exact h1.alloc (by simp) _

/-- what is laid over the first bytes -/
def over (X : List Int) (x : Int) (k : Nat) : List Int := List.replicate k x ++ X.drop k
theorem over_len (X : List Int) (x : Int) (k : Nat) (h : k ≤ X.length) : (over X x k).length = X.length := by simp [over]; omega
theorem over_succ (X : List Int) (x : Int) (k : Nat) (h : k < X.length) : (over X x k).set k x = over X x (k + 1) := by
  unfold over
  rw [List.set_append_right _ _ (by simp), List.length_replicate, Nat.sub_self, List.drop_eq_getElem_cons h, List.set_cons_zero, List.replicate_succ', List.append_assoc]
  rfl
theorem over_drop (X : List Int) (x : Int) (k j : Nat) (h : k ≤ j) : (over X x k).drop j = X.drop j := by
  unfold over
  rw [List.drop_append, List.length_replicate, List.drop_of_length_le (by simpa using h), List.drop_drop, List.nil_append]
  congr 1
  omega
theorem over_in (X : List Int) (x : Int) (k : Nat) (hX : ∀ v ∈ X, 0 ≤ v ∧ v ≤ 255) (hx : 0 ≤ x ∧ x ≤ 255) : ∀ v ∈ over X x k, 0 ≤ v ∧ v ≤ 255 := by
  intro v hv
  rcases List.mem_append.1 hv with h | h
  · rw [List.eq_of_mem_replicate h]; exact hx
  · exact hX v (List.mem_of_mem_drop h)
theorem own_short (w : World) (A : Option Addr) (n c : Nat) (hn : n < 2) (x y : Int) (hT : Tab w) :
    Calls Tryd.prog 8 #[.slice A n c, .int .u8 x, .int .u8 y] w fun e w' => e = .returned (.bool true) ∧ Below w.heap.size w w' := by
  have HT := Lib.hid hT
  clear hT
  go_enter Tryd.func8, Tryd.ntmps8
  go_wp2_with fail
  refine (awake_any w HT.out).mono ?_
  rintro e w1 ⟨rfl, hw1⟩
  have HO := Lib.hid hw1.bel
  clear hw1
  go_wp2_with fail
  go_ret
  exact ⟨rfl, HO.out⟩
theorem own_long (w : World) (A : Option Addr) (n c : Nat) (hn : 300 < n) (h63 : n ≤ maxLen) (x y : Int) (hT : Tab w) :
    Calls Tryd.prog 8 #[.slice A n c, .int .u8 x, .int .u8 y] w fun e w' => e = .returned (.bool true) ∧ Below w.heap.size w w' := by
  unfold maxLen at h63
  have HT := Lib.hid hT
  clear hT
  go_enter Tryd.func8, Tryd.ntmps8
  go_wp2_with fail
  refine (awake_any w HT.out).mono ?_
  rintro e w1 ⟨rfl, hw1⟩
  have HO := Lib.hid hw1.bel
  clear hw1
  go_wp2_with fail
  go_ret
  exact ⟨rfl, HO.out⟩

/-- what was handed in, and both lists of pieces -/
structure Both (w w5 : World) (g h g' h' s z n : Nat) (A : Option Addr) (A2 : Option Addr) (l X : List Int) : Prop where
  on : On w w5
  l0 : Bytes w5 w.heap.size A n l
  l2 : Bytes w5 h A2 n l
  row' : Row w5 h' X
  val : Vals w5 g 25 (pcs h z s s)
  val' : Vals w5 g' 25 (pcs h' z s s)
  new : w.heap.size ≤ h
  ne1 : g ≠ h
  ne2 : h' ≠ h
  ne3 : g' ≠ h
theorem Both.only {w w5 w6 : World} {g h g' h' s z n : Nat} {A A2 : Option Addr} {l X : List Int} (H : Both w w5 g h g' h' s z n A A2 l X) (ho : Only h w5 w6) (hp : 0 < h) : Both w w6 g h g' h' s z n A A2 l X :=
  ⟨H.on.only ho H.new hp, bytes_only H.l0 ho H.new, bytes_only H.l2 ho (Nat.le_refl _), H.row'.only ho H.ne2, H.val.only ho H.ne1, H.val'.only ho H.ne3, H.new, H.ne1, H.ne2, H.ne3⟩
theorem Both.below {w w5 w6 : World} {g h g' h' s z n : Nat} {A A2 : Option Addr} {l X : List Int} (H : Both w w5 g h g' h' s z n A A2 l X) (ho : Below w5.heap.size w5 w6) (hh : h ≤ w5.heap.size) : Both w w6 g h g' h' s z n A A2 l X :=
  ⟨H.on.next ho, bytes_below H.l0 (ho.mono H.on.bel.size), bytes_below H.l2 (ho.mono hh), H.row'.below ho H.row'.lt, H.val.below ho H.val.lt, H.val'.below ho H.val'.lt, H.new, H.ne1, H.ne2, H.ne3⟩
theorem both_start {w w2 w3 w4 : World} {g h g' h' s z n : Nat} {A A2 : Option Addr} {l X : List Int} (h2 : On w w2) (hl : Bytes w w.heap.size A n l) (hl2 : Bytes w2 w2.heap.size A2 n l) (c1 : Cuts w2 w3 g h s z X) (c2 : Cuts w3 w4 g' h' s z X) : Both w w4 g h g' h' s z n A A2 l X ∧ Row w4 h X := by
  have hg := c1.val.lt
  have hh := c1.row.lt
  have n1 := c2.new
  have n2 := c2.new'
  have n3 := c1.new'
  have n4 := h2.bel.size
  refine ⟨⟨(h2.next c1.bel).next c2.bel, bytes_below hl ((h2.next c1.bel).next c2.bel).bel, ?_, c2.row, c1.val.below c2.bel hg, c2.val, by omega, c1.ne, by omega, by omega⟩, c1.row.below c2.bel hh⟩
  exact bytes_mono (bytes_below (bytes_below hl2 c1.bel) (c2.bel.mono c1.bel.size)) n3
theorem own_walk (w : World) (A : Option Addr) (n c : Nat) (l : List Int) (hl : Bytes w w.heap.size A n l) (hn2 : 2 ≤ n) (hn : n ≤ 300) (x : Nat) (hx : x ≤ 255) (y : Int) (hy : 0 ≤ y ∧ y ≤ 255) (hT : Tab w) :
    Calls Tryd.prog 8 #[.slice A n c, .int .u8 x, .int .u8 y] w fun e w' => e = .returned (.bool true) ∧ Below w.heap.size w w' := by
  obtain ⟨z, hz⟩ : ∃ z, 1 + x % (n - 1) = z := ⟨_, rfl⟩
  have hmod := Nat.mod_lt x (show 0 < n - 1 by omega)
  have hcast : (x : Int) % ((n : Int) - 1) = (z - 1 : Nat) := by
    rw [show (n : Int) - 1 = ((n - 1 : Nat) : Int) by omega]
    omega
  have hz1 : (x : Int).tmod ((n : Int) - 1) = (z - 1 : Nat) := by rw [Int.tmod_eq_emod_of_nonneg (by omega)]; exact hcast
  have h1z : (1 : Int) + (z - 1 : Nat) = (z : Nat) := by omega
  have hzb : 1 ≤ z := by omega
  have hzb2 : z ≤ n - 1 := by omega
  have hne0 : ¬ ((n : Int) - 1 = 0) := by omega
  obtain ⟨s, hs⟩ : ∃ s, many n z = s := ⟨_, rfl⟩
  obtain ⟨b1, b2, b3⟩ := many_bounds n z hzb (by omega)
  rw [hs] at b1 b2 b3
  have hs2 : 2 ≤ s := by
    rcases Nat.lt_or_ge s 2 with h | h
    · have : s * z ≤ 1 * z := Nat.mul_le_mul_right _ (by omega)
      omega
    · exact h
  have HS := Lib.hid hs
  have HL := Lib.hid hl
  have HT := Lib.hid hT
  have hll := hl.1
  have HF := Lib.hid (fill_len l (s * z) (by omega))
  have HFI := Lib.hid (fill_in l (s * z) hl.2.1)
  have HLI := Lib.hid hl.2.1
  have HY := Lib.hid hy
  have HLL := Lib.hid hll
  clear hz hs hl hT hll hmod hcast hy
  go_enter Tryd.func8, Tryd.ntmps8
  go_wp2_with fail
  refine (awake_any w HT.out).mono ?_
  rintro e w1 ⟨rfl, hw1⟩
  have HO := Lib.hid hw1
  have hl1 := bytes_below (bytes_below HL.out hw1.bel) ((below_box w1 (.cells #[] 5)).mono hw1.bel.size)
  obtain ⟨v', w2, hr, hown, hb2⟩ := append_own (w1.alloc (.cells #[] 5)) w1.heap.size 25 _ [] (own_none w1.heap.size w1 _ (Nat.le_refl _) rfl) A n c _ l hl1 (by simp; omega) (by simp)
  rw [List.nil_append] at hown
  obtain ⟨A2, c2, rfl, _, hy2⟩ := hown.bytes HLI.out
  rw [HLL.out] at hr hy2
  have HR := Lib.hid hr
  have HO2 := Lib.hid (HO.out.next ((below_box w1 (.cells #[] 5)).trans hb2))
  have HY2 := Lib.hid hy2
  clear hw1 hl1 hr hown hb2 hy2
  rw [HLL.out] at *
  go_wp2_with (at_builtin; refine Lib.wpList_append_run _ rfl _ _ _ _ rfl _ _ rfl rfl _ _ HR.out ?_)
  refine (cut_at A2 n c2 w2.heap.size z s l _ HY2.out (Nat.le_refl _) hzb (by omega) (by omega) HS.out).mono ?_
  rintro e w3 ⟨g, h, rfl, hc1⟩
  have HC1 := Lib.hid hc1
  clear hc1
  go_wp2_with fail
  refine (cut_at A2 n c2 w2.heap.size z s l _ (bytes_below HY2.out HC1.out.bel) HC1.out.bel.size hzb (by omega) (by omega) HS.out).mono ?_
  rintro e w4 ⟨g', h', rfl, hc2⟩
  obtain ⟨hb4, hr4⟩ := both_start HO2.out HL.out HY2.out HC1.out hc2
  obtain ⟨X, hX⟩ : ∃ X, fill l (s * z) = X := ⟨_, rfl⟩
  rw [hX] at hb4 hr4 HF HFI
  have hX1 : z ≤ X.length := by rw [HF.out]; omega
  have hcg : ∀ k, k < s → w4.cell? ⟨g, k, none⟩ = some (.slice (some ⟨h, k * z, none⟩) z z) := fun k hk => by rw [hb4.val.cell, pcs_get h z s s k hk]
  have hcg0 := hcg 0 (by omega)
  rw [Nat.zero_mul] at hcg0
  obtain ⟨A5, c5, w5, hr5, hb5⟩ := append_full w4 h z 25 X y hr4 hX1 (by omega)
  have HR5 := Lib.hid hr5
  have hhl := hr4.lt
  have HB5 := Lib.hid (hb4.below hb5 (by omega))
  have HR5' := Lib.hid (hr4.below hb5 hhl)
  have HX := Lib.hid hX
  have hcg5 : w5.cell? ⟨g, 0, none⟩ = some (.slice (some ⟨h, 0, none⟩) z z) := (hb5.cell (p := ⟨g, 0, none⟩) hb4.val.lt).trans hcg0
  have HH := Lib.hid (show 0 < h by have := HB5.out.new; have := tab_pos HT.out; omega)
  clear hc2 hb4 hr4 hX hcg hr5 hb5 hhl HC1 HY2 HO2 HR HO
  go_wp2_with (at_builtin; refine Lib.wpList_append_run _ rfl _ _ _ _ rfl _ _ rfl rfl _ _ HR5.out ?_)
  go_loopw [15] (fun i wr => ∃ k : Nat, k ≤ z ∧ i = .int .i64 k ∧ Both w wr g h g' h' s z n A A2 l X ∧ Row wr h (over X y k)) (fun i _ => z - (intOf i).toNat)
  case atStart => exact ⟨0, Nat.zero_le _, rfl, HB5.out, HR5'.out⟩
  case round =>
    obtain ⟨k, hk, rfl, hb, hr⟩ := hrel
    have hcg : wr.cell? ⟨g, 0, none⟩ = some (.slice (some ⟨h, 0, none⟩) z z) := by rw [hb.val.cell, pcs_get h z s s 0 (by omega), Nat.zero_mul]
    by_cases hlt : k < z
    · obtain ⟨hc, hf⟩ := hr.cell k (by rw [over_len X y k (by omega)]; omega)
      have HNR := Lib.hid (show Row (wr.setCell ⟨h, k, none⟩ (.int .u8 y)) h (over X y (k + 1)) by rw [← over_succ X y k (by omega)]; exact hr.set_ k y)
      have HNB := Lib.hid (hb.only ((Only.refl h wr).set_ k (.int .u8 y)) HH.out)
      have hk0 : (0 : Int) ≤ (k : Int) := by omega
      have hk1 : (k : Int) < (z : Int) := by omega
      clear hb hr
      go_wp2_with fail
      go_roundw
      case rel => exact ⟨k + 1, by omega, by go_num, HNB.out, HNR.out⟩
      case measure => simp [intOf]; omega
    · obtain rfl : k = z := by omega
      have HNR := Lib.hid hr
      have HNB := Lib.hid hb
      clear hb hr hlt
      go_wp2_with fail
      obtain ⟨V, hV⟩ : ∃ V, V = wr := ⟨_, rfl⟩
      rw [← hV] at HNR HNB ⊢
      clear hV hcg
      go_loopw [16] (fun i wr => ∃ j : Nat, 1 ≤ j ∧ j ≤ s ∧ i = .int .i64 j ∧ Both w wr g h g' h' s k n A A2 l X ∧ Row wr h (over X y k)) (fun i _ => s - (intOf i).toNat)
      case atStart => exact ⟨1, by omega, by omega, rfl, HNB.out, HNR.out⟩
      case round =>
        obtain ⟨j, hj1, hj, rfl, hb, hr⟩ := hrel
        by_cases hlt : j < s
        · have hc1 : wr.cell? ⟨g, j, none⟩ = some (.slice (some ⟨h, j * k, none⟩) k k) := by rw [hb.val.cell, pcs_get h k s s j hlt]
          have hc2 : wr.cell? ⟨g', j, none⟩ = some (.slice (some ⟨h', j * k, none⟩) k k) := by rw [hb.val'.cell, pcs_get h' k s s j hlt]
          have hjk : (j + 1) * k ≤ s * k := Nat.mul_le_mul_right _ hlt
          rw [Nat.add_mul, Nat.one_mul] at hjk
          have hkj : k ≤ j * k := by have : 1 * k ≤ j * k := Nat.mul_le_mul_right _ hj1; omega
          have P2 := Lib.hid (hb.row'.part HFI.out (j * k) k (by rw [HF.out]; exact hjk))
          have P1 := Lib.hid (show Bytes wr wr.heap.size (some ⟨h, j * k, none⟩) k ((X.drop (j * k)).take k) by
            have := hr.part (over_in X y k HFI.out HY.out) (j * k) k (by rw [over_len X y k hX1, HF.out]; exact hjk)
            rwa [over_drop X y k _ hkj] at this)
          have HNB2 := Lib.hid hb
          have HNR2 := Lib.hid hr
          obtain ⟨a, ha⟩ : ∃ a, j * k = a := ⟨_, rfl⟩
          rw [ha] at hc1 hc2 P1 P2
          have hr1 := fun d os => cell_regrown hc1 d os
          have hr2 := fun d os => cell_regrown hc2 d os
          have hj0 : (0 : Int) ≤ (j : Int) := by omega
          have hj2 : (j : Int) < (s : Int) := by omega
          clear hb hr hc1 hc2 ha hjk hkj hz1 h1z hne0
          go_wp2_with fail
          refine wp_region_quiet_below (by kernel_rfl) (by kernel_rfl) ?_
          iterate 8 go_big_quiet_step (fail)
          go_big_quiet_step ((refine same_in wr _ (some ⟨h, a, none⟩) (some ⟨h', a, none⟩) k k k wr.heap.size _ (by unfold maxLen; omega) P1.out P2.out (Nat.le_refl _)))
          repeat (go_big_quiet_step (fail))
          refine wpQuiet_nil ?_
          rintro w' ⟨q, rfl⟩
          have HNB3 := Lib.hid (HNB2.out.below (in_below wr q) (Nat.le_of_lt HNR2.out.lt))
          have HNR3 := Lib.hid (HNR2.out.below (in_below wr q) HNR2.out.lt)
          go_wp2_with fail
          go_roundw
          case rel => exact ⟨j + 1, by omega, by omega, by go_num, HNB3.out, HNR3.out⟩
          case measure => simp [intOf]; omega
        · obtain rfl : j = s := by omega
          have HNB2 := Lib.hid hb
          have HNR2 := Lib.hid hr
          have hk1 : ((k : Int) + 1 == (k : Int) + 1) = true := by simp
          clear hb hr hz1 h1z hne0
          go_wp2_with fail
          refine (same_refl A2 A n c2 c wr.heap.size l wr (by unfold maxLen; omega) (bytes_mono HNB2.out.l2 (Nat.le_of_lt HNR2.out.lt)) (bytes_mono HNB2.out.l0 HNB2.out.on.bel.size) (Nat.le_refl _)).mono ?_
          rintro e w8 ⟨rfl, hb8⟩
          have HE := Lib.hid (HNB2.out.on.next hb8)
          clear hb8
          go_wp2_with fail
          go_ret
          exact ⟨rfl, HE.out.bel⟩

theorem imageOwn_walk (w : World) (A : Option Addr) (n c : Nat) (zs : List Int) (hr : IsRow .u8 w A n c zs) (x : Int) (wx : (Lit.int .u8 x).wf = true) (y : Int) (wy : (Lit.int .u8 y).wf = true) (hT : Tab w) :
    Calls Tryd.prog 8 #[.slice A n c, .int .u8 x, .int .u8 y] w fun e w' => e = .returned (.bool true) ∧ Below w.heap.size w w' := by
  simp [Lit.wf, IntKind.min, IntKind.max, IntKind.signed, IntKind.bits] at wx wy
  obtain ⟨x, rfl⟩ := Int.eq_ofNat_of_zero_le wx.1
  by_cases hn2 : n < 2
  · exact own_short w A n c hn2 x y hT
  · by_cases hn : n ≤ 300
    · exact own_walk w A n c _ hr.bytes (by omega) hn x (by omega) y (by omega) hT
    · exact own_long w A n c (by omega) hr.len_le.2 x y hT
end Go.Proofs.YtcojpiepbdcohaaDoor
