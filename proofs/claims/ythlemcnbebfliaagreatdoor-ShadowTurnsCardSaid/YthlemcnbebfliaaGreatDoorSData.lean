/-
  THE WALK OF slot.Data.
-/
import Derived.Test.YthlemcnbebfliaaGreatDoorSSeal
namespace Go.Proofs.YthlemcnbebfliaaGreatDoor
open Ks Go.RowKit
set_option maxRecDepth 20000

/-- an image's sectors -/
def secs (l : List Int) (z : Nat) : List (List Int) := cutL (fill l (many l.length z * z)) z (many l.length z)
/-- what Data does, and tells -/
def put_ (s : St) (which a b c : Int) (l : List Int) : St × Int := if forErr s which a b c l.length ≠ 0 then (s, forErr s which a b c l.length) else stores s (which * spanOf s.size a b c + 1) (secs l s.size) (many l.length s.size)
/-- where Data's loop stands -/
structure DataAt (w0 : World) (p : Nat) (F : Nat → Prop) (s : St) (i : Int) (L : List (List Int)) (k : Nat) (wr : World) : Prop where
  err : (stores s i L k).2 = 0
  disk : DiskAt Tryz.prog wr p (Dsk.Grow F w0 wr) (stores s i L k).1
  keeps : Keeps F w0 wr
theorem DataAt.next {w0 wr w' : World} {p : Nat} {F : Nat → Prop} {s : St} {i : Int} {L : List (List Int)} {k : Nat} {er : Int} {e : Ending} (H : DataAt w0 p F s i L k wr)
    (ht : Dsk.Tells p (Dsk.Grow F w0 wr) ((stores s i L k).1.write (i + k) (L.getD k [])).1 wr er e w') : DiskAt Tryz.prog w' p (Dsk.Grow F w0 w') (stores s i L (k + 1)).1 ∧ Keeps F w0 w' := by
  obtain ⟨_, hd, hk⟩ := ht
  have hs := H.keeps.size
  have hs2 := hk.size
  rw [stores_succ s i L k H.err]
  refine ⟨hd.mono (fun b hb => ?_) (fun b hb => ?_), H.keeps.then hk (fun b hb => ?_)⟩
  · rcases hb with (hb | hb) | hb
    · exact .inl hb
    · exact .inr ⟨hb.1, Nat.lt_of_lt_of_le hb.2 hs2⟩
    · exact .inr ⟨Nat.le_trans hs hb.1, hb.2⟩
  · rcases hb with hb | hb
    · exact hd.there b (.inl (.inl hb))
    · exact hb.2
  · rcases hb with hb | hb
    · exact .inl hb
    · exact .inr hb.1
theorem fill_len' (l : List Int) (k : Nat) (h : l.length ≤ k) : (fill l k).length = k := by simp [fill]; omega
theorem fill_in' (l : List Int) (k : Nat) (h : In8 l) : In8 (fill l k) := by
  intro v hv
  unfold fill at hv
  rcases List.mem_append.1 hv with h1 | h1
  · exact h v h1
  · rw [List.eq_of_mem_replicate h1]; omega
theorem secs_in {l : List Int} {z : Nat} (h : In8 l) (k : Nat) : In8 ((secs l z).getD k []) := by
  by_cases hk : k < many l.length z
  · unfold secs
    rw [cutL_get _ _ _ _ hk]
    exact fun v hv => fill_in' l _ h v (List.mem_of_mem_drop (List.mem_of_mem_take hv))
  · have : (secs l z).getD k [] = [] := by
      have hl : (secs l z).length = many l.length z := cutL_len _ _ _
      simp [List.getD, List.getElem?_eq_none (show (secs l z).length ≤ k by omega)]
    rw [this]
    intro v hv
    cases hv
theorem part_of_row (k t z : Nat) (h : k < t) : k * z + z ≤ t * z := by
  have := Nat.mul_le_mul_right z (show k + 1 ≤ t from h)
  rw [Nat.add_mul, Nat.one_mul] at this
  exact this
theorem piece_bys {w : World} {h : Nat} {X : List Int} {t z k : Nat} (hr : Row w h X) (hX : X.length = t * z) (hk : k < t) : Bys w (fun b => b = h) (.slice (some ⟨h, k * z, none⟩) z z) ((X.drop (k * z)).take z) := by
  have hp := part_of_row k t z hk
  have hl : ((X.drop (k * z)).take z).length = z := by simp; omega
  refine ⟨_, z, by rw [hl], by omega, fun _ => ⟨h, k * z, rfl, rfl, fun j hj => ?_⟩⟩
  rw [hl] at hj
  rw [(hr.cell (k * z + j) (by omega)).1]
  congr 2
  simp [List.getD, hj]
set_option maxHeartbeats 1000000 in
theorem data_any (w : World) (p m n cap : Nat) (F : Nat → Prop) (s s2 : St) (which a b c er2 : Int) (A : Option Addr) (l : List Int) (hT : Tab w) (h : DiskAt Tryz.prog w p F s) (hO : Ok m s) (hm : m + many n s.size < 1000000) (hl : Bytes w w.heap.size A n l) (hn : n ≤ 100000) (hw : put_ s which a b c l = (s2, er2)) :
    Calls Tryz.prog 90 #[.pointer (some ⟨p, 0, none⟩), .int .i64 which, geoV a b c, .slice A n cap] w (Dsk.Tells p F s2 w er2) := by
  have hst := store_fn
  have hst0 := store_nil
  obtain ⟨g0, g1, g2⟩ := boxed w (.int .i64 a) (.int .i64 b) (.int .i64 c) 23
  have HB := Lib.hid (below_box w (.cells #[.int .i64 a, .int .i64 b, .int .i64 c] 23))
  have HT := Lib.hid (tab_below hT HB.out (tab_pos hT))
  have HD := Lib.hid (h.below_ HB.out)
  have HO := Lib.hid hO
  have HL := Lib.hid hl
  have hln := hl.1
  obtain ⟨z, hz⟩ : ∃ z, s.size = z := ⟨_, rfl⟩
  rw [hz] at hm
  obtain ⟨er, her⟩ : ∃ er, forErr s which a b c n = er := ⟨_, rfl⟩
  have HER := Lib.hid her
  have HW := Lib.hid (show (if er ≠ 0 then (s, er) else stores s (which * spanOf z a b c + 1) (secs l z) (many n z)) = (s2, er2) by rw [← hw]; unfold put_; rw [hln, her, hz])
  obtain ⟨first, hf⟩ : ∃ f, which * spanOf z a b c = f := ⟨_, rfl⟩
  have HF := Lib.hid (And.intro hz hf)
  have HLN := Lib.hid hln
  clear hT h hO her hz hf hw hl hln
  go_enter Tryz.func90, Tryz.ntmps90
  go_wp2_with fail
  generalize w.alloc (.cells #[.int .i64 a, .int .i64 b, .int .i64 c] 23) = W at *
  refine (findFor_any _ p m F s which a b c z er first A n cap HT.out HD.out HO.out (by rw [HF.out.1]) HER.out HF.out.2).mono ?_
  rintro e w1 ⟨hb, hh⟩
  have HBB := Lib.hid (HB.out.trans (hb.mono HB.out.size))
  have HD1 := Lib.hid (HD.out.below_ hb)
  clear hb g0 g1 g2
  rcases hh with ⟨h0, rfl⟩ | ⟨rfl, x, y, hx, hy, hH, rfl⟩
  · have hd0 : (er != 0) = true := by simpa using h0
    have b2 := below_box w1 (.cells #[.int .i64 0, .nilFunc, .nilFunc] 130)
    have e2 : s = s2 ∧ er = er2 := by
      have := HW.out
      rw [if_pos h0] at this
      exact ⟨congrArg Prod.fst this, congrArg Prod.snd this⟩
    obtain ⟨rfl, rfl⟩ := e2
    have HE := Lib.hid (show Dsk.Tells p F s w er (.returned (.int .i64 er)) (w1.alloc (.cells #[.int .i64 0, .nilFunc, .nilFunc] 130)) from
      ⟨rfl, Dsk.DiskAt.grow (HD1.out.below_ b2), (Keeps.of_below (HBB.out.trans (b2.mono HBB.out.size))).no⟩)
    clear b2
    go_wp2_with fail
    go_ret
    exact HE.out
  have HX := Lib.hid (show (¬ F x ∧ ¬ F y) from ⟨fun hf => by have := HD.out.there x hf; omega, fun hf => by have := HD.out.there y hf; omega⟩)
  obtain ⟨q1, q2, q3, q4, q5, q6, q7⟩ := forErr_ok HER.out
  have HFB := Lib.hid (find_first q1 HF.out.2)
  have HZ := Lib.hid (show 32 ≤ z ∧ z ≤ 4096 by rw [← HF.out.1]; exact ⟨q5, HO.out.size⟩)
  have HW2 := Lib.hid (show stores s (first + 1) (secs l z) (many n z) = (s2, er2) by rw [← HW.out, if_neg (fun h => h rfl), HF.out.2])
  have b2 := below_box w1 (.cells #[.int .i64 (z : Int), fnV 110 x y, fnV 112 x y] 130)
  have N2 := Lib.hid (Blk.new w1 130 #[.int .i64 (z : Int), fnV 110 x y, fnV 112 x y])
  have HD2 := Lib.hid (HD1.out.below_ b2)
  have HH2 := Lib.hid (hH.keep (S := No) (Keeps.of_below b2) (fun h => h) (fun h => h))
  have HK2 := Lib.hid (HBB.out.trans (b2.mono HBB.out.size))
  have HL2 := Lib.hid (bytes_below HL.out HK2.out)
  have HT1 := Lib.hid HD1.out.there
  have HS2 := Lib.hid HK2.out.size
  have HNF := Lib.hid (show ¬ F w1.heap.size from fun hf => Nat.lt_irrefl _ (HD1.out.there _ hf))
  clear hx hy hH b2 q1 q2 q3 q4 q5 q6 q7 HW
  obtain ⟨k0, k1, k2⟩ := N2.out.c3
  go_wp2_with fail
  generalize w1.alloc (.cells #[.int .i64 (z : Int), fnV 110 x y, fnV 112 x y] 130) = W2 at *
  refine (cut_ok A n cap w.heap.size z l W2 HL2.out HS2.out (by have := HZ.out.1; omega) HZ.out.2 hn).mono ?_
  clear k0 k1 k2
  rintro e w3 ⟨g, h, rfl, hc⟩
  obtain ⟨c1, c2, c3, c4, c5, c6⟩ := hc
  have HC := Lib.hid (And.intro c4 c5)
  have N3 := Lib.hid (N2.out.of_eq (c6.block _ N2.out.lt))
  have HD3 := Lib.hid (HD2.out.below_ c6)
  have HH3 := Lib.hid (HH2.out.keep (S := No) (Keeps.of_below c6) (fun h => h) (fun h => h))
  have HK3 := Lib.hid (Keeps.of_below (HK2.out.trans (c6.mono HS2.out)))
  have HGH := Lib.hid (show (¬ F g ∧ ¬ F h) from ⟨fun hf => by have := HD2.out.there g hf; omega, fun hf => by have := HD2.out.there h hf; omega⟩)
  have HLEN := Lib.hid (many_bounds n z (by have := HZ.out.1; omega) HZ.out.2)
  obtain ⟨t, ht⟩ : ∃ t, many n z = t := ⟨_, rfl⟩
  rw [ht] at HC HW2 HLEN hm ⊢
  have HTT := Lib.hid ht
  clear c1 c2 c3 c4 c5 c6 ht HD2 HH2 N2 HL2
  have HX8 := Lib.hid (show In8 l from HL.out.2.1)
  have HWL := Lib.hid (lt_of_heap N3.out)
  go_wp2_with fail
  go_loopw [38] (fun i wr => ∃ k : Nat, k ≤ t ∧ i = .int .i64 k ∧ DataAt w3 p F s (first + 1) (secs l z) k wr) (fun i _ => t - (iv i).toNat)
  case atStart => exact ⟨0, Nat.zero_le _, rfl, rfl, Dsk.DiskAt.grow HD3.out, Keeps.refl _ _⟩
  case round =>
    obtain ⟨k, hk, rfl, hat⟩ := hrel
    have HAT := Lib.hid hat
    clear hat
    by_cases hlt : k < t
    · have hcell : wr.cell? ⟨g, k, none⟩ = some (.slice (some ⟨h, k * z, none⟩) z z) := (HAT.out.keeps.cell HC.out.2.lt HGH.out.1).trans ((HC.out.2.cell k).trans (pcs_get h z t t k hlt))
      have k2 := (HAT.out.keeps.cell (o := 2) HWL.out HNF.out).trans (N3.out.c3).2.2
      have HHW := Lib.hid (HH3.out.keep HAT.out.keeps HX.out.1 HX.out.2)
      have HOK := Lib.hid (stores_ok HO.out (first + 1) (secs l z) (secs_in HX8.out) k).1
      obtain ⟨j, hj⟩ : ∃ j, first + (1 + (k : Int)) = j := ⟨_, rfl⟩
      have hje : first + 1 + (k : Int) = j := by omega
      have HJ := Lib.hid (And.intro hj hje)
      have HJB := Lib.hid (show 0 ≤ j ∧ j ≤ 1000000 by have := HFB.out; have := HLEN.out.2.2; omega)
      have hpe : (secs l z).getD k [] = ((fill l (t * z)).drop (k * z)).take z := by
        unfold secs
        rw [HLN.out, HTT.out]
        exact cutL_get _ _ _ _ hlt
      have HPB := Lib.hid (show Bys wr (fun b => b = h) (.slice (some ⟨h, k * z, none⟩) z z) ((secs l z).getD k []) by
        rw [hpe]
        have hrow : Row wr h (fill l (t * z)) := (HAT.out.keeps.block h HC.out.1.lt HGH.out.2).trans HC.out.1
        exact piece_bys hrow (fill_len' l _ (by have := HLEN.out; have := HLN.out; omega)) hlt)
      have hk0 : (0 : Int) ≤ (k : Int) := by omega
      have hk1 : (k : Int) < (t : Int) := by omega
      clear hj hje hpe
      generalize k * z = o at *
      go_wp2_with fail
      refine (writeC_any _ p x y _ (Dsk.Grow F w3 wr) (fun b => b = h) _ _ first j _ ((secs l z).getD k []) HAT.out.disk ?_ HOK.out (by omega) HPB.out ?_ HJ.out.1 HJB.out.1 HJB.out.2).mono ?_
      · exact HHW.out
      · rintro b rfl hb hF
        rcases hF with hF | hF
        · exact HGH.out.2 hF
        · have := HC.out.1.lt
          omega
      · rintro e w' ht
        rw [← HJ.out.2] at ht
        have HN := Lib.hid (HAT.out.next ht)
        obtain ⟨er, her⟩ : ∃ er, ((stores s (first + 1) (secs l z) k).1.write (first + 1 + k) ((secs l z).getD k [])).2 = er := ⟨_, rfl⟩
        obtain ⟨rfl, _⟩ := ht
        rw [her]
        have HE := Lib.hid (show (stores s (first + 1) (secs l z) (k + 1)).2 = er by rw [stores_succ _ _ _ _ HAT.out.err]; exact her)
        clear her
        by_cases h0 : er = 0
        · subst h0
          go_wp2_with fail
          go_roundw
          case rel => exact ⟨k + 1, by omega, by go_num, HE.out, HN.out.1, HN.out.2⟩
          case measure => simp [iv]; omega
        · have hd0 : (er != 0) = true := by simpa using h0
          have HW3 := Lib.hid (show (stores s (first + 1) (secs l z) (k + 1)) = (s2, er2) by
            rw [← HW2.out, stores_stop _ _ _ (k + 1) t (by rw [HE.out]; exact h0) (by omega)])
          have he2 : er = er2 := by rw [← HE.out, HW3.out]
          subst he2
          go_wp2_with fail
          go_ret
          refine ⟨rfl, ?_, HK3.out.no.trans HN.out.2⟩
          have hd := HN.out.1
          rw [HW3.out] at hd
          refine hd.mono (fun b hb => ?_) (fun b hb => ?_)
          · rcases hb with hb | hb
            · exact .inl hb
            · exact .inr ⟨Nat.le_trans HK3.out.size hb.1, hb.2⟩
          · rcases hb with hb | hb
            · exact hd.there b (.inl hb)
            · exact hb.2
    · obtain rfl : k = t := by omega
      have he2 : er2 = 0 ∧ (stores s (first + 1) (secs l z) k).1 = s2 := ⟨by rw [← HAT.out.err, HW2.out], by rw [HW2.out]⟩
      obtain ⟨rfl, rfl⟩ := he2
      go_wp2_with fail
      go_ret
      have hd := HAT.out.disk
      refine ⟨rfl, hd.mono (fun b hb => ?_) (fun b hb => ?_), HK3.out.no.trans HAT.out.keeps⟩
      · rcases hb with hb | hb
        · exact .inl hb
        · exact .inr ⟨Nat.le_trans HK3.out.size hb.1, hb.2⟩
      · rcases hb with hb | hb
        · exact hd.there b (.inl hb)
        · exact hb.2
end Go.Proofs.YthlemcnbebfliaaGreatDoor
