/-
  THE WALK OF slot.Seal.
-/
import Derived.Test.YthlemcnbebfliaaGreatDoorSLay
namespace Go.Proofs.YthlemcnbebfliaaGreatDoor
open Ks Go.RowKit
set_option maxRecDepth 20000

/-- what Seal does, and tells -/
def laid (s : St) (which a b c q : Int) (l : List Int) : St × Int := if forErr s which a b c l.length ≠ 0 then (s, forErr s which a b c l.length) else s.write (which * spanOf s.size a b c) (padded (enc a b c l.length q (sumOf l)) s.size)
theorem forErr_ok {s : St} {which a b c : Int} {n : Nat} (h : forErr s which a b c n = 0) : findErr s which a b c = 0 ∧ (n : Int) = total a b c ∧ right a b c = true ∧ can a b c n = true ∧ 32 ≤ s.size ∧ 2 * spanOf s.size a b c ≤ (s.last.length : Int) ∧ (which = 0 ∨ which = 1) := by
  unfold forErr at h
  by_cases h1 : findErr s which a b c ≠ 0
  · rw [if_pos h1] at h
    exact absurd h h1
  rw [if_neg h1] at h
  have h1 : findErr s which a b c = 0 := by omega
  by_cases h2 : (n : Int) ≠ total a b c
  · rw [if_pos h2] at h
    cases h
  have h2 : (n : Int) = total a b c := by omega
  have hf := h1
  unfold findErr at hf
  split at hf
  · cases hf
  rename_i hr
  split at hf
  · cases hf
  split at hf
  · cases hf
  have hr' : right a b c = true := by simpa using hr
  refine ⟨h1, h2, hr', ?_, by omega, by omega, by omega⟩
  unfold can
  rw [hr', h2]
  simp
theorem geo_below {W w4 : World} {N : Nat} {x y z : Value} (h : W.cell? ⟨N, 0, none⟩ = some x ∧ W.cell? ⟨N, 1, none⟩ = some y ∧ W.cell? ⟨N, 2, none⟩ = some z) (hb : Below W.heap.size W w4) : w4.cell? ⟨N, 0, none⟩ = some x ∧ w4.cell? ⟨N, 1, none⟩ = some y ∧ w4.cell? ⟨N, 2, none⟩ = some z :=
  have l := block_lt_of_cell h.1
  ⟨(hb.cell (p := ⟨N, 0, none⟩) l).trans h.1, (hb.cell (p := ⟨N, 1, none⟩) l).trans h.2.1, (hb.cell (p := ⟨N, 2, none⟩) l).trans h.2.2⟩
theorem seal_any (w : World) (p m n cap : Nat) (F : Nat → Prop) (s s2 : St) (which a b c q er2 : Int) (A : Option Addr) (l : List Int) (hT : Tab w) (h : DiskAt Tryz.prog w p F s) (hO : Ok m s) (hm : m < 1000000) (hl : Bytes w w.heap.size A n l) (hq : 0 ≤ q ∧ q < 18446744073709551616) (hw : laid s which a b c q l = (s2, er2)) :
    Calls Tryz.prog 91 #[.pointer (some ⟨p, 0, none⟩), .int .i64 which, geoV a b c, .int .u64 q, .slice A n cap] w (Dsk.Tells p F s2 w er2) := by
  have hst := store_fn
  have hst0 := store_nil
  obtain ⟨g0, g1, g2⟩ := boxed w (.int .i64 a) (.int .i64 b) (.int .i64 c) 23
  have HB := Lib.hid (below_box w (.cells #[.int .i64 a, .int .i64 b, .int .i64 c] 23))
  have HP := Lib.hid (show w.heap.size < (w.alloc (.cells #[.int .i64 a, .int .i64 b, .int .i64 c] 23)).heap.size by simp)
  have HG := Lib.hid (And.intro g0 (And.intro g1 g2))
  have HT := Lib.hid (tab_below hT HB.out (tab_pos hT))
  have HD := Lib.hid (h.below_ HB.out)
  have HO := Lib.hid hO
  have HL := Lib.hid hl
  have HQ := Lib.hid hq
  have hln := hl.1
  obtain ⟨er, her⟩ : ∃ er, forErr s which a b c n = er := ⟨_, rfl⟩
  have HER := Lib.hid her
  have HW := Lib.hid (show (if er ≠ 0 then (s, er) else s.write (which * spanOf s.size a b c) (padded (enc a b c n q (sumOf l)) s.size)) = (s2, er2) by rw [← hw]; unfold laid; rw [hln, her])
  obtain ⟨z, hz⟩ : ∃ z, s.size = z := ⟨_, rfl⟩
  obtain ⟨first, hf⟩ : ∃ f, which * spanOf z a b c = f := ⟨_, rfl⟩
  have HF := Lib.hid (And.intro hz hf)
  clear hT h hO her hz hf hw hl hq hln
  go_enter Tryz.func91, Tryz.ntmps91
  go_wp2_with fail
  generalize w.alloc (.cells #[.int .i64 a, .int .i64 b, .int .i64 c] 23) = W at *
  refine (findFor_any _ p m F s which a b c z er first A n cap HT.out HD.out HO.out (by rw [HF.out.1]) HER.out HF.out.2).mono ?_
  rintro e w1 ⟨hb, hh⟩
  have HBB := Lib.hid (HB.out.trans (hb.mono HB.out.size))
  have HD1 := Lib.hid (HD.out.below_ hb)
  have HB1 := Lib.hid hb
  clear hb
  rcases hh with ⟨h0, rfl⟩ | ⟨rfl, x, y, hx, hy, hH, rfl⟩
  · have hd0 : (er != 0) = true := by simpa using h0
    have b2 := below_box w1 (.cells #[.int .i64 0, .nilFunc, .nilFunc] 130)
    have e2 : s = s2 ∧ er = er2 := by
      have := HW.out
      rw [if_pos h0] at this
      exact ⟨congrArg Prod.fst this, congrArg Prod.snd this⟩
    obtain ⟨rfl, rfl⟩ := e2
    have HE := Lib.hid (show Dsk.Tells p F s w er (.returned (.int .i64 er)) (w1.alloc (.cells #[.int .i64 0, .nilFunc, .nilFunc] 130)) from
      ⟨rfl, Dsk.DiskAt.grow (HD1.out.below_ b2), (Keeps.of_below (HBB.out.trans (b2.mono HBB.out.size))).no⟩)
    clear b2 g0 g1 g2
    go_wp2_with fail
    go_ret
    exact HE.out
  · have HX := Lib.hid (show ¬ F x ∧ ¬ F y from ⟨fun hf => by have := HD.out.there x hf; omega, fun hf => by have := HD.out.there y hf; omega⟩)
    obtain ⟨q1, q2, q3, q4, q5, q6, q7⟩ := forErr_ok HER.out
    have HFB := Lib.hid (find_first q1 HF.out.2)
    have HCAN := Lib.hid q4
    have hnn : n ≤ 131072 := by have := total_lt a b c; omega
    have HZ := Lib.hid (show 32 ≤ z ∧ z ≤ 4096 by rw [← HF.out.1]; exact ⟨q5, HO.out.size⟩)
    obtain ⟨su, hsu⟩ : ∃ su, sumOf l = su := ⟨_, rfl⟩
    have HSU := Lib.hid (And.intro hsu (hsu ▸ sumOf_in l))
    have HW2 := Lib.hid (show s.write first (padded (enc a b c n q su) z) = (s2, er2) by
      rw [← HW.out, if_neg (fun h => h rfl), HF.out.1, HF.out.2, hsu])
    have b2 := below_box w1 (.cells #[.int .i64 (z : Int), fnV 110 x y, fnV 112 x y] 130)
    have N2 := Lib.hid (Blk.new w1 130 #[.int .i64 (z : Int), fnV 110 x y, fnV 112 x y])
    have HD2 := Lib.hid (HD1.out.below_ b2)
    have HH2 := Lib.hid (hH.keep (S := No) (Keeps.of_below b2) (fun h => h) (fun h => h))
    have HK2 := Lib.hid (HBB.out.trans (b2.mono HBB.out.size))
    have HG2 := Lib.hid (show _ ∧ _ ∧ _ from ⟨((b2.cell (p := ⟨w.heap.size, 0, none⟩) (Nat.lt_of_lt_of_le HP.out HB1.out.size)).trans ((HB1.out.cell (p := ⟨w.heap.size, 0, none⟩) HP.out).trans HG.out.1)),
      ((b2.cell (p := ⟨w.heap.size, 1, none⟩) (Nat.lt_of_lt_of_le HP.out HB1.out.size)).trans ((HB1.out.cell (p := ⟨w.heap.size, 1, none⟩) HP.out).trans HG.out.2.1)),
      ((b2.cell (p := ⟨w.heap.size, 2, none⟩) (Nat.lt_of_lt_of_le HP.out HB1.out.size)).trans ((HB1.out.cell (p := ⟨w.heap.size, 2, none⟩) HP.out).trans HG.out.2.2))⟩)
    have HT2 := Lib.hid (tab_below (tab_below HT.out HB1.out (tab_pos HT.out)) b2 (Nat.lt_of_lt_of_le (tab_pos HT.out) HB1.out.size))
    have HL2 := Lib.hid (bytes_below HL.out HK2.out)
    have HS2 := Lib.hid HK2.out.size
    clear hx hy hH b2 hsu q1 q2 q3 q4 q5 q6 q7 g0 g1 g2 HW
    go_upto_region 4 with fail
    generalize w1.alloc (.cells #[.int .i64 (z : Int), fnV 110 x y, fnV 112 x y] 130) = W2 at *
    obtain ⟨g0, g1, g2⟩ := HG2.out
    go_region_held3 (fun w' => w'.cell? ⟨w.heap.size, 0, none⟩ = some (.int .i64 a) ∧ w'.cell? ⟨w.heap.size, 1, none⟩ = some (.int .i64 b) ∧ w'.cell? ⟨w.heap.size, 2, none⟩ = some (.int .i64 c)) (first | (with_reducible exact Z4.out) | go_keep) (first
      | (go_at_call 119; refine (sum_at A n cap _ l su W2.drew HT2.out (by unfold maxLen; omega) (bytes_drew HL2.out) HSU.out.1).mono ?_; rintro e w3 ⟨rfl, rfl⟩)
      | (go_at_call 118; refine (enc_ok a b c n q su W2 W2.drew (On.start HT2.out).drew HCAN.out HQ.out HSU.out.2).mono ?_; rintro e w4 ⟨g, rfl, hw4, hg, hrow⟩
         have Z4 := Lib.hid (geo_below HG2.out hw4.bel)
         have HE := Lib.hid (And.intro hw4.bel (And.intro hg hrow))
         clear hw4 hg hrow))
    have N4 := Lib.hid (N2.out.of_eq (HE.out.1.block _ N2.out.lt))
    have HD4 := Lib.hid (HD2.out.below_ HE.out.1)
    have HH4 := Lib.hid (HH2.out.keep (S := No) (Keeps.of_below HE.out.1) (fun h => h) (fun h => h))
    have HK4 := Lib.hid (Keeps.of_below (HK2.out.trans (HE.out.1.mono HS2.out)))
    have HR4 := Lib.hid (HE.out.2.2.bytes (enc_in a b c n q su) (enc_len a b c n q su))
    clear g0 g1 g2
    obtain ⟨k0, k1, k2⟩ := N4.out.c3
    go_wp2_with fail
    refine (layHead_any _ p x y m 28 28 z F s first _ (enc a b c n q su) HD4.out HH4.out HX.out.1 HX.out.2 HO.out hm HR4.out (by have := HZ.out.1; omega) HZ.out.2 HFB.out.1 (by have := HFB.out.2; omega)).mono ?_
    rintro e w' ht
    rw [HW2.out] at ht
    have HT5 := Lib.hid (tells_from (HK4.out.no (T := F)) ht)
    obtain ⟨rfl, _⟩ := ht
    go_wp2_with fail
    go_ret
    exact HT5.out
end Go.Proofs.YthlemcnbebfliaaGreatDoor
