/-
  THE WALKS OF slot's layHead AND OF slot.Wipe.
-/
import Derived.Test.YthlemcnbebfliaaGreatDoorSFor
namespace Go.Proofs.YthlemcnbebfliaaGreatDoor
open Ks Go.RowKit
set_option maxRecDepth 20000

theorem keeps_only {F : Nat → Prop} {w w' w'' : World} {g : Nat} (h : Keeps F w w') (ho : Only g w' w'') (hg : w.heap.size ≤ g) : Keeps F w w'' :=
  h.then (T := fun b => b = g) ⟨ho.os, ho.tape, ho.output, Nat.le_of_eq ho.size.symm, fun k _ hk => ho.block k hk⟩ (fun b hb => .inr (by subst hb; exact hg))
/-- what a write tells, seen from an earlier world -/
theorem tells_from {w w2 : World} {p : Nat} {F : Nat → Prop} {s : St} {er : Int} {e : Ending} {w' : World} (hk : Keeps F w w2) (h : Dsk.Tells p F s w2 er e w') : Dsk.Tells p F s w er e w' := by
  obtain ⟨he, hd, hkk⟩ := h
  refine ⟨he, hd.mono (fun b hb => ?_) (fun b hb => ?_), hk.trans hkk⟩
  · rcases hb with hb | hb
    · exact .inl hb
    · exact .inr ⟨Nat.le_trans hk.size hb.1, hb.2⟩
  · rcases hb with hb | hb
    · exact hd.there b (.inl hb)
    · exact hb.2
/-- a head's sector -/
def padded (l : List Int) (z : Nat) : List Int := l ++ List.replicate (z - l.length) 0
theorem layHead_any (w : World) (p x y m n cap z : Nat) (F : Nat → Prop) (s : St) (first : Int) (A : Option Addr) (l : List Int) (h : DiskAt Tryz.prog w p F s) (hH : Hand w x y p first) (hFx : ¬ F x) (hFy : ¬ F y) (hO : Ok m s) (hm : m < 1000000)
    (hl : Bytes w w.heap.size A n l) (hn : n ≤ z) (hz : z ≤ 4096) (hf0 : 0 ≤ first) (hf1 : first ≤ 1000000) :
    Calls Tryz.prog 86 #[placeV z x y, .slice A n cap] w (Dsk.Tells p F (s.write first (padded l z)).1 w (s.write first (padded l z)).2) := by
  obtain ⟨b0, b1, b2⟩ := boxed w (.int .i64 (z : Int)) (fnV 110 x y) (fnV 112 x y) 130
  have hmb := make_bytes z (by omega)
  have hlen := hl.1
  have q1 := below_box w (.cells #[.int .i64 (z : Int), fnV 110 x y, fnV 112 x y] 130)
  have q2 := below_box (w.alloc (.cells #[.int .i64 (z : Int), fnV 110 x y, fnV 112 x y] 130)) (.cells (madeCells #[Value.int .u8 0] z) 5)
  have q := q1.trans (q2.mono q1.size)
  obtain ⟨w3, xx, hcp, ho, hr⟩ := copy_row ((w.alloc (.cells #[.int .i64 (z : Int), fnV 110 x y, fnV 112 x y] 130)).alloc (.cells (madeCells #[Value.int .u8 0] z) 5)) (w.heap.size + 1) z z 3 w.heap.size n _
    (by have := row_made (w.alloc (.cells #[.int .i64 (z : Int), fnV 110 x y, fnV 112 x y] 130)) z; rw [size_alloc] at this; exact this) (by simp) A cap l (bytes_below hl q) hn
  have hkw : Keeps No w w3 := keeps_only (Keeps.of_below q) ho (by omega)
  have k2 : w3.cell? ⟨w.heap.size, 2, none⟩ = some (fnV 112 x y) := ((ho.cell (show w.heap.size ≠ w.heap.size + 1 by omega)).trans (q2.cell (p := ⟨w.heap.size, 2, none⟩) (by simp))).trans b2
  have HR := Lib.hid hr
  have HK := Lib.hid hkw
  have HD := Lib.hid (h.keeps hkw (fun _ _ h => h))
  have HHD := Lib.hid (hH.keep hkw (fun h => h) (fun h => h))
  have HO := Lib.hid hO
  have HX := Lib.hid (And.intro hFx hFy)
  have HTH := Lib.hid (h.there)
  have HL := Lib.hid hlen
  clear h hH hO hFx hFy hl q q1 q2 ho hr hkw hlen b1 b2
  go_enter Tryz.func86, Tryz.ntmps86
  go_wp2_with fail
  refine (writeC_any _ p x y m F (fun b => b = w.heap.size + 1) s 0 first first _ (padded l z) HD.out HHD.out HO.out hm ?_ ?_ (by omega) hf0 hf1).mono ?_
  · have e : padded l z = l ++ (List.replicate z (0 : Int)).drop n := by unfold padded; rw [HL.out]; simp
    rw [e]
    exact bys_row HR.out (by simp [HL.out]; omega) (by omega)
  · rintro b rfl hb hF
    have := HTH.out _ hF
    omega
  · rintro e w' ht
    have HT := Lib.hid (tells_from (HK.out.no (T := F)) ht)
    obtain ⟨rfl, _⟩ := ht
    go_wp2_with fail
    go_ret
    exact HT.out
/-- what Wipe does, and tells -/
def wiped (s : St) (which a b c : Int) : St × Int := if findErr s which a b c ≠ 0 then (s, findErr s which a b c) else s.write (which * spanOf s.size a b c) (padded [] s.size)
theorem find_first {s : St} {which a b c first : Int} {z : Nat} (her : findErr s which a b c = 0) (hf : which * spanOf z a b c = first) : 0 ≤ first ∧ first ≤ 131073 := by
  have hw : 0 ≤ which ∧ which ≤ 1 := by
    have := her
    unfold findErr at this
    split at this
    · cases this
    split at this
    · cases this
    omega
  have := spanOf_bounds z a b c
  rw [← hf]
  have h01 : which = 0 ∨ which = 1 := by omega
  rcases h01 with rfl | rfl <;> omega
theorem wipe_any (w : World) (p m : Nat) (F : Nat → Prop) (s s2 : St) (which a b c er2 : Int) (hT : Tab w) (h : DiskAt Tryz.prog w p F s) (hO : Ok m s) (hm : m < 1000000) (hw : wiped s which a b c = (s2, er2)) :
    Calls Tryz.prog 51 #[.pointer (some ⟨p, 0, none⟩), .int .i64 which, geoV a b c] w (Dsk.Tells p F s2 w er2) := by
  have hst := store_fn
  have hst0 := store_nil
  obtain ⟨g0, g1, g2⟩ := boxed w (.int .i64 a) (.int .i64 b) (.int .i64 c) 23
  have HB := Lib.hid (below_box w (.cells #[.int .i64 a, .int .i64 b, .int .i64 c] 23))
  have HT := Lib.hid (tab_below hT HB.out (tab_pos hT))
  have HD := Lib.hid (h.below_ HB.out)
  have HD0 := Lib.hid h
  have HO := Lib.hid hO
  obtain ⟨er, her⟩ : ∃ er, findErr s which a b c = er := ⟨_, rfl⟩
  have HER := Lib.hid her
  have HW := Lib.hid hw
  obtain ⟨z, hz⟩ : ∃ z, s.size = z := ⟨_, rfl⟩
  obtain ⟨first, hf⟩ : ∃ f, which * spanOf z a b c = f := ⟨_, rfl⟩
  have HF := Lib.hid (And.intro hz hf)
  clear hT h hO her hz hf hw
  go_enter Tryz.func51, Tryz.ntmps51
  go_wp2_with fail
  generalize w.alloc (.cells #[.int .i64 a, .int .i64 b, .int .i64 c] 23) = W at *
  refine (find_any _ p m F s which a b c z er first HT.out HD.out HO.out (by rw [HF.out.1]) HER.out HF.out.2).mono ?_
  rintro e w1 ⟨hb, hh⟩
  have HBB := Lib.hid (HB.out.trans (hb.mono HB.out.size))
  have HD1 := Lib.hid (HD.out.below_ hb)
  clear hb
  rcases hh with ⟨h0, rfl⟩ | ⟨rfl, x, y, hx, hy, hH, rfl⟩
  · have hd0 : (er != 0) = true := by simpa using h0
    have b2 := below_box w1 (.cells #[.int .i64 0, .nilFunc, .nilFunc] 130)
    have e2 : s = s2 ∧ er = er2 := by
      have := HW.out
      unfold wiped at this
      rw [HER.out, if_pos h0] at this
      exact ⟨congrArg Prod.fst this, congrArg Prod.snd this⟩
    obtain ⟨rfl, rfl⟩ := e2
    have HE := Lib.hid (show Dsk.Tells p F s w er (.returned (.int .i64 er)) (w1.alloc (.cells #[.int .i64 0, .nilFunc, .nilFunc] 130)) from
      ⟨rfl, Dsk.DiskAt.grow (HD1.out.below_ b2), (Keeps.of_below (HBB.out.trans (b2.mono HBB.out.size))).no⟩)
    clear b2
    go_wp2_with fail
    go_ret
    exact HE.out
  · have HX := Lib.hid (show ¬ F x ∧ ¬ F y from ⟨fun hf => by have := HD.out.there x hf; omega, fun hf => by have := HD.out.there y hf; omega⟩)
    have HFB := Lib.hid (find_first HER.out HF.out.2)
    have HW2 := Lib.hid (show s.write first (padded [] z) = (s2, er2) by rw [← HW.out]; unfold wiped; rw [if_neg (fun h => h HER.out), HF.out.1, HF.out.2])
    have b2 := below_box w1 (.cells #[.int .i64 (z : Int), fnV 110 x y, fnV 112 x y] 130)
    have N2 := Lib.hid (Blk.new w1 130 #[.int .i64 (z : Int), fnV 110 x y, fnV 112 x y])
    have HD2 := Lib.hid (HD1.out.below_ b2)
    have HH2 := Lib.hid (hH.keep (S := No) (Keeps.of_below b2) (fun h => h) (fun h => h))
    have HK2 := Lib.hid (Keeps.of_below (HBB.out.trans (b2.mono HBB.out.size)))
    have HZ := Lib.hid (show z ≤ 4096 by rw [← HF.out.1]; exact HO.out.size)
    clear hx hy hH b2
    obtain ⟨k0, k1, k2⟩ := N2.out.c3
    go_wp2_with fail
    refine (layHead_any _ p x y m 0 0 z F s first none [] HD2.out HH2.out HX.out.1 HX.out.2 HO.out hm (bytes_nil _ _) (by omega) HZ.out HFB.out.1 (by have := HFB.out.2; omega)).mono ?_
    rintro e w' ht
    rw [HW2.out] at ht
    have HT2 := Lib.hid (tells_from (HK2.out.no (T := F)) ht)
    obtain ⟨rfl, _⟩ := ht
    go_wp2_with fail
    go_ret
    exact HT2.out
end Go.Proofs.YthlemcnbebfliaaGreatDoor
