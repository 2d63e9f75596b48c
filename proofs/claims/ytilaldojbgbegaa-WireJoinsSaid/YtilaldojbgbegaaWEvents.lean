/-
  THE WALKS OF wire.Events, AND OF THE DOCUMENT's Events.
-/
import Derived.Test.YtilaldojbgbegaaWStep
namespace Go.Proofs.Ytilaldojbgbegaa
open Go.RowKit
set_option maxRecDepth 20000

def intE : Enc Int := ⟨fun x => [.int .i64 x], 1, fun _ => rfl, fun x u hu => by simp at hu; rw [hu]; rfl, by decide⟩
theorem elemInt : ElemM intE 24 3 8 := ⟨Try.underlying24, by kernel_rfl, by decide⟩
theorem ints_flat (l : List Int) : l.flatMap intE.cells = l.map (Value.int .i64) := by
  induction l with
  | nil => rfl
  | cons x l ih => rw [List.flatMap_cons, ih]; rfl
theorem OwnM.ints {t base : Nat} {w : World} {v : Value} {l : List Int} (h : OwnM intE t base w v l) : OwnK .i64 t base w v l := by
  unfold OwnM at h
  unfold OwnK
  rw [ints_flat] at h
  exact h

/-- ints of the call's own -/
def Tells (w : World) (l : List Int) (e : Ending) (w' : World) : Prop := ∃ v, e = .returned v ∧ OwnM intE 3 w.heap.size w' v l ∧ Below w.heap.size w w'

set_option maxRecDepth 100000 in
set_option maxHeartbeats 4000000 in
theorem events_any (w : World) (A : Option Addr) (n c B : Nat) (l : List Lev) (h : Many levE w B A n l) (hB : B ≤ w.heap.size) (hn : n ≤ 1000) :
    Calls Try.prog 13 #[.slice A n c] w (Tells w (evs l)) := by
  have H := Lib.hid h
  have HL := Lib.hid h.1
  clear h
  go_enter Try.func13, Try.ntmps13
  go_wp2_with fail
  refine (new_any w).mono ?_
  rintro e w1 ⟨p, rfl, hp, hw1, hb1⟩
  have HW1 := Lib.hid hw1
  have HB1 := Lib.hid hb1
  have HP := Lib.hid hp
  clear hw1 hb1 hp
  go_wp2_with fail
  go_loopw [4, 10] (fun v i wr => ∃ k : Nat, k ≤ n ∧ i = .int .i64 k ∧ OwnM intE 3 w.heap.size wr v (evTo l k) ∧ WireAt wr p (was l k) ∧ Below w.heap.size w wr) (fun _ i _ => n - (intOf i).toNat)
  case atStart => exact ⟨0, Nat.zero_le _, rfl, OwnM.nil _ _ _ _, HW1.out, HB1.out⟩
  case round =>
    obtain ⟨k, hk, rfl, hown, hwire, hbel⟩ := hrel
    have HO := Lib.hid hown
    have HW := Lib.hid hwire
    have HB := Lib.hid hbel
    clear hown hwire hbel
    by_cases hlt : k < n
    · have hkn : (k : Int) < (n : Int) := by omega
      have hk0 : (0 : Int) ≤ (k : Int) := by omega
      obtain ⟨b, o, rfl, hc⟩ := H.out.cell (HB.out.mono hB) k (at_ l k) (at_get (by rw [HL.out]; exact hlt))
      obtain ⟨x, hx⟩ : ∃ x, at_ l k = x := ⟨_, rfl⟩
      have HX := Lib.hid (And.intro (show evTo l (k + 1) = evTo l k ++ [tell (was l k) x] by rw [evTo_succ, ev, hx]) (show was l (k + 1) = x from hx))
      have HEL := Lib.hid (evTo_len l k)
      rw [hx] at hc
      clear hx
      obtain ⟨x1, x2⟩ := x
      have c0 : wr.cell? ⟨b, o + k * 2, none⟩ = some (.bool x1) := hc 0 _ rfl
      have c1 : wr.cell? ⟨b, o + k * 2 + 1, none⟩ = some (.bool x2) := hc 1 _ rfl
      have hba := below_box wr (.cells #[.bool x1, .bool x2] 30)
      have HW2 := Lib.hid (HW.out.below hba)
      have HO2 := Lib.hid (HO.out.below hba)
      have HB2 := Lib.hid (HB.out.trans (hba.mono HB.out.size))
      have hbk := Blk.new wr 30 #[.bool x1, .bool x2]
      have d0 := hbk.cell 0
      have d1 := hbk.cell 1
      simp only [List.getElem?_toArray, List.getElem?_cons_zero, List.getElem?_cons_succ] at d0 d1
      clear hc hba hbk
      go_upto_region 6 with fail
      generalize wr.alloc (.cells #[.bool x1, .bool x2] 30) = W at *
      go_wp2_with fail
      refine (step_any W p (was l k) (x1, x2) HW2.out).mono ?_
      rintro e w3 ⟨rfl, hw3, hk3⟩
      have HW3 := Lib.hid hw3
      have HO3 := Lib.hid (HO2.out.keeps hk3 (fun g hg e => HO2.out.ne_ HW2.out (by decide) (e ▸ hg)))
      have HB3 := Lib.hid (HB2.out.trans (hk3.below (fun b hb => by have := HP.out; have hb : b = p := hb; omega) HB2.out.size))
      clear hw3 hk3
      obtain ⟨v', w', hrun, ho', hb', hg', _⟩ := append_onem elemInt w3 w.heap.size 24 _ _ HO3.out (tell (was l k) (x1, x2)) #[.int .i64 (tell (was l k) (x1, x2))] rfl (by rw [HEL.out]; omega) HB3.out.size
      have HW4 := Lib.hid (show WireAt w' p (x1, x2) from (HW3.out.below (below_box w3 (.cells #[.int .i64 (tell (was l k) (x1, x2))] 3))).keeps (Keeps.of_grown hg') (fun e => HO3.out.ne_ HW3.out (by decide) e))
      have R := Lib.hid (And.intro (show OwnM intE 3 w.heap.size w' v' (evTo l (k + 1)) by rw [HX.out.1]; exact ho') (HB3.out.trans hb'))
      have HRUN := Lib.hid hrun
      clear hrun ho' hb' hg' d0 d1 c0 c1
      go_wp2_with (at_builtin; refine Lib.wpList_append_run _ rfl _ _ _ _ rfl _ _ rfl rfl _ _ HRUN.out ?_)
      go_roundw
      case rel => exact ⟨k + 1, by omega, by go_num, R.out.1, by rw [HX.out.2]; exact HW4.out, R.out.2⟩
      case measure => simp [intOf]; omega
    · have hk' : k = n := by omega
      subst hk'
      go_wp2_with fail
      go_ret
      exact ⟨_, rfl, by unfold evs; rw [HL.out]; exact HO.out, HB.out⟩

set_option maxRecDepth 100000 in
set_option maxHeartbeats 4000000 in
theorem refEvents_any (w : World) (A : Option Addr) (n c B : Nat) (l : List Lev) (h : Many levE w B A n l) (hB : B ≤ w.heap.size) (hn : n ≤ 1000) :
    Calls Try.prog 9 #[.slice A n c] w (Tells w (evs l)) := by
  have H := Lib.hid h
  have HL := Lib.hid h.1
  have HB0 := Lib.hid (below_box w (.cells #[.bool true, .bool true] 30))
  have HW0 := Lib.hid (Blk.new w 30 #[.bool true, .bool true])
  clear h
  go_enter Try.func9, Try.ntmps9
  go_wp2_with fail
  go_loopw [3, 5] (fun v i wr => ∃ k : Nat, k ≤ n ∧ i = .int .i64 k ∧ OwnM intE 3 w.heap.size wr v (evTo l k) ∧ Blk wr w.heap.size 30 #[.bool (was l k).1, .bool (was l k).2] ∧ Below w.heap.size w wr) (fun _ i _ => n - (intOf i).toNat)
  case atStart => exact ⟨0, Nat.zero_le _, rfl, OwnM.nil _ _ _ _, HW0.out, HB0.out⟩
  case round =>
    obtain ⟨k, hk, rfl, hown, hwire, hbel⟩ := hrel
    have HO := Lib.hid hown
    have HW := Lib.hid hwire
    have HB := Lib.hid hbel
    clear hown hwire hbel
    by_cases hlt : k < n
    · have hkn : (k : Int) < (n : Int) := by omega
      have hk0 : (0 : Int) ≤ (k : Int) := by omega
      obtain ⟨b, o, rfl, hc⟩ := H.out.cell (HB.out.mono hB) k (at_ l k) (at_get (by rw [HL.out]; exact hlt))
      have HLT := Lib.hid (show b < w.heap.size by
        obtain ⟨b', o', e, hb', _⟩ := H.out.2 (by omega)
        injection e with e; injection e with e1 e2; omega)
      obtain ⟨x, hx⟩ : ∃ x, at_ l k = x := ⟨_, rfl⟩
      obtain ⟨y, hy⟩ : ∃ y, was l k = y := ⟨_, rfl⟩
      have HX := Lib.hid (And.intro (show evTo l (k + 1) = evTo l k ++ [tell y x] by rw [evTo_succ, ev, hx, hy]) (show was l (k + 1) = x from hx))
      have HEL := Lib.hid (evTo_len l k)
      rw [hx] at hc
      rw [hy] at HW
      clear hx hy
      obtain ⟨x1, x2⟩ := x
      obtain ⟨y1, y2⟩ := y
      have c0 : wr.cell? ⟨b, o + k * 2, none⟩ = some (.bool x1) := hc 0 _ rfl
      have c1 : wr.cell? ⟨b, o + k * 2 + 1, none⟩ = some (.bool x2) := hc 1 _ rfl
      have d0 := HW.out.cell 0
      have d1 := HW.out.cell 1
      simp only [List.getElem?_toArray, List.getElem?_cons_zero, List.getElem?_cons_succ] at d0 d1
      have HCC := Lib.hid (And.intro c0 c1)
      clear hc
      go_upto_region 6 with fail
      go_region_held3 (fun w' => w'.cell? ⟨w.heap.size, 0, none⟩ = some (.bool y1) ∧ w'.cell? ⟨w.heap.size, 1, none⟩ = some (.bool y2) ∧ w'.cell? ⟨b, o + k * 2, none⟩ = some (.bool x1) ∧ w'.cell? ⟨b, o + k * 2 + 1, none⟩ = some (.bool x2))
        (first | (with_reducible exact Z2.out) | (with_reducible exact Z3.out) | go_keep) (first
        | (go_at_call 20; refine (tell_any _ (y1, y2) (x1, x2)).mono ?_; rintro e w2 ⟨rfl, hb⟩
           have hb := undrew hb
           have HO2 := Lib.hid (HO.out.below hb)
           have HW2 := Lib.hid (HW.out.of_eq (hb.block _ HW.out.lt))
           have HB2 := Lib.hid (HB.out.trans (hb.mono HB.out.size))
           have Z2 := Lib.hid (show w2.cell? ⟨w.heap.size, 0, none⟩ = some (.bool y1) ∧ w2.cell? ⟨w.heap.size, 1, none⟩ = some (.bool y2) ∧ w2.cell? ⟨b, o + k * 2, none⟩ = some (.bool x1) ∧ w2.cell? ⟨b, o + k * 2 + 1, none⟩ = some (.bool x2) from
             ⟨(HW2.out.cell 0).trans rfl, (HW2.out.cell 1).trans rfl, (hb.cell (p := ⟨b, o + k * 2, none⟩) (Nat.lt_of_lt_of_le HLT.out HB.out.size)).trans HCC.out.1, (hb.cell (p := ⟨b, o + k * 2 + 1, none⟩) (Nat.lt_of_lt_of_le HLT.out HB.out.size)).trans HCC.out.2⟩)
           clear hb)
        | (have hh := HO2.out
           clear hh
           refine step_append rfl _ _ _ rfl _ _ rfl rfl _ (append_onem elemInt w2 w.heap.size 24 _ _ HO2.out (tell (y1, y2) (x1, x2)) #[.int .i64 (tell (y1, y2) (x1, x2))] rfl (by rw [HEL.out]; omega) HB2.out.size) ?_
           rintro v' w' ⟨ho', hb', hg', _⟩
           have HO3 := Lib.hid ho'
           have HB3 := Lib.hid (HB2.out.trans hb')
           have HW3 := Lib.hid ((HW2.out.of_eq ((below_box w2 (.cells #[.int .i64 (tell (y1, y2) (x1, x2))] 3)).block _ HW2.out.lt)).of_eq (hg'.block _ (by simp; have := HW2.out.lt; omega) (fun e => HO2.out.ne_ HW2.out (by decide) e.symm)))
           have Z3 := Lib.hid (show w'.cell? ⟨w.heap.size, 0, none⟩ = some (.bool y1) ∧ w'.cell? ⟨w.heap.size, 1, none⟩ = some (.bool y2) ∧ w'.cell? ⟨b, o + k * 2, none⟩ = some (.bool x1) ∧ w'.cell? ⟨b, o + k * 2 + 1, none⟩ = some (.bool x2) from
             ⟨(HW3.out.cell 0).trans rfl, (HW3.out.cell 1).trans rfl, (hb'.cell (p := ⟨b, o + k * 2, none⟩) HLT.out).trans Z2.out.2.2.1, (hb'.cell (p := ⟨b, o + k * 2 + 1, none⟩) HLT.out).trans Z2.out.2.2.2⟩)
           clear ho' hb' hg')
        | fail)
      clear d0 d1 c0 c1 HCC
      obtain ⟨d0, d1, c0, c1⟩ := Z3.out
      have f0 := HW3.out.frozen 0
      have f1 := HW3.out.frozen 1
      go_wp2_with fail
      go_roundw
      case rel =>
        refine ⟨k + 1, by omega, by go_num, ?_, ?_, (HB3.out.setCell (p := ⟨w.heap.size, 0, none⟩) (Nat.le_refl _) _).setCell (p := ⟨w.heap.size, 1, none⟩) (Nat.le_refl _) _⟩
        · rw [HX.out.1]
          have hne : v'.ownBlock ≠ some w.heap.size := HO3.out.ne_ HW3.out (by decide)
          exact HO3.out.only fun g hg => by
            have hg : g ≠ w.heap.size := fun e => hne (e ▸ hg)
            rw [Below.heap_setCell _ _ _ _ hg, Below.heap_setCell _ _ _ _ hg]
        · rw [HX.out.2]
          exact Blk.set_ (Blk.set_ HW3.out 0 (.bool x1)) 1 (.bool x2)
      case measure => simp [intOf]; omega
    · have hk' : k = n := by omega
      subst hk'
      go_wp2_with fail
      go_ret
      exact ⟨_, rfl, by unfold evs; rw [HL.out]; exact HO.out, HB.out⟩
end Go.Proofs.Ytilaldojbgbegaa
