/-
  THE WALKS OF (*Chip).Bytes, Left, Pointer, Waits.
-/
import Derived.Test.YtfcdlnpfneinlaaDoorEColl
import Derived.Test.YtfcdlnpfneinlaaDoorEPlain
import Derived.Test.YtfcdlnpfneinlaaDoorBClone
import Derived.Test.YtfcdlnpfneinlaaDoorCFun
import Derived.Shelf.AbstractIn
namespace Go.Proofs.YtfcdlnpfneinlaaDoor
open Go.RowKit Go.Maps Go.Sort Go.Shelf
set_option maxRecDepth 20000

/-- the places that were collected, rising -/
def keysL (n : Nat) (l : List (Int × Int)) : List Int := ((List.range n).filter fun i : Nat => (getL l (i : Int)).isSome).map fun i : Nat => (i : Int)
/-- what was collected last for each -/
def valsL (n : Nat) (l : List (Int × Int)) : List Int := (keysL n l).map fun k => (getL l k).getD 0
def Chip.places (s : Chip) : List Int := keysL s.data.length s.wait
def Chip.values (s : Chip) : List Int := valsL s.data.length s.wait
theorem keysL_nil (n : Nat) : keysL n [] = [] := by simp [keysL, getL]
theorem keysL_sorted (n : Nat) (l : List (Int × Int)) : (keysL n l).Pairwise (fun a b => a < b) := by
  unfold keysL
  rw [List.pairwise_map]
  refine List.Pairwise.filter _ ?_
  exact List.pairwise_lt_range.imp fun h => by simpa using h
theorem mem_keysL (n : Nat) (l : List (Int × Int)) (k : Int) : k ∈ keysL n l ↔ 0 ≤ k ∧ k < n ∧ (getL l k).isSome = true := by
  unfold keysL
  simp only [List.mem_map, List.mem_filter, List.mem_range]
  constructor
  · rintro ⟨a, ⟨h1, h2⟩, rfl⟩
    exact ⟨Int.natCast_nonneg _, by simpa using h1, h2⟩
  · rintro ⟨h1, h2, h3⟩
    have e := Int.toNat_of_nonneg h1
    exact ⟨k.toNat, ⟨by omega, by rw [e]; exact h3⟩, e⟩
theorem keysL_len (n : Nat) (l : List (Int × Int)) : (keysL n l).length ≤ n := by
  unfold keysL
  rw [List.length_map]
  have := List.length_filter_le (fun i : Nat => (getL l (i : Int)).isSome) (List.range n)
  simpa using this
theorem keys_sorted {w : World} {b m n : Nat} {l : List (Int × Int)} {D : DataW Unit} (hown : w.ownsMap Tryd.prog 3 plainB b m D) (hR : Reads D l) (hl : ∀ x ∈ l, 0 ≤ x.1 ∧ x.1 < (n : Int))
    {ss : List Int} (hp : ss.Perm (intKeys D)) : ss.mergeSort (fun x y => decide (x ≤ y)) = keysL n l := by
  obtain ⟨es, hD, hpw, _⟩ := hown.entries law3
  obtain ⟨es', hD', hko⟩ := hown.keysOf
  obtain rfl : es = es' := by rw [hD] at hD'; simpa using hD'
  have hperm : (keysL n l).Perm (intKeys D) := by
    rw [hD]
    refine perm_intKeys hpw (fun q hq => by obtain ⟨v, hv⟩ := hko q hq; obtain ⟨x, _, hx, _⟩ := Maps.keyOf_i64 Tryd.underlying3 hv; exact ⟨x, hx⟩) ((keysL_sorted n l).imp fun h => by omega) (fun x => ?_)
    rw [← hD, hR.has x, mem_keysL]
    constructor
    · exact fun h => h.2.2
    · intro hx
      obtain ⟨c, hc⟩ := Option.isSome_iff_exists.1 hx
      have := hl _ (getL_mem hc)
      exact ⟨this.1, this.2, hx⟩
  have h1 := mergeSort_of_perm_i (hp.trans hperm.symm)
  have h2 : (keysL n l).mergeSort leI = keysL n l := List.mergeSort_of_pairwise ((keysL_sorted n l).imp fun h => by simp [leI]; omega)
  exact h1.trans h2
theorem sortsA (m : Nat) : AnyZI.SortsIn Tryd.prog Tryd.sortedA_ren Fence.wide m :=
  ⟨fun blk off cap ss W hH hblk hsz => callsIn_wide.2 (AnyM.slices_Sort_int Tryd.sortA blk off cap ss W hH hblk hsz),
   fun p cap W => callsIn_wide.2 (AnyM.slices_Sort_int_none Tryd.sortA p cap W)⟩
theorem keys_any (mb : Option Nat) (W : World) : Calls Tryd.prog 50 #[.map mb] W fun e w' => e = .returned (.func (.func 73) #[] #[.pointer (some ⟨W.heap.size, 0, none⟩)]) ∧ w' = W.alloc (.cells #[.map mb] 68) :=
  callsIn_wide.1 (AnyZI.keys_in Tryd.keysA Fence.wide 5 trivial rfl mb W)
theorem OwnK.of_row {k : IntKind} {t base base' n : Nat} {w : World} {v : Value} {l : List Int} (h : w.ownsRow base t 1 v n (l.map (Value.int k))) (hb : base' ≤ base) : OwnK k t base' w v l := by
  have hl : l.length = n := by have := h.1; simpa using this
  subst hl
  refine ⟨h.1, ?_⟩
  rcases h.2 with h0 | ⟨g, cap, cur, rfl, hg, r⟩
  · exact .inl h0
  · exact .inr ⟨g, cap, cur, rfl, Nat.le_trans hb hg, r⟩
theorem sorted_any (w : World) (m : Option Nat) (n : Nat) (l : List (Int × Int)) (h : MapIs w m l) (hl : ∀ x ∈ l, 0 ≤ x.1 ∧ x.1 < (n : Int)) (hlen : l.length ≤ 1000000) :
    Calls Tryd.prog 49 #[.func (.func 73) #[] #[.pointer (some ⟨w.heap.size, 0, none⟩)]] (w.alloc (.cells #[.map m] 68)) fun e w' =>
      ∃ v, e = .returned v ∧ OwnK .i64 3 w.heap.size w' v (keysL n l) ∧ Below w.heap.size w w' := by
  rcases h with ⟨rfl, rfl⟩ | ⟨b, D, rfl, h1, hown, hR⟩
  · have hseq : SeqGives Fence.wide 2 Tryd.prog 73 #[.pointer (some ⟨w.heap.size, 0, none⟩)] encZ (fun ss : List Int => ss = []) 0 (w.alloc (.cells #[.map none] 68)) :=
      AnyZI.keys_gives_nil (ρ := Tryd.keysA_ren) { Tryd.keysA with } Fence.wide _ trivial rfl w.heap.size _ (by simp) (by simp)
    have cS := AnyZI.sorted_in Tryd.sortedA Fence.wide 5 trivial trivial trivial trivial rfl (by omega) (sortsA _) (enters_of Tryd.func72 (by kernel_rfl) rfl) 73 #[.pointer (some ⟨w.heap.size, 0, none⟩)] trivial (enters_of Tryd.func73 (by kernel_rfl) rfl) _ _ (by unfold maxLen; omega) (by omega) _ hseq
    refine (callsIn_wide.1 cS).mono ?_
    rintro e w' ⟨v, ss, rfl, rfl, hrow, hnil, hb⟩
    refine ⟨v, rfl, ?_, (below_box w _).trans (hb.mono (by simp))⟩
    rw [keysL_nil]
    exact OwnK.of_row (l := []) (by have h9 := hrow; simp at h9; exact h9) (Nat.le_succ _)
  · have hbl := hown.lt
    have hsz := hown.size_le
    have hseq : SeqGives Fence.wide 2 Tryd.prog 73 #[.pointer (some ⟨w.heap.size, 0, none⟩)] encZ (fun ss => ss.Perm (intKeys D)) (Maps.size D) (w.alloc (.cells #[.map (some b)] 68)) :=
      AnyZI.keys_gives (ρ := Tryd.keysA_ren) { Tryd.keysA with } Fence.wide _ trivial rfl (by omega) w.heap.size b l.length D _ (by simp) (by simp) (by
        obtain ⟨es, clock, hb, Ft, hs, hD⟩ := hown
        exact ⟨es, clock, (Below.heap_alloc _ _ b hbl).trans hb, Ft, hs, hD⟩)
    have cS := AnyZI.sorted_in Tryd.sortedA Fence.wide 5 trivial trivial trivial trivial rfl (by omega) (sortsA _) (enters_of Tryd.func72 (by kernel_rfl) rfl) 73 #[.pointer (some ⟨w.heap.size, 0, none⟩)] trivial (enters_of Tryd.func73 (by kernel_rfl) rfl) _ _ (by unfold maxLen; omega) (by omega) _ hseq
    refine (callsIn_wide.1 cS).mono ?_
    rintro e w' ⟨v, ss, rfl, hS, hrow, hnil, hb⟩
    rw [keys_sorted hown hR hl hS] at hrow
    refine ⟨v, rfl, ?_, (below_box w _).trans (hb.mono (by simp))⟩
    exact OwnK.of_row hrow (by simp)

theorem left_any (w : World) (p : Nat) (F : Nat → Prop) (s : Chip) (h : ChipAt w p F s) : Calls Tryd.prog 18 #[.pointer (some ⟨p, 0, none⟩)] w fun e w' => e = .returned (.int .i64 s.left) ∧ w = w' := by
  obtain ⟨_, _, _, _, _, h⟩ := h
  have c4 := h.blk.cell 14
  simp only [cellsOf, List.getElem?_toArray, List.getElem?_cons_zero, List.getElem?_cons_succ] at c4
  clear h
  go_enter Tryd.func18, Tryd.ntmps18
  go_wp2_with fail
  go_ret
  exact ⟨rfl, rfl⟩
theorem pointer_any (w : World) (p : Nat) (F : Nat → Prop) (s : Chip) (h : ChipAt w p F s) : Calls Tryd.prog 19 #[.pointer (some ⟨p, 0, none⟩)] w fun e w' => e = .returned (.int .i64 s.pointer) ∧ w = w' := by
  obtain ⟨_, _, _, _, _, h⟩ := h
  have c4 := h.blk.cell 11
  simp only [cellsOf, List.getElem?_toArray, List.getElem?_cons_zero, List.getElem?_cons_succ] at c4
  clear h
  go_enter Tryd.func19, Tryd.ntmps19
  go_wp2_with fail
  go_ret
  exact ⟨rfl, rfl⟩
/-- the chip's bytes, where they are -/
theorem ChipIn.nums {w : World} {p d cap l : Nat} {cm wm : Option Nat} {F : Nat → Prop} {s : Chip} (h : ChipIn w p d cap l cm wm F s) (hb : ∀ v ∈ s.data, 0 ≤ v ∧ v ≤ 255) : Nums .u8 w w.heap.size (some ⟨d, 0, none⟩) s.data.length s.data :=
  (h.data.nums_at fun v hv => byte_wf (hb v hv)).1
set_option maxHeartbeats 4000000 in
theorem bytes_any (w : World) (p : Nat) (F : Nat → Prop) (s : Chip) (n : Int) (h : ChipAt w p F s) (hok : s.Ok n) : Calls Tryd.prog 22 #[.pointer (some ⟨p, 0, none⟩)] w fun e w' => ∃ v, e = .returned v ∧ OwnK .u8 5 w.heap.size w' v s.data ∧ Below w.heap.size w w' := by
  obtain ⟨d, cap, l, cm, wm, h⟩ := h
  have HN := Lib.hid (h.nums hok.byte)
  have hp := hok.pos
  unfold Chip.size at hp
  have HL := Lib.hid (show s.data.length ≤ 1000000 by omega)
  have c1 := h.blk.cell 1
  simp only [cellsOf, List.getElem?_toArray, List.getElem?_cons_zero, List.getElem?_cons_succ] at c1
  clear h hp hok
  go_enter Tryd.func22, Tryd.ntmps22
  go_wp2_with fail
  refine (clone_any w _ _ _ _ s.data HN.out (Nat.le_refl _) HL.out).mono ?_
  rintro e w' ⟨v, rfl, ho, hb⟩
  have HO := Lib.hid ho
  have HB := Lib.hid hb
  clear ho hb
  go_wp2_with fail
  go_ret
  exact ⟨v, rfl, HO.out, HB.out⟩
theorem valsL_len (n : Nat) (l : List (Int × Int)) : (valsL n l).length = (keysL n l).length := by simp [valsL]
theorem valsL_get (n : Nat) (l : List (Int × Int)) (k : Nat) (h : k < (keysL n l).length) : (valsL n l).getD k 0 = (getL l ((keysL n l).getD k 0)).getD 0 := by
  simp [valsL, List.getD, h]
set_option maxRecDepth 100000 in
set_option maxHeartbeats 4000000 in
theorem waits_any (w : World) (p : Nat) (F : Nat → Prop) (s : Chip) (n : Int) (h : ChipAt w p F s) (hok : s.Ok n) (hn : n ≤ 1000000) : Calls Tryd.prog 17 #[.pointer (some ⟨p, 0, none⟩)] w fun e w' =>
    ∃ u v, e = .returned (.tuple #[u, v]) ∧ OwnK .i64 3 w.heap.size w' u s.places ∧ OwnK .u8 5 w.heap.size w' v s.values ∧ Below w.heap.size w w' := by
  obtain ⟨d, cap, l, cm, wm, hin⟩ := h
  have HI := Lib.hid hin
  have HK := Lib.hid hok
  have hlt := hin.blk.lt
  have c13 := hin.blk.cell 13
  simp only [cellsOf, List.getElem?_toArray, List.getElem?_cons_zero, List.getElem?_cons_succ] at c13
  have HM := Lib.hid hin.wait
  have HWI := Lib.hid (show ∀ x ∈ s.wait, 0 ≤ x.1 ∧ x.1 < (s.data.length : Int) from fun x hx => (hok.wait x hx).1)
  have HWL := Lib.hid (show s.wait.length ≤ 1000000 by have := hok.waits; omega)
  clear hin hok
  go_enter Tryd.func17, Tryd.ntmps17
  go_wp2_with fail
  refine (keys_any wm w).mono ?_
  rintro e w1 ⟨rfl, rfl⟩
  go_wp2_with fail
  refine (sorted_any w wm s.data.length s.wait HM.out HWI.out HWL.out).mono ?_
  rintro e w1 ⟨u, rfl, hu, hb⟩
  have HU := Lib.hid hu
  have HB := Lib.hid hb
  obtain ⟨A, c, rfl⟩ := hu.form
  obtain ⟨m, hm⟩ : ∃ m, (keysL s.data.length s.wait).length = m := ⟨_, rfl⟩
  rw [hm] at HU ⊢
  have HML := Lib.hid hm
  have hm6 : m ≤ 1000000 := by
    have h1 := keysL_len s.data.length s.wait
    have h2 := HK.out.pos
    unfold Chip.size at h2
    omega
  have c13' := (hb.cell (p := ⟨p, 13, none⟩) hlt).trans c13
  clear hu hb hm c13
  have HS1 := Lib.hid hlt
  have hz0 : ∀ w, (zeroValue 5).run Tryd.prog w = .ok (.int .u8 0) w := Tryd.zeroValue5
  go_wp2_with fail
  go_loopw [5, 7, 16] (fun v _ i wr => ∃ k : Nat, k ≤ m ∧ i = .int .i64 k ∧ OwnK .u8 5 w1.heap.size wr v ((valsL s.data.length s.wait).take k) ∧ Below w1.heap.size w1 wr) (fun _ _ i _ => m - (intOf i).toNat)
  case atStart => exact ⟨0, Nat.zero_le _, rfl, OwnK.nil _ _ _ _, Below.refl _ _⟩
  case round =>
    obtain ⟨k, hk, rfl, hv, hbr⟩ := hrel
    have HV := Lib.hid hv
    have HBR := Lib.hid hbr
    by_cases hlt2 : k < m
    · obtain ⟨A', c', e, _, hmine⟩ := HU.out.mine
      injection e with e1 e2 e3
      clear e2
      subst e1 e3
      obtain ⟨g, rfl, hgw, hgs, hgc⟩ := hmine.2 (by rw [HML.out]; omega)
      have cu := (hbr.cell (p := ⟨g, k, none⟩) hgs).trans (hgc k (by rw [HML.out]; omega)).1
      have hz := (mem_keysL s.data.length s.wait ((keysL s.data.length s.wait).getD k 0)).1 (by
        rw [show (keysL s.data.length s.wait).getD k 0 = (keysL s.data.length s.wait)[k]'(by rw [HML.out]; exact hlt2) by simp [List.getD, HML.out, hlt2]]
        exact List.getElem_mem _)
      have hvg := valsL_get s.data.length s.wait k (by rw [HML.out]; exact hlt2)
      have hts := take_succ_getD (valsL s.data.length s.wait) k (by rw [valsL_len, HML.out]; exact hlt2)
      generalize (keysL s.data.length s.wait).getD k 0 = z at *
      obtain ⟨hz0', hz1, hz2⟩ := hz
      obtain ⟨y, hy⟩ := Option.isSome_iff_exists.1 hz2
      rw [hvg, hy] at hts
      have hyb := (HK.out.wait _ (getL_mem hy)).2
      have hp := HK.out.pos
      unfold Chip.size at hp
      obtain ⟨mb, D, rfl, hne, hown, hR⟩ : ∃ b D, wm = some b ∧ s.wait ≠ [] ∧ w.ownsMap Tryd.prog 3 plainB b s.wait.length D ∧ Reads D s.wait := by
        rcases HM.out with ⟨_, h⟩ | h
        · rw [h] at hy; cases hy
        · exact h
      have hkey := key3 z (by omega) (by omega)
      have hb' : Below w.heap.size w wr := HB.out.trans (hbr.mono HB.out.size)
      obtain ⟨c9, hlook, hat, _⟩ := (ownsMap_of_eq hown (hb'.block mb hown.lt)).lookup_int law3 Tryd.underlying68 Tryd.underlying5 (hz0 wr) hkey
      obtain rfl : c9 = y := by
        have h9 := hR z
        rw [hy] at h9
        have e := (h9 (.lit (.int .u8 0))).symm.trans hat
        simp only [DataW.lit.injEq, Lit.int.injEq, true_and] at e
        exact e.symm
      have c13 := (hbr.cell (p := ⟨p, 13, none⟩) (Nat.lt_of_lt_of_le HS1.out HB.out.size)).trans c13'
      have hkl : k + 1 ≤ 1000000 := by
        have h1 := keysL_len s.data.length s.wait
        have h2 := HML.out
        omega
      obtain ⟨v', w', hrun, ho', hb''⟩ := append_one elemB wr w1.heap.size 22 _ _ HV.out c9 (byte_wf hyb) (by rw [List.length_take]; omega) hbr.size
      have R := Lib.hid (And.intro (show OwnK .u8 5 w1.heap.size w' v' ((valsL s.data.length s.wait).take (k + 1)) by rw [hts]; exact ho') (hbr.trans hb''))
      have HRUN := Lib.hid hrun
      have hk1 : (k : Int) < (m : Int) := by omega
      clear hrun ho' hb'' hts hvg hy hyb hkey hown hR hne hat hz0' hz1 hz2 hp hgc hgw hmine hv hbr hb' hkl hz0
      go_wp2_with (at_builtin; refine Lib.wpList_append_run _ rfl _ _ _ _ rfl _ _ rfl rfl _ _ HRUN.out ?_)
      go_roundw
      case rel => exact ⟨k + 1, by omega, by go_num, R.out.1, R.out.2⟩
      case measure => simp [intOf]; omega
    · obtain rfl : k = m := by omega
      have HV2 := Lib.hid (show OwnK .u8 5 w1.heap.size wr _ (valsL s.data.length s.wait) by have := HV.out; rwa [List.take_of_length_le (by rw [valsL_len, HML.out]; exact Nat.le_refl _)] at this)
      have HU2 := Lib.hid (HU.out.below hbr)
      have HB2 := Lib.hid (HB.out.trans (hbr.mono HB.out.size))
      clear hv hbr
      go_wp2_with fail
      go_ret2
      refine ⟨_, _, rfl, HU2.out, ?_, HB2.out⟩
      exact OwnK.of_row (n := (valsL s.data.length s.wait).length) HV2.out HB.out.size
end Go.Proofs.YtfcdlnpfneinlaaDoor
