/-
  THE WALKS OF cut.has, cut.laid.
-/
import Derived.Test.YtojdbmkbcjaikaaCIter
import Derived.Test.YtojdbmkbcjaikaaBClone
namespace Go.Proofs.Ytojdbmkbcjaikaa
open Go.RowKit Go.Shelf
set_option maxRecDepth 20000

theorem has_any (A : Option Addr) (n c : Nat) (z : Int) (r : Bool) (w : World) (_hn : n ≤ maxLen) (hr : decide (0 ≤ z ∧ z < n) = r) : Calls Try.prog 48 #[.slice A n c, .int .i64 z] w fun e w' => e = .returned (.bool r) ∧ w' = w := by
  by_cases h0 : 0 ≤ z
  · by_cases h1 : z < n
    · obtain rfl : r = true := by rw [← hr]; exact decide_eq_true ⟨h0, h1⟩
      clear hr
      go_enter Try.func48, Try.ntmps48
      go_wp2_with fail
      go_ret
      exact ⟨rfl, rfl⟩
    · obtain rfl : r = false := by rw [← hr]; exact decide_eq_false (fun h => h1 h.2)
      clear hr
      go_enter Try.func48, Try.ntmps48
      go_wp2_with fail
      go_ret
      exact ⟨rfl, rfl⟩
  · obtain rfl : r = false := by rw [← hr]; exact decide_eq_false (fun h => h0 h.1)
    clear hr
    go_enter Try.func48, Try.ntmps48
    go_wp2_with fail
    go_ret
    exact ⟨rfl, rfl⟩

attribute [local go_sem] Oper.semAt_some

theorem Mine.own {k : IntKind} {base n : Nat} {A : Option Addr} {l : List Int} {W W' : World} {row : Option Nat} (h : Mine k base W A n l) (hg : W.grownBy W' row) (hr : ∀ r, row = some r → ∃ o : Obj, W.heap[r]? = some o ∧ o.isCells = false) : Mine k base W' A n l := by
  refine ⟨h.1, fun hn => ?_⟩
  obtain ⟨b, e, h1, h2, h3⟩ := h.2 hn
  exact ⟨b, e, h1, Nat.lt_of_lt_of_le h2 hg.size, fun i hi => ⟨cell_kept (h3 i hi).1 hg hr, (frozen_kept (h3 i hi).1 hg hr).trans (h3 i hi).2⟩⟩

theorem Mine.put {k : IntKind} {base n b : Nat} {l : List Int} {W : World} (h : Mine k base W (some ⟨b, 0, none⟩) n l) (z : Nat) (hz : z < n) (p : Int) : Mine k base (W.setCell ⟨b, z, none⟩ (.int k p)) (some ⟨b, 0, none⟩) n (l.set z p) := by
  refine ⟨by simp [h.1], fun hn => ?_⟩
  obtain ⟨b', e, h1, h2, h3⟩ := h.2 hn
  obtain rfl : b = b' := by injection e with e; injection e
  refine ⟨b, rfl, h1, by simpa [World.setCell] using h2, fun i hi => ⟨?_, by rw [World.frozen?_setCell]; exact (h3 i hi).2⟩⟩
  by_cases e : i = z
  · subst e
    rw [World.cell?_setCell_same _ _ _ (h3 i hi).1]
    simp [List.getD, h.1, hi]
  · rw [World.cell?_setCell_other _ _ _ _ (by intro h; injection h with _ h; exact e h.symm), (h3 i hi).1]
    simp [List.getD, Ne.symm e]
theorem Mine.other {k : IntKind} {base n : Nat} {A : Option Addr} {l : List Int} {W : World} (h : Mine k base W A n l) (q : Addr) (v : Value) (hq : ∀ b, 0 < n → A = some ⟨b, 0, none⟩ → q.block ≠ b) : Mine k base (W.setCell q v) A n l := by
  refine ⟨h.1, fun hn => ?_⟩
  obtain ⟨b, e, h1, h2, h3⟩ := h.2 hn
  refine ⟨b, e, h1, by simpa [World.setCell] using h2, fun i hi => ⟨?_, by rw [World.frozen?_setCell]; exact (h3 i hi).2⟩⟩
  rw [World.cell?_setCell_other _ _ _ _ (by intro h; exact hq b hn e (by rw [h])), (h3 i hi).1]

theorem Mine.mono {k : IntKind} {base base' n : Nat} {A : Option Addr} {l : List Int} {W : World} (h : Mine k base W A n l) (hb : base' ≤ base) : Mine k base' W A n l := by
  refine ⟨h.1, fun hn => ?_⟩
  obtain ⟨b, e, h1, h2, h3⟩ := h.2 hn
  exact ⟨b, e, by omega, h2, h3⟩
/-- where the loop stands: its own boxes, and the bytes as they are by now -/
structure LaidAt (w : World) (bb : Nat) (A1 P : Option Addr) (n c1 m cp : Nat) (old ps pre : List Int) (j : Nat) (W : World) : Prop where
  le : j ≤ m
  pick : ∃ A', W.cell? ⟨w.heap.size, 0, none⟩ = some (.slice A' (m - j) (cp - j)) ∧ (j < m → ∃ b o, P = some ⟨b, o, none⟩ ∧ A' = some ⟨b, o + j, none⟩)
  free : W.frozen? ⟨w.heap.size, 0, none⟩ = false
  box : W.cell? ⟨bb, 0, none⟩ = some (.slice A1 n c1)
  mine : Mine .u8 (w.heap.size + 1) W A1 n (cellsL old pre ps)
  bel : Below w.heap.size w W
theorem LaidAt.own {w : World} {bb : Nat} {A1 P : Option Addr} {n c1 m cp : Nat} {old ps pre : List Int} {j : Nat} {W W' : World} {row : Option Nat} (h : LaidAt w bb A1 P n c1 m cp old ps pre j W) (hg : W.grownBy W' row)
    (hr : ∀ r, row = some r → w.heap.size ≤ r ∧ ∃ o : Obj, W.heap[r]? = some o ∧ o.isCells = false) : LaidAt w bb A1 P n c1 m cp old ps pre j W' := by
  have hr' := fun r e => (hr r e).2
  obtain ⟨A', h1, h2⟩ := h.pick
  exact ⟨h.le, ⟨A', cell_kept h1 hg hr', h2⟩, (frozen_kept h1 hg hr').trans h.free, cell_kept h.box hg hr', h.mine.own hg hr', h.bel.grown hg h.bel.size (fun k e => (hr k e).1)⟩

theorem LaidAt.same {w : World} {bb : Nat} {A1 P : Option Addr} {n c1 m cp : Nat} {old ps pre pre' : List Int} {j : Nat} {W : World} (h : LaidAt w bb A1 P n c1 m cp old ps pre j W) (e : cellsL old pre' ps = cellsL old pre ps) : LaidAt w bb A1 P n c1 m cp old ps pre' j W :=
  ⟨h.le, h.pick, h.free, h.box, by rw [e]; exact h.mine, h.bel⟩
theorem LaidAt.next {w : World} {bb : Nat} {A1 P A'' : Option Addr} {n c1 m cp : Nat} {old ps pre : List Int} {j j' m' c' : Nat} {W : World} (h : LaidAt w bb A1 P n c1 m cp old ps pre j W)
    (hA1 : ∀ b, 0 < n → A1 = some ⟨b, 0, none⟩ → w.heap.size + 1 ≤ b ∧ b < bb) (hbb : w.heap.size < bb) (hj : j < m) (hj' : j' = j + 1) (hm' : m' = m - (j + 1)) (hc' : c' = cp - (j + 1))
    (hA : j + 1 < m → ∃ b o, P = some ⟨b, o, none⟩ ∧ A'' = some ⟨b, o + (j + 1), none⟩) :
    LaidAt w bb A1 P n c1 m cp old ps pre j' (W.setCell ⟨w.heap.size, 0, none⟩ (.slice A'' m' c')) := by
  subst hj' hm' hc'
  obtain ⟨A', h1, h2⟩ := h.pick
  refine ⟨hj, ⟨A'', World.cell?_setCell_same _ _ _ h1, hA⟩, by rw [World.frozen?_setCell]; exact h.free, ?_, h.mine.other _ _ (fun b hn e => ?_), h.bel.setCell (p := ⟨w.heap.size, 0, none⟩) (Nat.le_refl _) _⟩
  · rw [World.cell?_setCell_other _ _ _ _ (by intro e; injection e with e; omega)]
    exact h.box
  · have := (hA1 b hn e).1
    show w.heap.size ≠ b
    omega
theorem LaidAt.drew {w : World} {bb : Nat} {A1 P : Option Addr} {n c1 m cp : Nat} {old ps pre : List Int} {j : Nat} {W : World} (h : LaidAt w bb A1 P n c1 m cp old ps pre j W) : LaidAt w bb A1 P n c1 m cp old ps pre j W.drew :=
  ⟨h.le, h.pick, h.free, h.box, h.mine, h.bel.drew⟩
theorem LaidAt.put {w : World} {bb g : Nat} {P : Option Addr} {n c1 m cp : Nat} {old ps pre pre' : List Int} {j : Nat} {W : World} (h : LaidAt w bb (some ⟨g, 0, none⟩) P n c1 m cp old ps pre j W)
    (h1 : w.heap.size + 1 ≤ g) (h2 : g < bb) (z : Nat) (hz : z < n) (p : Int) (e : cellsL old pre' ps = (cellsL old pre ps).set z p) :
    LaidAt w bb (some ⟨g, 0, none⟩) P n c1 m cp old ps pre' j (W.setCell ⟨g, z, none⟩ (.int .u8 p)) := by
  obtain ⟨A', h3, h4⟩ := h.pick
  refine ⟨h.le, ⟨A', ?_, h4⟩, by rw [World.frozen?_setCell]; exact h.free, ?_, by rw [e]; exact h.mine.put z hz p, h.bel.setCell (p := ⟨g, z, none⟩) (by show w.heap.size ≤ g; omega) _⟩
  · rw [World.cell?_setCell_other _ _ _ _ (by intro e; injection e with e; omega)]
    exact h3
  · rw [World.cell?_setCell_other _ _ _ _ (by intro e; injection e with e; omega)]
    exact h.box

set_option maxRecDepth 100000 in
set_option maxHeartbeats 4000000 in
theorem laid_in (gf : Nat) (lb : Array Value) (A P : Option Addr) (n c m cp B : Nat) (old ps zs : List Int) (w : World)
    (eg : ∀ args w, (callFunc gf args).run Try.prog w = .ok (.enter gf args) w)
    (hst : Stops 5 gf lb w.heap.size zs w)
    (ho : Nums .u8 w B A n old) (hp : Nums .u8 w B P m ps) (hB : B ≤ w.heap.size) (hn : n ≤ 100000) (hcp : m ≤ cp) (hcx : cp ≤ maxLen) :
    CallsIn Fence.wide 6 Try.prog 54 #[.slice A n c, .func (.func gf) #[] lb, .slice P m cp] w fun e w' => ∃ A' c', e = .returned (.slice A' n c') ∧ n ≤ c' ∧ Mine .u8 w.heap.size w' A' n (cellsL old zs ps) ∧ Below w.heap.size w w' := by
  refine callsIn_of_wp_marks Try.func54 rfl trivial ?_ rfl
  simp only [Try.ntmps54, List.size_toArray, List.length_cons, List.length_nil, Nat.reduceAdd, Nat.reduceSub, Array.replicate_succ, Array.replicate_zero, List.push_toArray, List.append_toArray, List.nil_append, List.cons_append]
  have HO := Lib.hid ho
  have HP := Lib.hid hp
  have HS := Lib.hid hst
  clear ho hp hst
  gi_wp2_with (refine ⟨trivial, ?_⟩; gi_at_call 36; refine (callsIn_wide.2 (clone_any _ A n c B old (HO.out.below ((below_box w _).mono hB)) (by simp; omega) (by omega))).mono ?_; rintro e w1 ⟨v, rfl, hown, hbel⟩; obtain ⟨A1, c1, rfl, hc1, hmine⟩ := hown.mine; have HM := Lib.hid hmine; have HBE := Lib.hid hbel; clear hown hmine hbel)
  have hA1 : ∀ b, 0 < n → A1 = some ⟨b, 0, none⟩ → w.heap.size + 1 ≤ b ∧ b < w1.heap.size := fun b hn e => by
    obtain ⟨b', e', h1, h2, _⟩ := HM.out.2 (by rw [HO.out.1]; exact hn)
    rw [e] at e'
    injection e' with e'
    injection e' with e'
    subst e'
    exact ⟨by simpa using h1, h2⟩
  have hsz : w.heap.size + 1 ≤ w1.heap.size := by simpa using HBE.out.size
  have HA1 := Lib.hid hA1
  clear hA1
  have hb1 : Below w.heap.size w w1 := (below_box w _).trans (HBE.out.mono (by simp))
  have hb2 : Below w.heap.size w (w1.alloc (.cells #[.slice A1 old.length c1] 22)) := hb1.alloc hb1.size _
  obtain ⟨W0, hW0⟩ : ∃ W0, w1.alloc (.cells #[.slice A1 old.length c1] 22) = W0 := ⟨_, rfl⟩
  have hbox := Boxed.new w1 22 (.slice A1 old.length c1)
  have hpick : W0.cell? ⟨w.heap.size, 0, none⟩ = some (.slice P m cp) := by
    rw [← hW0]
    exact (((below_box w1 _)).cell (p := ⟨w.heap.size, 0, none⟩) (by show w.heap.size < _; omega)).trans ((HBE.out.cell (p := ⟨w.heap.size, 0, none⟩) (by simp)).trans (Boxed.new w 22 (.slice P m cp)).cell)
  have hfree : W0.frozen? ⟨w.heap.size, 0, none⟩ = false := by
    rw [← hW0]
    have e1 : (w1.alloc (.cells #[.slice A1 old.length c1] 22)).heap[w.heap.size]? = (w.alloc (.cells #[.slice P m cp] 22)).heap[w.heap.size]? :=
      ((below_box w1 _).block w.heap.size (by omega)).trans (HBE.out.block w.heap.size (by simp))
    have := (Boxed.new w 22 (.slice P m cp)).frozen
    unfold World.frozen? at this ⊢
    rw [e1]
    exact this
  rw [hW0] at hb2 hbox ⊢
  have hszW : W0.heap.size = w1.heap.size + 1 := by rw [← hW0]; simp
  have hmine : Mine .u8 (w.heap.size + 1) W0 A1 n old := by
    have := HM.out
    rw [HO.out.1] at this
    refine ⟨this.1, fun hn => ?_⟩
    obtain ⟨b, e, h1, h2, h3⟩ := this.2 hn
    refine ⟨b, e, by simpa using h1, by omega, fun i hi => ?_⟩
    rw [← hW0]
    refine ⟨((below_box w1 _).cell (p := ⟨b, i, none⟩) h2).trans (h3 i hi).1, ?_⟩
    have e1 := (below_box w1 (.cells #[.slice A1 old.length c1] 22)).block b h2
    have := (h3 i hi).2
    unfold World.frozen? at this ⊢
    rw [e1]
    exact this
  have hno := HO.out.1
  have hpm := HP.out.1
  rw [hno] at hbox hW0 hc1 ⊢
  have h0 : LaidAt w w1.heap.size A1 P n c1 m cp old ps [] 0 W0 := by
    refine ⟨Nat.zero_le _, ⟨P, hpick, fun h => ?_⟩, hfree, hbox.cell, by simpa [cellsL] using hmine, hb2⟩
    obtain ⟨b, o, e, _⟩ := HP.out.2.2 h
    exact ⟨b, o, e, by rw [e]; rfl⟩
  have H0 := Lib.hid h0
  clear h0 hpick hfree hmine hbox hW0
  refine wpIn_rangeFunc_ownG (n := 6) rfl (by omega) (gf := gf) (lb := lb) rfl trivial eg HS.out belowK_t (belowK_b (by omega)) hb2 (fun _ => rfl)
    (fun pre W => pre.length ≤ m ∧ LaidAt w w1.heap.size A1 P n c1 m cp old ps pre pre.length W)
    (fun c pre W => c = .exit 0 ∧ m ≤ pre.length ∧ LaidAt w w1.heap.size A1 P n c1 m cp old ps pre m W)
    (fun s A B row hs hg hr => ⟨hs.1, hs.2.own hg (fun r e => ⟨by have := (hr r e).1; omega, (hr r e).2⟩)⟩)
    (fun c s A B row hs hg hr => ⟨hs.1, hs.2.1, hs.2.2.own hg (fun r e => ⟨by have := (hr r e).1; omega, (hr r e).2⟩)⟩)
    ⟨Nat.zero_le _, H0.out⟩
    (fun x => { tmps := #[.slice A n c, .func (.func gf) #[] lb, .slice P m cp, undef, undef, .pointer (some ⟨w.heap.size, 0, none⟩), .slice none 0 0, .pointer (some ⟨w1.heap.size, 0, none⟩), .int .i64 x, .slice A n c, .slice A1 n c1, .func (.func gf) #[] lb, .int .i64 x, undef, undef, undef, undef, undef, undef, undef, undef, undef, undef, undef, undef, undef, undef, undef], defers := [] }) ?assign ?body ?done ?stop
  case assign =>
    intro l x W K hK
    gi_wp2
    exact hK
  case body =>
    rintro l pre x W ⟨hpl, hat⟩ _
    have HAT := Lib.hid hat
    obtain ⟨A', hpc, hpa⟩ := hat.pick
    have hfr := hat.free
    have hbx := hat.box
    clear hat
    have hcx' : cp ≤ 9223372036854775807 := by unfold maxLen at hcx; omega
    by_cases hj : pre.length = m
    · have hz : m - pre.length = 0 := by omega
      rw [hz] at hpc
      gi_wp2
      rw [hj] at hpl
      have h3 := HAT.out
      rw [hj] at h3
      exact ⟨KeepsFrom.refl _ _, rfl, by simp; omega, h3.same (cellsL_over _ _ _ _ (by omega))⟩
    · have hjm : pre.length < m := by omega
      obtain ⟨b, o, rfl, rfl⟩ := hpa hjm
      obtain ⟨b', o', hP', hc0⟩ := HP.out.cell (HAT.out.bel.mono hB) pre.length hjm
      have hz : ((m - pre.length : Nat) : Int) ≠ 0 := by omega
      have hz1 : (0 : Int) < ((m - pre.length : Nat) : Int) := by omega
      injection hP' with hP'
      injection hP' with e1 e2
      subst e1 e2
      clear hpa
      obtain ⟨r, hr⟩ : ∃ r, decide (0 ≤ x ∧ x < (n : Int)) = r := ⟨_, rfl⟩
      have HR := Lib.hid hr
      cases r
      · clear hr
        gi_wp2_with (refine ⟨trivial, ?_⟩; gi_at_call 48; refine (CallsIn.inRound l (callsIn_wide.2 (has_any A1 n c1 x false _ (by unfold maxLen; omega) HR.out))).mono ?_; rintro e w' ⟨rfl, rfl⟩)
        all_goals
          have e0 : cellsL old (pre ++ [x]) ps = cellsL old pre ps := by
            rw [cellsL_succ _ _ _ _ (by omega)]
            unfold putL
            rw [if_neg (by rw [cellsL_len, hno]; exact of_decide_eq_false HR.out)]
          try rw [Nat.sub_sub, Nat.sub_sub]
          refine ⟨(KeepsOthers.setCell _ _ _).from _, (Below.refl w.heap.size _).setCell (p := ⟨w.heap.size, 0, none⟩) (Nat.le_refl _) _, by simp; omega, ?_⟩
          refine (HAT.out.same e0).next HA1.out (by omega) hjm (by simp) (by omega) (by omega) (fun h => ?_)
        · omega
        · exact ⟨_, _, rfl, by rw [Nat.add_assoc]⟩
      · obtain ⟨hx0, hx1⟩ := of_decide_eq_true hr
        obtain ⟨z, rfl⟩ := Int.eq_ofNat_of_zero_le hx0
        clear hr
        have hzn : z < n := by omega
        obtain ⟨g, rfl, hg1, hg2, hgc⟩ := HAT.out.mine.2 (by omega)
        obtain ⟨hg3, hg4⟩ := hgc z hzn
        obtain ⟨hg5, hg6⟩ := HA1.out g (by omega) rfl
        have hgne : g ≠ w.heap.size := by omega
        have hgne' : g ≠ w1.heap.size := by omega
        obtain ⟨y, hy⟩ : ∃ y, ps.getD pre.length 0 = y := ⟨_, rfl⟩
        rw [hy] at hc0
        have HY := Lib.hid hy
        clear hy
        clear hgc
        gi_wp2_with (refine ⟨trivial, ?_⟩; gi_at_call 48; refine (CallsIn.inRound l (callsIn_wide.2 (has_any (some ⟨g, 0, none⟩) n c1 z true _ (by unfold maxLen; omega) HR.out))).mono ?_; rintro e w' ⟨rfl, rfl⟩)
        gi_region
        all_goals gi_wp2
        all_goals
          have e0 : cellsL old (pre ++ [(z : Int)]) ps = (cellsL old pre ps).set z y := by
            rw [cellsL_succ _ _ _ _ (by omega), HY.out]
            unfold putL
            rw [if_pos (by rw [cellsL_len, hno]; omega)]
            rfl
          refine ⟨((KeepsOthers.setCell _ _ _).trans ((KeepsOthers.setCell _ _ _).trans (KeepsOthers.drew _))).from _, (((Below.refl w.heap.size _).setCell (p := ⟨g, z, none⟩) (by show _ ≤ g; omega) _).setCell (p := ⟨w.heap.size, 0, none⟩) (Nat.le_refl _) _).drew, by simp; omega, ?_⟩
          refine ((HAT.out.put hg5 hg6 z hzn y e0).next HA1.out (by omega) hjm (by simp) (by omega) (by omega) (fun h => ?_)).drew
          first | (exfalso; omega) | exact ⟨_, _, rfl, by rw [Nat.add_assoc]⟩
  case done =>
    rintro D ys W hD rfl ⟨hl, hat⟩ hK
    have HAT := Lib.hid hat
    have hbx := hat.box
    clear hat
    gi_wp2
    refine ⟨by simp, .inl ⟨_, _, rfl, run_takeDeferred hK, ?_⟩⟩
    refine ⟨_, results_tmp rfl _ _ _, A1, c1, rfl, hc1, (HAT.out.mine.own (grownBy_putObj' W D _) (fun r e => by cases e; exact ⟨_, hK, rfl⟩)).mono (by omega), ?_⟩
    exact HAT.out.bel.trans (belowK_b (w := w) (Nat.le_refl _) W D _ _ (by omega) hK rfl rfl)
  case stop =>
    rintro D cc pre W hD hpre ⟨rfl, hl, hat⟩ hK
    have HAT := Lib.hid (hat.same (cellsL_prefix hpre (by omega)).symm)
    have hbx := hat.box
    clear hat
    gi_wp2
    refine ⟨by simp, .inl ⟨_, _, rfl, run_takeDeferred hK, ?_⟩⟩
    refine ⟨_, results_tmp rfl _ _ _, A1, c1, rfl, hc1, (HAT.out.mine.own (grownBy_putObj' W D _) (fun r e => by cases e; exact ⟨_, hK, rfl⟩)).mono (by omega), ?_⟩
    exact HAT.out.bel.trans (belowK_b (w := w) (Nat.le_refl _) W D _ _ (by omega) hK rfl rfl)

/-- cut.laid, of whatever iterator stops -/
theorem laid_any (gf : Nat) (lb : Array Value) (A P : Option Addr) (n c m cp B : Nat) (old ps zs : List Int) (w : World)
    (eg : ∀ args w, (callFunc gf args).run Try.prog w = .ok (.enter gf args) w)
    (hst : Stops 5 gf lb w.heap.size zs w)
    (ho : Nums .u8 w B A n old) (hp : Nums .u8 w B P m ps) (hB : B ≤ w.heap.size) (hn : n ≤ 100000) (hcp : m ≤ cp) (hcx : cp ≤ maxLen) :
    Calls Try.prog 54 #[.slice A n c, .func (.func gf) #[] lb, .slice P m cp] w fun e w' => ∃ A' c', e = .returned (.slice A' n c') ∧ n ≤ c' ∧ Mine .u8 w.heap.size w' A' n (cellsL old zs ps) ∧ Below w.heap.size w w' :=
  callsIn_wide.1 (laid_in gf lb A P n c m cp B old ps zs w eg hst ho hp hB hn hcp hcx)
end Go.Proofs.Ytojdbmkbcjaikaa
