/-
  THE WALK OF THE DOCUMENT's Runs.
-/
import Derived.Test.YtilaldojbgbegaaWRuns
namespace Go.Proofs.Ytilaldojbgbegaa
open Go.RowKit
set_option maxRecDepth 20000

section
variable {w w' : World} {base : Nat} {v : Value} {rs : List RunD}
theorem Shut_.below (h : Shut_ w base v rs) (hb : Below w.heap.size w w') : Shut_ w' base v rs := h.keeps (Keeps.of_below hb) (fun _ h => h.elim)
theorem Shut_.lower {low : Nat} (h : Shut_ w base v rs) (hl : low ≤ base) : Shut_ w low v rs := by
  obtain ⟨vs, h1, h2⟩ := h.out
  exact ⟨vs, h1.lower hl, h2.1, fun i x r hx hr => ⟨(h2.2 i x r hx hr).1, (h2.2 i x r hx hr).2.1.lower hl, (h2.2 i x r hx hr).2.2⟩⟩
/-- one more run, as it is -/
theorem Shut_.push (h : Shut_ w base v rs) (x : Option Addr × Nat × Nat) (bits : List Bool) (st : Bool) (hx : OwnM boolE 4 base w (sl x) bits) (hlen : rs.length ≤ 1000) (hbase : base ≤ w.heap.size) :
    ∃ v' w', (Builtin.append_ #[33, 33] 33 #[v, .slice (some ⟨w.heap.size, 0, none⟩) 1 1]).run Try.prog (w.alloc (.cells #[sl x, .bool st] 40)) = .ok v' w' ∧
      Shut_ w' base v' (rs ++ [(bits, st)]) ∧ Below base w w' := by
  obtain ⟨vs, h1, h2⟩ := h.out
  obtain ⟨v', w', hr, ho, hb, hg, _⟩ := append_onem elemRun w base 33 v vs h1 (x, st) #[sl x, .bool st] rfl (by rw [h2.1]; omega) hbase
  have hk1 : Keeps No w (w.alloc (.cells #[sl x, .bool st] 40)) := Keeps.of_below (below_box w _)
  have hk : Keeps (fun b => ∃ cs, Blk w b 40 cs) w w' := hk1.no.then (Keeps.of_grown hg) (fun b hb => .inl (h1.blk hb))
  refine ⟨v', w', hr, ⟨vs ++ [(x, st)], ho, ?_⟩, hb⟩
  refine ((h2.keeps hk fun b hb => ?_).mono hk.size).snoc _ _ rfl (hx.keeps hk fun g hg hs => ?_) (fun g hg => Nat.lt_of_lt_of_le (hx.lt hg).2 hk.size)
  · obtain ⟨cs, hb⟩ := hb
    exact .inr ⟨_, cs, hb, by decide⟩
  · obtain ⟨cs, hb⟩ := hs
    exact hx.ne_ hb (by decide) hg
end

/-- a run that is looked at: its box, its bits -/
structure Looks (W wx : World) (q : Nat) (l : List Lev) (i m : Nat) (x : Option Addr × Nat × Nat) (bits : List Bool) (st : Bool) : Prop where
  col : col l i m = ((bits, st), !st)
  box : Blk wx q 40 #[sl x, .bool st]
  own : OwnM boolE 4 (q + 1) wx (sl x) bits
  bel : Below q W wx
  lt : q < wx.heap.size
theorem Looks.risen {W wx : World} {q i m : Nat} {l : List Lev} {x : Option Addr × Nat × Nat} {bits : List Bool} (h : Looks W wx q l i m x bits false) (b : Bool) (hlen : bits.length ≤ 1000) :
    ∃ v' w', (Builtin.append_ #[36, 36] 36 #[sl x, .slice (some ⟨wx.heap.size, 0, none⟩) 1 1]).run Try.prog (wx.alloc (.cells #[.bool b] 4)) = .ok v' w' ∧
      ∃ y : Option Addr × Nat × Nat, v' = sl y ∧ w'.cell? ⟨q, 0, none⟩ = some (sl x) ∧ w'.frozen? ⟨q, 0, none⟩ = false ∧ Blk (w'.setCell ⟨q, 0, none⟩ v') q 40 #[v', .bool false] ∧
      OwnM boolE 4 (q + 1) (w'.setCell ⟨q, 0, none⟩ v') v' (bits ++ [b]) ∧ Below q W (w'.setCell ⟨q, 0, none⟩ v') ∧ q < (w'.setCell ⟨q, 0, none⟩ v').heap.size := by
  have hq := h.lt
  obtain ⟨v', w', hr, ho, hbel, hg, _⟩ := append_onem elemBool wx (q + 1) 36 (sl x) bits h.own b #[.bool b] rfl (by omega) h.lt
  obtain ⟨A, c, e⟩ := ho.form
  have hb : Blk w' q 40 #[sl x, .bool false] := h.box.of_eq (hbel.block q (by omega))
  refine ⟨v', w', hr, (A, _, c), e, (hb.cell 0).trans rfl, hb.frozen 0, hb.set_ 0 v', ?_, ?_, ?_⟩
  · exact ho.only fun g hg => Below.heap_setCell _ _ _ _ (by have := (ho.lt hg).1; show g ≠ q; omega)
  · exact (h.bel.trans (hbel.mono (by omega))).setCell (p := ⟨q, 0, none⟩) (Nat.le_refl _) v'
  · simp [World.setCell]
    exact Nat.lt_of_lt_of_le hq hbel.size
theorem Looks.set {W wx : World} {q i m : Nat} {l : List Lev} {x : Option Addr × Nat × Nat} {bits : List Bool} {u : Value} (st : Bool) (hb : Blk wx q 40 #[sl x, u]) (ho : OwnM boolE 4 (q + 1) wx (sl x) bits) (hbel : Below q W wx)
    (hl : q < wx.heap.size) (hc : Go.Proofs.Ytilaldojbgbegaa.col l i m = ((bits, st), !st)) : Looks W (wx.setCell ⟨q, 1, none⟩ (.bool st)) q l i m x bits st :=
  ⟨hc, hb.set_ 1 (.bool st), ho.only fun g hg => Below.heap_setCell _ _ _ _ (by have := (ho.lt hg).1; show g ≠ q; omega), hbel.setCell (p := ⟨q, 1, none⟩) (Nat.le_refl _) _, by simpa [World.setCell] using hl⟩
/-- what stands at the end -/
theorem col_end {l : List Lev} {i m : Nat} {bits : List Bool} {st : Bool} (hc : col l i m = ((bits, st), !st)) (hm : i + 1 + m ≤ l.length) (h : i + 1 + m = l.length ∨ ev l (i + 1 + m) = 1 ∨ st = true) : (col l i (l.length - (i + 1))).1 = (bits, st) := by
  rcases h with h | h | h
  · rw [show l.length - (i + 1) = m by omega, hc]
  · by_cases he : i + 1 + m = l.length
    · rw [show l.length - (i + 1) = m by omega, hc]
    · have h1 : col l i (m + 1) = ((bits, st), false) := by rw [col, h, cs_start, hc]
      rw [show l.length - (i + 1) = (m + 1) + (l.length - (i + 1) - (m + 1)) by omega, col_closed l i (m + 1) (by rw [h1]), h1]
  · subst h
    rw [show l.length - (i + 1) = m + (l.length - (i + 1) - m) by omega, col_closed l i m (by rw [hc]; rfl), hc]
theorem col_bits (l : List Lev) (i : Nat) : ∀ m, (col l i m).1.1.length ≤ m
  | 0 => by simp [col]
  | m + 1 => by
    have := col_bits l i m
    have h2 := cs_len (ev l (i + 1 + m)) (at_ l (i + 1 + m)).2 (col l i m)
    rw [col]
    omega

set_option maxRecDepth 100000 in
set_option maxHeartbeats 4000000 in
theorem refRuns_any (w : World) (A : Option Addr) (n c B : Nat) (l : List Lev) (h : Many levE w B A n l) (hB : B ≤ w.heap.size) (hn : n ≤ 1000) :
    Calls Try.prog 16 #[.slice A n c] w (Makes w (runs l)) := by
  have H := Lib.hid h
  have HL := Lib.hid h.1
  clear h
  go_enter Try.func16, Try.ntmps16
  go_wp2_with fail
  refine (refEvents_any w A n c B l H.out hB hn).mono ?_
  rintro e w1 ⟨v1, rfl, ho1, hb1⟩
  have hel : (evs l).length = n := by rw [← HL.out]; exact evTo_len _ _
  obtain ⟨Ae, ce, rfl, _, _, hm1⟩ := ho1.many
  rw [hel] at hm1 ⊢
  have HE := Lib.hid hm1
  have HB1 := Lib.hid hb1
  clear ho1 hm1 hb1 hel
  go_wp2_with fail
  go_loopw [4, 5] (fun v i wr => ∃ k : Nat, k ≤ n ∧ i = .int .i64 k ∧ Shut_ wr w1.heap.size v (refTo l k) ∧ Below w1.heap.size w1 wr) (fun _ i _ => n - (intOf i).toNat)
  case atStart => exact ⟨0, Nat.zero_le _, rfl, ⟨[], OwnM.nil _ _ _ _, Ended.nil _ _ _⟩, Below.refl _ _⟩
  case round =>
    obtain ⟨k, hk, rfl, hown, hbel⟩ := hrel
    have HO := Lib.hid hown
    have HB := Lib.hid hbel
    clear hown hbel
    by_cases hlt : k < n
    · have hkn : (k : Int) < (n : Int) := by omega
      have hk0 : (0 : Int) ≤ (k : Int) := by omega
      obtain ⟨be, oe, rfl, he⟩ := HE.out.cell HB.out k (ev l k) (evTo_get _ _ _ (by rw [HL.out]; exact hlt))
      have e0 : wr.cell? ⟨be, oe + k, none⟩ = some (.int .i64 (ev l k)) := by simpa [intE] using he 0 _ rfl
      have HRT := Lib.hid (refTo_succ l k)
      have HRL := Lib.hid (show (refTo l k).length ≤ 1000 by have := refTo_len l k; omega)
      clear he
      by_cases hs : ev l k = 1
      · have HS := Lib.hid hs
        rw [hs] at e0
        clear hs
        have hba := below_box wr (.cells #[.slice none 0 0, .bool false] 40)
        have HBX := Lib.hid (Blk.new wr 40 #[.slice none 0 0, .bool false])
        have HO2 := Lib.hid (HO.out.below hba)
        have HB2 := Lib.hid (HB.out.trans (hba.mono HB.out.size))
        have HSZ := Lib.hid (show (wr.alloc (.cells #[.slice none 0 0, .bool false] 40)).heap.size = wr.heap.size + 1 by simp)
        have HBL := Lib.hid hba
        clear hba
        have hw1 : IntKind.i64.wrap ((k : Int) + 1) = ((k + 1 : Nat) : Int) := by rw [IntKind.wrap_i64]; omega
        obtain ⟨q, hq⟩ : ∃ q, wr.heap.size = q := ⟨_, rfl⟩
        have HQ := Lib.hid hq
        go_wp2_with fail
        rw [hq] at HBX HSZ
        clear hq
        generalize wr.alloc (.cells #[.slice none 0 0, .bool false] 40) = W at *
        obtain ⟨w2, hw2⟩ : ∃ w2, wr = w2 := ⟨_, rfl⟩
        subst hw2
        go_loopw [7] (fun i wx => ∃ m x bits st, i = .int .i64 ((k + 1 + m : Nat) : Int) ∧ k + 1 + m ≤ n ∧ Looks W wx q l k m x bits st) (fun i _ => n - (intOf i).toNat)
        case atStart => exact ⟨0, (none, 0, 0), [], false, by go_num, by omega, rfl, HBX.out, OwnM.nil _ _ _ _, Below.refl _ _, HBX.out.lt⟩
        case round =>
          obtain ⟨m, x, bits, st, rfl, hm, hlk⟩ := hrel
          have HLK := Lib.hid hlk
          clear hlk
          by_cases hj : k + 1 + m < n
          rotate_left
          · have hjn : decide (((k + 1 + m : Nat) : Int) < (n : Int)) = false := decide_eq_false (by omega)
            obtain ⟨j, hjj⟩ : ∃ j, k + 1 + m = j := ⟨_, rfl⟩
            have hj2 : ¬ ((j : Int) < (n : Int)) := by omega
            have HJ := Lib.hid hjj
            rw [hjj] at hjn hm ⊢
            have hend : (col l k (l.length - (k + 1))).1 = (bits, st) := col_end HLK.out.col (by rw [HL.out, HJ.out]; exact hm) (.inl (by rw [HL.out, HJ.out]; omega))
            have HS3 := Lib.hid (HO.out.below (HBL.out.trans (HQ.out ▸ HLK.out.bel)))
            have HB3 := Lib.hid (HB.out.trans ((HBL.out.trans (HQ.out ▸ HLK.out.bel)).mono HB.out.size))
            have HRR := Lib.hid (show refTo l (k + 1) = refTo l k ++ [(bits, st)] by rw [HRT.out, if_pos HS.out, hend])
            obtain ⟨v', w', hrun, ho', hb'⟩ := HS3.out.push x bits st (HLK.out.own.lower (by have := HB.out.size; have := HQ.out; omega)) HRL.out HB3.out.size
            have HNO := Lib.hid (show Shut_ w' w1.heap.size v' (refTo l (k + 1)) by rw [HRR.out]; exact ho')
            have HNB := Lib.hid (HB3.out.trans hb')
            obtain ⟨xa, xn, xc⟩ := x
            have b0 : wr.cell? ⟨q, 0, none⟩ = some (.slice xa xn xc) := HLK.out.box.cell 0
            have b1 : wr.cell? ⟨q, 1, none⟩ = some (.bool st) := HLK.out.box.cell 1
            unfold sl at hrun
            dsimp only at hrun
            have HRUN := Lib.hid hrun
            clear hrun ho' hb' hend
            go_wp2_with (at_builtin; refine Lib.wpList_append_run _ rfl _ _ _ _ rfl _ _ rfl rfl _ _ HRUN.out ?_)
            go_roundw
            case rel => exact ⟨k + 1, by omega, by go_num, HNO.out, HNB.out⟩
            case measure => simp [intOf]; omega
          have HBR := Lib.hid (HB.out.trans ((HBL.out.trans (HQ.out ▸ HLK.out.bel)).mono HB.out.size))
          obtain ⟨j, hjj⟩ : ∃ j, k + 1 + m = j := ⟨_, rfl⟩
          have HJ := Lib.hid hjj
          rw [hjj] at hj hm ⊢
          clear hjj
          have hj0 : (0 : Int) ≤ (j : Int) := by omega
          have hjn : (j : Int) < (n : Int) := by omega
          obtain ⟨be2, oe2, he2, hce⟩ := HE.out.cell HBR.out j (ev l j) (evTo_get _ _ _ (by rw [HL.out]; exact hj))
          injection he2 with he2
          injection he2 with he2 he3 _
          subst he2 he3
          have y0 : wr.cell? ⟨be, oe + j, none⟩ = some (.int .i64 (ev l j)) := by simpa [intE] using hce 0 _ rfl
          have HEV := Lib.hid (show ev l j = 0 ∨ ev l j = 1 ∨ ev l j = 2 ∨ ev l j = 3 ∨ ev l j = 4 from tell_in _ _)
          have HCS := Lib.hid (show col l k (m + 1) = cs (ev l j) (at_ l j).2 ((bits, st), !st) by rw [col, HJ.out, HLK.out.col])
          clear hce e0
          by_cases he1 : ev l j = 1
          · have HX1 := Lib.hid he1
            rw [he1] at y0
            clear he1
            have hend : (col l k (l.length - (k + 1))).1 = (bits, st) := col_end HLK.out.col (by rw [HL.out, HJ.out]; exact hm) (.inr (.inl (by rw [HJ.out]; exact HX1.out)))
            have HS3 := Lib.hid (HO.out.below (HBL.out.trans (HQ.out ▸ HLK.out.bel)))
            have HB3 := Lib.hid (HB.out.trans ((HBL.out.trans (HQ.out ▸ HLK.out.bel)).mono HB.out.size))
            have HRR := Lib.hid (show refTo l (k + 1) = refTo l k ++ [(bits, st)] by rw [HRT.out, if_pos HS.out, hend])
            obtain ⟨v', w', hrun, ho', hb'⟩ := HS3.out.push x bits st (HLK.out.own.lower (by have := HB.out.size; have := HQ.out; omega)) HRL.out HB3.out.size
            have HNO := Lib.hid (show Shut_ w' w1.heap.size v' (refTo l (k + 1)) by rw [HRR.out]; exact ho')
            have HNB := Lib.hid (HB3.out.trans hb')
            obtain ⟨xa, xn, xc⟩ := x
            have b0 : wr.cell? ⟨q, 0, none⟩ = some (.slice xa xn xc) := HLK.out.box.cell 0
            have b1 : wr.cell? ⟨q, 1, none⟩ = some (.bool st) := HLK.out.box.cell 1
            unfold sl at hrun
            dsimp only at hrun
            have HRUN := Lib.hid hrun
            clear hrun ho' hb' hend
            go_wp2_with (at_builtin; refine Lib.wpList_append_run _ rfl _ _ _ _ rfl _ _ rfl rfl _ _ HRUN.out ?_)
            go_roundw
            case rel => exact ⟨k + 1, by omega, by go_num, HNO.out, HNB.out⟩
            case measure => simp [intOf]; omega
          have he1' : (ev l j != 1) = true := by simpa using he1
          cases st
          rotate_left
          · obtain ⟨st, hst⟩ : ∃ st, st = true := ⟨_, rfl⟩
            generalize hev : ev l j = ej at *
            rw [← hst] at HLK
            have HST := Lib.hid hst
            clear hst
            have hend : (col l k (l.length - (k + 1))).1 = (bits, st) := col_end HLK.out.col (by rw [HL.out, HJ.out]; exact hm) (.inr (.inr HST.out))
            have HS3 := Lib.hid (HO.out.below (HBL.out.trans (HQ.out ▸ HLK.out.bel)))
            have HB3 := Lib.hid (HB.out.trans ((HBL.out.trans (HQ.out ▸ HLK.out.bel)).mono HB.out.size))
            have HRR := Lib.hid (show refTo l (k + 1) = refTo l k ++ [(bits, st)] by rw [HRT.out, if_pos HS.out, hend])
            obtain ⟨v', w', hrun, ho', hb'⟩ := HS3.out.push x bits st (HLK.out.own.lower (by have := HB.out.size; have := HQ.out; omega)) HRL.out HB3.out.size
            have HNO := Lib.hid (show Shut_ w' w1.heap.size v' (refTo l (k + 1)) by rw [HRR.out]; exact ho')
            have HNB := Lib.hid (HB3.out.trans hb')
            obtain ⟨xa, xn, xc⟩ := x
            have b0 : wr.cell? ⟨q, 0, none⟩ = some (.slice xa xn xc) := HLK.out.box.cell 0
            have b1 : wr.cell? ⟨q, 1, none⟩ = some (.bool st) := HLK.out.box.cell 1
            have hst := HST.out
            subst hst
            unfold sl at hrun
            dsimp only at hrun
            have HRUN := Lib.hid hrun
            clear hrun ho' hb' hend
            go_wp2_with (at_builtin; refine Lib.wpList_append_run _ rfl _ _ _ _ rfl _ _ rfl rfl _ _ HRUN.out ?_)
            go_roundw
            case rel => exact ⟨k + 1, by omega, by go_num, HNO.out, HNB.out⟩
            case measure => simp [intOf]; omega
          have q0 := HLK.out.box.cell 0
          have q1 := HLK.out.box.cell 1
          have f0 := HLK.out.box.frozen 0
          have f1 := HLK.out.box.frozen 1
          simp only [List.getElem?_toArray, List.getElem?_cons_zero, List.getElem?_cons_succ] at q0 q1
          rcases HEV.out with he | he | he | he | he
          · have hc : col l k (m + 1) = ((bits, false), true) := by rw [HCS.out, he]; rfl
            obtain ⟨xa, xn, xc⟩ := x
            have HN := Lib.hid (HLK.out.box.set_ 1 (.bool false))
            have HLN := Lib.hid (Looks.set (m := m + 1) false HLK.out.box HLK.out.own HLK.out.bel HLK.out.lt hc)
            have HNJ := Lib.hid (show k + 1 + (m + 1) = j + 1 by rw [← HJ.out]; omega)
            rw [he] at y0
            clear hc he1 he1' he HEV HCS
            go_wp2_with fail
            go_roundw
            case rel => exact ⟨m + 1, _, _, _, by rw [HNJ.out]; go_num, by rw [HNJ.out]; omega, HLN.out⟩
            case measure => simp [intOf]; omega
          · exact absurd he he1
          · have hc : col l k (m + 1) = ((bits, true), false) := by rw [HCS.out, he]; rfl
            obtain ⟨xa, xn, xc⟩ := x
            have HN := Lib.hid (HLK.out.box.set_ 1 (.bool true))
            have HLN := Lib.hid (Looks.set (m := m + 1) true HLK.out.box HLK.out.own HLK.out.bel HLK.out.lt hc)
            have HNJ := Lib.hid (show k + 1 + (m + 1) = j + 1 by rw [← HJ.out]; omega)
            rw [he] at y0
            clear hc he1 he1' he HEV HCS
            go_wp2_with fail
            go_roundw
            case rel => exact ⟨m + 1, _, _, _, by rw [HNJ.out]; go_num, by rw [HNJ.out]; omega, HLN.out⟩
            case measure => simp [intOf]; omega
          · have HCR := Lib.hid (show k + 1 + (m + 1) = j + 1 by rw [← HJ.out]; omega)
            have hlb : bits.length ≤ 1000 := by
              have := col_bits l k m
              rw [HLK.out.col] at this
              have h2 : bits.length ≤ m := this
              have := HJ.out
              omega
            obtain ⟨b, o, hA, hcl⟩ := H.out.cell ((HB1.out.trans (HBR.out.mono HB1.out.size)).mono hB) j (at_ l j) (at_get (by rw [HL.out]; exact hj))
            subst hA
            obtain ⟨sda, hsda⟩ : ∃ sda, (at_ l j).2 = sda := ⟨_, rfl⟩
            have s1 : wr.cell? ⟨b, o + j * 2 + 1, none⟩ = some (.bool sda) := by rw [← hsda]; exact hcl 1 _ rfl
            have hc : col l k (m + 1) = ((bits ++ [sda], false), !false) := by rw [HCS.out, he, hsda]; rfl
            have hlk : Looks W wr.drew q l k m x bits false := ⟨HLK.out.col, HLK.out.box, HLK.out.own, HLK.out.bel.drew, HLK.out.lt⟩
            obtain ⟨v', w', hrun, ⟨ya, yn, yc⟩, hv, r1, r2, r3, r4, r5, r6⟩ := hlk.risen sda hlb
            subst hv
            have HLN := Lib.hid (Looks.set (m := m + 1) false r3 r4 r5 r6 hc)
            have u0 := r3.cell 0
            have u1 := r3.cell 1
            have u2 := r3.frozen 1
            simp only [List.getElem?_toArray, List.getElem?_cons_zero, List.getElem?_cons_succ] at u0 u1
            obtain ⟨xa, xn, xc⟩ := x
            have z1 : (wr.alloc (.cells #[.bool sda] 4)).cell? ⟨q, 0, none⟩ = some (.slice xa xn xc) := (World.cell?_alloc_some wr _ _ (by rw [q0]; rfl)).trans q0
            unfold sl at hrun r1 u0 u1 u2 q0 HLN
            dsimp only at hrun r1 u0 u1 u2 q0 HLN
            have HRUN := Lib.hid hrun
            have HE2 : IntKind.i64.wrap ((j : Int) + 1) = ((j + 1 : Nat) : Int) := by rw [IntKind.wrap_i64]; omega
            rw [he] at y0
            obtain ⟨be3, oe3, he3, hce⟩ := HE.out.cell (show Below w1.heap.size w1 (w'.setCell ⟨q, 0, none⟩ (.slice ya yn yc)) from HB.out.trans ((HBL.out.trans (HQ.out ▸ r5)).mono HB.out.size)) j (ev l j) (evTo_get _ _ _ (by rw [HL.out]; exact hj))
            injection he3 with he3
            injection he3 with he3 he4 _
            subst he3 he4
            have y1 : (w'.setCell ⟨q, 0, none⟩ (.slice ya yn yc)).cell? ⟨be, oe + j, none⟩ = some (.int .i64 3) := by simpa [intE, he] using hce 0 _ rfl
            clear hc he1 he1' he HEV HCS hlk hrun r3 r4 r5 r6 hcl hce hsda
            go_upto_region 12 with fail
            go_region_law (first
              | (refine step_append (by rfl) _ _ _ (by rfl) (.slice xa xn xc) (.slice (some ⟨wr.drew.heap.size, 0, none⟩) 1 1) (by rfl) (by rfl) (fun v w'' => v = .slice ya yn yc ∧ w'' = w') ⟨_, _, HRUN.out, rfl, rfl⟩ ?_
                 rintro v w'' ⟨rfl, rfl⟩)
              | fail)
            all_goals (
              go_wp2_with fail
              refine ⟨⟨m + 1, _, _, _, by rw [HCR.out]; go_num, by rw [HCR.out]; omega, HLN.out⟩, by simp [intOf]; omega⟩)
          · have hc : col l k (m + 1) = ((bits, false), true) := by rw [HCS.out, he]; rfl
            obtain ⟨xa, xn, xc⟩ := x
            have HN := Lib.hid (HLK.out.box.set_ 1 (.bool false))
            have HLN := Lib.hid (Looks.set (m := m + 1) false HLK.out.box HLK.out.own HLK.out.bel HLK.out.lt hc)
            have HNJ := Lib.hid (show k + 1 + (m + 1) = j + 1 by rw [← HJ.out]; omega)
            rw [he] at y0
            clear hc he1 he1' he HEV HCS
            go_wp2_with fail
            go_roundw
            case rel => exact ⟨m + 1, _, _, _, by rw [HNJ.out]; go_num, by rw [HNJ.out]; omega, HLN.out⟩
            case measure => simp [intOf]; omega
      · have HR := Lib.hid (show refTo l (k + 1) = refTo l k by rw [HRT.out, if_neg hs, List.append_nil])
        have hne : (ev l k != 1) = true := by simpa using hs
        generalize ev l k = ek at *
        go_wp2_with fail
        go_roundw
        case rel => exact ⟨k + 1, by omega, by go_num, by rw [HR.out]; exact HO.out, HB.out⟩
        case measure => simp [intOf]; omega
    · have hk' : k = n := by omega
      subst hk'
      go_wp2_with fail
      go_ret
      refine ⟨_, rfl, ?_, HB1.out.trans (HB.out.mono HB1.out.size)⟩
      rw [← refTo_all, HL.out]
      exact HO.out.lower HB1.out.size
end Go.Proofs.Ytilaldojbgbegaa
