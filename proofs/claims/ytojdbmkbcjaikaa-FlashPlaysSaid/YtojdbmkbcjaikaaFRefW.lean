/-
  THE WALK OF THE DOCUMENT's (*Chip).Write.
-/
import Derived.Test.YtojdbmkbcjaikaaFRefAt
import Derived.IntWalk
import Derived.Deep.DeepCutAuto
namespace Go.Proofs.Ytojdbmkbcjaikaa
open Go.RowKit
set_option maxRecDepth 20000

theorem OwnM.many_at {α : Type} {E : Enc α} {t base : Nat} {w : World} {A : Option Addr} {n c : Nat} {l : List α} (h : OwnM E t base w (.slice A n c) l) : Many E w w.heap.size A n l ∧ n = l.length := by
  obtain ⟨A', c', e, _, _, hm⟩ := h.many
  injection e with e1 e2 e3
  subst e1 e2
  exact ⟨hm, rfl⟩
theorem elemW : ElemM wrE 37 63 16 := ⟨Try.underlying37, by kernel_rfl, by decide⟩
theorem many_empty (w : World) (t N : Nat) (hN : N ≤ w.heap.size) : OwnM wrE t N (w.alloc (.cells #[] t)) (.slice (some ⟨w.heap.size, 0, none⟩) 0 0) [] :=
  ⟨rfl, .inr ⟨w.heap.size, 0, #[], rfl, hN, heap_alloc_new w _, Nat.le_refl _, Nat.zero_le _, rfl, rfl⟩⟩
/-- the writes that were begun, copied -/
theorem app1 {M : Nat} {W X : World} {EB n c B : Nat} {A : Option Addr} {l : List Wr} (hX : Below M W X) (hE : OwnM wrE 63 M X (.slice (some ⟨EB, 0, none⟩) 0 0) []) (hl : Many wrE W B A n l) (hB : B ≤ M) (hn : n ≤ 100) (hM : M ≤ W.heap.size) :
    ∃ v' w', (Builtin.append_ #[37, 37] 37 #[.slice (some ⟨EB, 0, none⟩) 0 0, .slice A n c]).run Try.prog X = .ok v' w' ∧ OwnM wrE 63 M w' v' l ∧ Below M W w' ∧ X.grownBy w' (some EB) := by
  obtain ⟨v', w', h1, h2, h3, h4, _⟩ := append_many elemW X M 37 _ [] hE A n c B l (hl.below (hX.mono hB)) (by simp; omega) (Nat.le_trans hM hX.size)
  exact ⟨v', w', h1, by simpa using h2, hX.trans h3, h4⟩
/-- and one more -/
theorem app2 {M : Nat} {W X : World} {BB : Nat} {v2 : Value} {l : List Wr} {x : Wr} (hX : Below M W X) (h2 : OwnM wrE 63 M X v2 l) (hB : Blk X BB 63 #[.int .i64 x.a, .int .u8 x.v]) (hn : l.length ≤ 100) (hM : M ≤ W.heap.size) :
    ∃ v' w', (Builtin.append_ #[37, 37] 37 #[v2, .slice (some ⟨BB, 0, none⟩) 1 1]).run Try.prog X = .ok v' w' ∧ OwnM wrE 63 M w' v' (l ++ [x]) ∧ Below M W w' := by
  have hm : Many wrE X X.heap.size (some ⟨BB, 0, none⟩) 1 [x] := ⟨rfl, fun _ => ⟨BB, 0, rfl, hB.lt, fun i y hy j u hu => by
    have hi : i = 0 := by
      have := (List.getElem?_eq_some_iff.1 hy).1
      simpa using this
    subst hi
    obtain rfl : x = y := by simpa using hy
    rw [show 0 + 0 * wrE.size + j = j by omega, hB.cell]
    simpa [wrE] using hu⟩⟩
  obtain ⟨v', w', h1, h3, h4, _⟩ := append_many elemW X M 37 _ l h2 _ 1 1 _ [x] hm (by omega) (Nat.le_trans hM hX.size)
  exact ⟨v', w', h1, h3, hX.trans h4⟩
set_option maxRecDepth 100000 in
set_option maxHeartbeats 4000000 in
theorem refWrite_any (N : Nat) (w : World) (q : Nat) (s : Flash) (m : Nat) (a v : Int) (h : RefAt N w q s m) (hN : N ≤ w.heap.size) (hok : s.Ok) (ha : IsInt a) (hv : IsByte v) :
    Calls Try.prog 16 #[.pointer (some ⟨q, 0, none⟩), .int .i64 a, .int .u8 v] w (RefDid N q (s.write a v) m w) := by
  have HA := Lib.hid h
  obtain ⟨vd, vs, seq, rd, h1, hm, ht, hs, hp⟩ := h
  have c9 := h1.blk.cell 9
  obtain ⟨Ad, cd, hvd⟩ := h1.data.form
  obtain ⟨As, cs, hvs⟩ := h1.seq.form
  subst hvd hvs
  simp only [refCells, List.getElem?_toArray, List.getElem?_cons_zero, List.getElem?_cons_succ] at c9
  by_cases hl : 0 < s.left
  · have HE := Lib.hid (show s.write a v = s from if_neg (by omega))
    clear h1 hm ht hs hp hok hv
    go_enter Try.func16, Try.ntmps16
    go_wp2_with fail
    go_end0
    rw [HE.out]
    exact ⟨rfl, HA.out, Keeps.refl _ _⟩
  · have hl0 : s.left = 0 := by have := hok.left; omega
    rw [hl0] at c9
    have hpl := hok.place a
    have hlen := hok.len
    obtain ⟨b, hb⟩ : ∃ b, max 0 a % (s.data.length : Int) = b := ⟨_, rfl⟩
    have hb' : s.place a = b := by rw [← hb]; unfold Flash.place Flash.size; rw [Int.max_comm]
    rw [hb'] at hpl
    have HE := Lib.hid (show s.write a v = s.put b v by unfold Flash.write; rw [if_pos hl0, hb'])
    obtain ⟨hb0, hb1⟩ := hpl
    have hbi : IsInt b := ⟨by omega, by omega⟩
    obtain ⟨x, hx⟩ : ∃ x : Wr, x = ⟨b, v, hbi, hv⟩ := ⟨_, rfl⟩
    have hxa : x.a = b := by rw [hx]
    have hxv : x.v = v := by rw [hx]
    have HXA := Lib.hid hxa
    have HXV := Lib.hid hxv
    obtain ⟨n, hn⟩ : ∃ n, seq.length = n := ⟨_, rfl⟩
    have hn5 : n ≤ 5 := by rw [← hn]; exact seq_len hs
    have HNL := Lib.hid hn
    have HS := Lib.hid hs
    have HK := Lib.hid hok.k
    have HP := Lib.hid hp
    have HR := Lib.hid h1
    have HM := Lib.hid hm
    have HLEN := Lib.hid hlen
    have hlt := h1.blk.lt
    obtain ⟨z, hz⟩ : ∃ z, s.data.length = z := ⟨_, rfl⟩
    have HZ := Lib.hid hz
    have c1 := h1.blk.cell 1
    have c2 := h1.blk.cell 2
    have f2 := h1.blk.frozen 2
    have c3 := h1.blk.cell 3
    have f3 := h1.blk.frozen 3
    simp only [refCells, List.getElem?_toArray, List.getElem?_cons_zero, List.getElem?_cons_succ] at c1 c2 c3
    have hbx := below_box w (.cells #[.int .i64 b, .int .u8 v] 63)
    have HBX := Lib.hid hbx
    have hzn : (z : Int) ≠ 0 := by omega
    have hzm : ¬ z = 0 := by omega
    rw [hn] at c2 HR
    rw [hz] at c1 hb hb1 HR
    obtain ⟨bn, hbn⟩ : ∃ bn, byteNext seq = bn := ⟨_, rfl⟩
    have HBN := Lib.hid hbn
    clear h1 hm hs hp hok hlen hbx hx hxa hxv hn hz hb'
    go_enter Try.func16, Try.ntmps16
    go_upto_if 30 with fail
    obtain ⟨W0, hW⟩ : ∃ W, w.alloc (.cells #[.int .i64 b, .int .u8 v] 63) = W := ⟨_, rfl⟩
    have hBW : Below w.heap.size w W0 := by rw [← hW]; exact HBX.out
    have hbox : Blk W0 w.heap.size 63 #[.int .i64 b, .int .u8 v] := by rw [← hW]; exact Blk.new w _ _
    rw [hW]
    obtain ⟨pb, hpb⟩ : ∃ pb, w.heap.size = pb := ⟨_, rfl⟩
    have HRW0 := Lib.hid (HR.out.below hBW)
    have HBW := Lib.hid hBW
    rw [hpb] at hbox ⊢
    have HBOX0 := Lib.hid hbox
    have HSL := Lib.hid (HRW0.out.seq.many_at).1
    have u2 := HRW0.out.blk.cell 2
    simp only [refCells, List.getElem?_toArray, List.getElem?_cons_zero, List.getElem?_cons_succ] at u2
    clear hW hBW hbox hpb c1 c2 c3 f2 f3 c9 hlt
    go_cut [7] (fun s7 wx => s7 = .bool bn ∧ Below W0.heap.size W0 wx)
    case first =>
      by_cases h3 : n = 3
      · obtain rfl : n = 3 := h3
        obtain ⟨bs, os, rfl, k0, k1⟩ := wr_cells HSL.out (Below.refl _ W0) 2 (by omega)
        have HW2 := Lib.hid (show isW (seq.getD 2 w0) 85 160 = bn by rw [← HBN.out]; unfold byteNext; rw [HNL.out]; simp)
        have HP2 := Lib.hid (HP.out.at_ 2)
        generalize seq.getD 2 w0 = y at *
        go_wp2_with fail
        refine (is_any W0 y 85 160 bn HP2.out HW2.out).mono ?_
        rintro e w1 ⟨rfl, hb⟩
        have HB := Lib.hid hb
        clear hb
        go_wp2_with fail
        go_meet
        exact ⟨rfl, HB.out⟩
      · have h3' : ((n : Int) == 3) = false := by simp; omega
        have hbn' : bn = false := by rw [← hbn]; unfold byteNext; rw [HNL.out]; simp [h3]
        subst hbn'
        clear hbn
        go_wp2_with fail
        go_meet
        exact ⟨rfl, Below.refl _ _⟩
    case rest =>
      obtain ⟨rfl, hbc⟩ := hcut
      clear hbn u2
      have HRWc := Lib.hid (HRW0.out.below hbc)
      have HBWc := Lib.hid (HBW.out.trans (hbc.mono HBW.out.size))
      have HBOXc := Lib.hid (HBOX0.out.of_eq (hbc.block _ HBOX0.out.lt))
      clear hbc
      obtain ⟨fz, hfz⟩ : ∃ c : Bool, (v == 240 && !bn) = c := ⟨_, rfl⟩
      go_upto_region 5 with fail
      go_cut [43] (fun s43 wx => s43 = .bool fz ∧ wx = wc)
      case first =>
        subst hfz
        cases hq : (v == 240)
        · go_wp2_with fail
          go_meet
          exact ⟨by simp [hq], rfl⟩
        · cases bn
          · go_wp2_with fail
            go_meet
            exact ⟨by simp [hq], rfl⟩
          · go_wp2_with fail
            go_meet
            exact ⟨by simp [hq], rfl⟩
      case rest =>
        obtain ⟨rfl, rfl⟩ := hcut
        cases fz
        · have HNF := Lib.hid (show ¬ (v = 240 ∧ bn = false) from fun e => by rw [e.1, e.2] at hfz; cases hfz)
          have HRW := HRWc
          have HBOX := HBOXc
          clear hfz
          go_upto_region 8 with fail
          go_cut [] (fun wx => ∃ A4 c4, RefIn N wx q (.slice Ad z cd) (.slice A4 (n + 1) c4) s (seq ++ [x]) rd ∧ Keeps (fun b => b = q) wc wx ∧ Blk wx pb 63 #[.int .i64 b, .int .u8 v])
          case first =>
            have HNW := Lib.hid (show N ≤ wc.heap.size by have := HBWc.out.size; omega)
            have HMS := Lib.hid (HRW.out.seq.many_at).1
            have HCQ := Lib.hid (show ∀ W', Below wc.heap.size wc W' → W'.cell? ⟨q, 2, none⟩ = some (.slice As n cs) ∧ W'.frozen? ⟨q, 2, none⟩ = false ∧ W'.cell? ⟨pb, 0, none⟩ = some (.int .i64 b) ∧ W'.cell? ⟨pb, 1, none⟩ = some (.int .u8 v) from fun W' hb => by
              have hb1 := HRW.out.blk.of_eq (hb.block q HRW.out.blk.lt)
              have hb2 := HBOX.out.of_eq (hb.block pb HBOX.out.lt)
              exact ⟨hb1.cell 2, hb1.frozen 2, hb2.cell 0, hb2.cell 1⟩)
            obtain ⟨k2, kf, k0, k1⟩ := HCQ.out wc (Below.refl _ _)
            have hqW := HRW.out.blk.lt
            have hpW := HBOX.out.lt
            have hqE : ¬ q = wc.heap.size := by omega
            have hpE : ¬ pb = wc.heap.size := by omega
            have g1 := below_box wc (.cells #[] 63)
            have g2 := below_box wc (.cells #[.int .i64 b, .int .u8 v] 63)
            have g12 := g1.alloc (show wc.heap.size ≤ _ by simp) (.cells #[.int .i64 b, .int .u8 v] 63)
            have g21 := g2.alloc (show wc.heap.size ≤ _ by simp) (.cells #[] 63)
            obtain ⟨k12, _, k10, k11⟩ := HCQ.out _ g1
            obtain ⟨k22, _, k20, k21⟩ := HCQ.out _ g2
            obtain ⟨k32, _, k30, k31⟩ := HCQ.out _ g12
            obtain ⟨k42, _, k40, k41⟩ := HCQ.out _ g21
            clear g1 g2 g12 g21
            have H1X := Lib.hid (show Below wc.heap.size wc (wc.alloc (.cells #[] 63)).drew from (below_box wc _).trans (below_drewN (Below.refl _ _) 1))
            have H1E := Lib.hid (show OwnM wrE 63 wc.heap.size (wc.alloc (.cells #[] 63)).drew (.slice (some ⟨wc.heap.size, 0, none⟩) 0 0) [] from (many_empty wc _ _ (Nat.le_refl _)).below (below_drewN (Below.refl _ _) 1))
            have H2X := Lib.hid (show Below wc.heap.size wc ((wc.alloc (.cells #[] 63)).alloc (.cells #[.int .i64 b, .int .u8 v] 63)).drew from ((below_box wc _).alloc (by simp) _).trans (below_drewN (Below.refl _ _) 1))
            have H2E := Lib.hid (show OwnM wrE 63 wc.heap.size ((wc.alloc (.cells #[] 63)).alloc (.cells #[.int .i64 b, .int .u8 v] 63)).drew (.slice (some ⟨wc.heap.size, 0, none⟩) 0 0) [] from ((many_empty wc _ _ (Nat.le_refl _)).below (below_box _ _)).below (below_drewN (Below.refl _ _) 1))
            have H2B := Lib.hid (show Blk ((wc.alloc (.cells #[] 63)).alloc (.cells #[.int .i64 b, .int .u8 v] 63)).drew (wc.heap.size + 1) 63 #[.int .i64 b, .int .u8 v] from by have := Blk.new (wc.alloc (.cells #[] 63)) 63 #[.int .i64 b, .int .u8 v]; rwa [World.size_alloc] at this)
            have H3X := Lib.hid (show Below wc.heap.size wc ((wc.alloc (.cells #[.int .i64 b, .int .u8 v] 63)).alloc (.cells #[] 63)).drew from ((below_box wc _).alloc (by simp) _).trans (below_drewN (Below.refl _ _) 1))
            have H3E := Lib.hid (show OwnM wrE 63 wc.heap.size ((wc.alloc (.cells #[.int .i64 b, .int .u8 v] 63)).alloc (.cells #[] 63)).drew (.slice (some ⟨wc.heap.size + 1, 0, none⟩) 0 0) [] from by
              have := (many_empty (wc.alloc (.cells #[.int .i64 b, .int .u8 v] 63)) 63 wc.heap.size (by simp)).below (below_drewN (Below.refl _ _) 1)
              rwa [World.size_alloc] at this)
            have H3B := Lib.hid (show Blk ((wc.alloc (.cells #[.int .i64 b, .int .u8 v] 63)).alloc (.cells #[] 63)).drew wc.heap.size 63 #[.int .i64 b, .int .u8 v] from (Blk.new wc _ _).of_eq ((below_box (wc.alloc (.cells #[.int .i64 b, .int .u8 v] 63)) _).block _ (by simp)))
            go_region_law (first
              | (refine step_append (by rfl) _ _ _ (by rfl) (.slice (some ⟨wc.heap.size, 0, none⟩) 0 0) (.slice As n cs) (by rfl) (by rfl) (fun v2 w2 => OwnM wrE 63 wc.heap.size w2 v2 seq ∧ Below wc.heap.size wc w2 ∧ (wc.alloc (.cells #[] 63)).drew.grownBy w2 (some wc.heap.size)) (app1 H1X.out H1E.out HMS.out (Nat.le_refl _) (by omega) (Nat.le_refl _)) ?_
                 rintro v2 w2 ⟨h2, hb2, hg2⟩
                 obtain ⟨A2, c2, rfl⟩ : ∃ A2 c2, v2 = .slice A2 n c2 := (by obtain ⟨A, c, e⟩ := h2.form; exact ⟨A, c, by rw [e, HNL.out]⟩)
                 have HO2 := Lib.hid h2
                 have HX2 := Lib.hid hb2
                 obtain ⟨m2, mf, m0, m1⟩ := HCQ.out _ hb2
                 have HX3 := Lib.hid (hb2.alloc hb2.size (.cells #[.int .i64 b, .int .u8 v] 63))
                 have HO3 := Lib.hid (h2.below (below_box w2 (.cells #[.int .i64 b, .int .u8 v] 63)))
                 have HB3 := Lib.hid (Blk.new w2 63 #[.int .i64 b, .int .u8 v])
                 obtain ⟨n2, nf, n0, n1⟩ := HCQ.out _ HX3.out
                 clear h2 hb2 hg2)
              | (refine step_append (by rfl) _ _ _ (by rfl) (.slice (some ⟨wc.heap.size, 0, none⟩) 0 0) (.slice As n cs) (by rfl) (by rfl) (fun v2 w2 => OwnM wrE 63 wc.heap.size w2 v2 seq ∧ Below wc.heap.size wc w2 ∧ ((wc.alloc (.cells #[] 63)).alloc (.cells #[.int .i64 b, .int .u8 v] 63)).drew.grownBy w2 (some wc.heap.size)) (app1 H2X.out H2E.out HMS.out (Nat.le_refl _) (by omega) (Nat.le_refl _)) ?_
                 rintro v2 w2 ⟨h2, hb2, hg2⟩
                 obtain ⟨A2, c2, rfl⟩ : ∃ A2 c2, v2 = .slice A2 n c2 := (by obtain ⟨A, c, e⟩ := h2.form; exact ⟨A, c, by rw [e, HNL.out]⟩)
                 have HO2 := Lib.hid h2
                 have HX2 := Lib.hid hb2
                 have HB2 := Lib.hid (H2B.out.of_eq (hg2.block _ H2B.out.lt (by intro e; injection e with e; omega)))
                 obtain ⟨m2, mf, m0, m1⟩ := HCQ.out _ hb2
                 clear h2 hb2 hg2)
              | (refine step_append (by rfl) _ _ _ (by rfl) (.slice (some ⟨wc.heap.size + 1, 0, none⟩) 0 0) (.slice As n cs) (by rfl) (by rfl) (fun v2 w2 => OwnM wrE 63 wc.heap.size w2 v2 seq ∧ Below wc.heap.size wc w2 ∧ ((wc.alloc (.cells #[.int .i64 b, .int .u8 v] 63)).alloc (.cells #[] 63)).drew.grownBy w2 (some (wc.heap.size + 1))) (app1 H3X.out H3E.out HMS.out (Nat.le_refl _) (by omega) (Nat.le_refl _)) ?_
                 rintro v2 w2 ⟨h2, hb2, hg2⟩
                 obtain ⟨A2, c2, rfl⟩ : ∃ A2 c2, v2 = .slice A2 n c2 := (by obtain ⟨A, c, e⟩ := h2.form; exact ⟨A, c, by rw [e, HNL.out]⟩)
                 have HO2 := Lib.hid h2
                 have HX2 := Lib.hid hb2
                 have HB2 := Lib.hid (H3B.out.of_eq (hg2.block _ H3B.out.lt (by intro e; injection e with e; omega)))
                 obtain ⟨m2, mf, m0, m1⟩ := HCQ.out _ hb2
                 clear h2 hb2 hg2)
              | (have hh := HO2.out; clear hh; refine step_append (by rfl) _ _ _ (by rfl) (.slice A2 n c2) (.slice (some ⟨w2.heap.size, 0, none⟩) 1 1) (by rfl) (by rfl) (fun v4 w4 => OwnM wrE 63 wc.heap.size w4 v4 (seq ++ [x]) ∧ Below wc.heap.size wc w4) (app2 HX3.out HO3.out (by rw [HXA.out, HXV.out]; exact HB3.out) (by rw [HNL.out]; omega) (Nat.le_refl _)) ?_
                 rintro v4 w4 ⟨h4, hb4⟩
                 obtain ⟨A4, c4, rfl⟩ : ∃ A4 c4, v4 = .slice A4 (n + 1) c4 := (by obtain ⟨A, c, e⟩ := h4.form; exact ⟨A, c, by rw [e, List.length_append, HNL.out]; rfl⟩)
                 have HO4 := Lib.hid h4
                 have HX4 := Lib.hid hb4
                 obtain ⟨r2, rf, r0, r1⟩ := HCQ.out _ hb4
                 clear h4 hb4)
              | (have hh := HO2.out; clear hh; refine step_append (by rfl) _ _ _ (by rfl) (.slice A2 n c2) (.slice (some ⟨wc.heap.size + 1, 0, none⟩) 1 1) (by rfl) (by rfl) (fun v4 w4 => OwnM wrE 63 wc.heap.size w4 v4 (seq ++ [x]) ∧ Below wc.heap.size wc w4) (app2 HX2.out HO2.out (by rw [HXA.out, HXV.out]; exact HB2.out) (by rw [HNL.out]; omega) (Nat.le_refl _)) ?_
                 rintro v4 w4 ⟨h4, hb4⟩
                 obtain ⟨A4, c4, rfl⟩ : ∃ A4 c4, v4 = .slice A4 (n + 1) c4 := (by obtain ⟨A, c, e⟩ := h4.form; exact ⟨A, c, by rw [e, List.length_append, HNL.out]; rfl⟩)
                 have HO4 := Lib.hid h4
                 have HX4 := Lib.hid hb4
                 obtain ⟨r2, rf, r0, r1⟩ := HCQ.out _ hb4
                 clear h4 hb4)
              | (have hh := HO2.out; clear hh; refine step_append (by rfl) _ _ _ (by rfl) (.slice A2 n c2) (.slice (some ⟨wc.heap.size, 0, none⟩) 1 1) (by rfl) (by rfl) (fun v4 w4 => OwnM wrE 63 wc.heap.size w4 v4 (seq ++ [x]) ∧ Below wc.heap.size wc w4) (app2 HX2.out HO2.out (by rw [HXA.out, HXV.out]; exact HB2.out) (by rw [HNL.out]; omega) (Nat.le_refl _)) ?_
                 rintro v4 w4 ⟨h4, hb4⟩
                 obtain ⟨A4, c4, rfl⟩ : ∃ A4 c4, v4 = .slice A4 (n + 1) c4 := (by obtain ⟨A, c, e⟩ := h4.form; exact ⟨A, c, by rw [e, List.length_append, HNL.out]; rfl⟩)
                 have HO4 := Lib.hid h4
                 have HX4 := Lib.hid hb4
                 obtain ⟨r2, rf, r0, r1⟩ := HCQ.out _ hb4
                 clear h4 hb4)
              | fail)
            all_goals
              go_wp2_with fail
              go_meet
              have hx4 := HRW.out.below HX4.out
              obtain ⟨h1, h2⟩ := hx4.sets (s' := s) (vd' := .slice Ad z cd) (vs' := .slice A4 (n + 1) c4) (seq' := seq ++ [x]) (rd' := rd) [(2, .slice A4 (n + 1) c4)] hx4.data (HO4.out.lower HNW.out) (by simp [refCells])
              exact ⟨A4, c4, h1, (Keeps.of_below HX4.out).no.trans h2, (HBOX.out.of_eq (HX4.out.block _ HBOX.out.lt)).of_eq (h2.block _ (Nat.lt_of_lt_of_le HBOX.out.lt HX4.out.size) (fun e => Blk.ne_ HBOX.out HRW.out.blk (by decide) e))⟩
          case rest =>
            obtain ⟨A4, c4, hr4, hk4, hb4⟩ := hcut
            have HR4 := Lib.hid hr4
            have HK4 := Lib.hid ((Keeps.of_below HBWc.out).no.trans hk4)
            have HB4 := Lib.hid hb4
            clear hr4 hk4 hb4
            have HMS4 := Lib.hid (HR4.out.seq.many_at).1
            have HPOS := Lib.hid (show Pos (seq ++ [x]) from fun y hy => by
              rcases List.mem_append.1 hy with h | h
              · exact HP.out y h
              · simp only [List.mem_singleton] at h
                rw [h, HXA.out]; exact hb0)
            have HSN := Lib.hid (seq_next x HS.out HK.out)
            obtain ⟨r, hr⟩ : ∃ r, goesL (seq ++ [x]) = r := ⟨_, rfl⟩
            have HRR := Lib.hid hr
            have y2 := HR4.out.blk.cell 2
            simp only [refCells, List.getElem?_toArray, List.getElem?_cons_zero, List.getElem?_cons_succ] at y2
            clear hr
            go_wp2_with fail
            refine (goes_any wc A4 (n + 1) c4 wc.heap.size (seq ++ [x]) r HMS4.out HPOS.out (Nat.le_refl _) (by omega) HRR.out).mono ?_
            rintro e w5 ⟨rfl, hb5⟩
            have HR5 := Lib.hid (HR4.out.below hb5)
            have HK5 := Lib.hid (HK4.out.trans (Keeps.of_below hb5).no)
            have HB5 := Lib.hid (HB4.out.of_eq (hb5.block _ HB4.out.lt))
            have z0 := HB5.out.cell 0
            have z1 := HB5.out.cell 1
            have y1 := HR5.out.blk.cell 1
            have y2 := HR5.out.blk.cell 2
            have y3 := HR5.out.blk.cell 3
            have x2 := HR5.out.blk.frozen 2
            have x3 := HR5.out.blk.frozen 3
            simp only [refCells, List.getElem?_toArray, List.getElem?_cons_zero, List.getElem?_cons_succ] at z0 z1 y1 y2 y3
            clear hb5
            cases r
            · have HEE := Lib.hid (show s.put b v = s.ends v by have := out_no (x := x) HS.out HK.out HRR.out; rwa [HXA.out, HXV.out] at this)
              have hv240 : v ≠ 240 := fun e => by
                cases hbv : bn
                · exact HNF.out ⟨e, hbv⟩
                · have := (go_byte (x := x) HS.out HK.out (HBN.out.trans hbv)).2
                  rw [HRR.out] at this
                  cases this
              have HV4 := Lib.hid hv240
              clear hv240
              go_wp2_with fail
              go_end0
              obtain ⟨h1, h2⟩ := HR5.out.sets (s' := s.ends v) (vd' := .slice Ad z cd) (vs' := .slice none 0 0) (seq' := []) (rd' := rd) [(2, .slice none 0 0)] HR5.out.data (OwnM.nil _ _ _ _) (by simp [refCells, Flash.ends, HV4.out])
              rw [HE.out, HEE.out]
              exact ⟨rfl, ⟨_, _, _, _, h1, HM.out, fun e => absurd e (by show ¬ 0 < s.left; omega), rfl, fun _ h => by cases h⟩, HK5.out.trans h2⟩
            · cases bn
              · by_cases h5 : n = 5
                · obtain rfl : n = 5 := h5
                  by_cases h48 : v = 48
                  · subst h48
                    have HEE := Lib.hid (show s.put b 48 = s.busy 100 2 (b - b % 256) 256 0 by have := out_sector (x := x) HS.out HK.out HNL.out HXV.out; rwa [HXA.out, HXV.out] at this)
                    go_wp2_with fail
                    refine (refBegin_any N w5 q _ _ s _ rd 100 2 (b - b % 256) 256 0 HR5.out).mono ?_
                    rintro e w6 ⟨rfl, h1, h2⟩
                    have H1 := Lib.hid h1
                    have H2 := Lib.hid h2
                    clear h1 h2
                    go_wp2_with fail
                    go_end0
                    rw [HE.out, HEE.out]
                    exact ⟨rfl, ⟨_, _, _, _, H1.out, Nat.zero_le _, fun _ => rfl, rfl, fun _ h => by cases h⟩, HK5.out.trans H2.out⟩
                  · have ho := out_all (x := x) HS.out HK.out HRR.out HNL.out (by rw [HXV.out]; exact h48)
                    rw [HXV.out, HXA.out] at ho
                    obtain ⟨rfl, ho⟩ := ho
                    have HEE := Lib.hid (show s.put b 16 = s.busy 200 2 0 z 0 by rw [ho]; unfold Flash.size; rw [HZ.out])
                    clear ho h48
                    go_wp2_with fail
                    refine (refBegin_any N w5 q _ _ s _ rd 200 2 0 z 0 HR5.out).mono ?_
                    rintro e w6 ⟨rfl, h1, h2⟩
                    have H1 := Lib.hid h1
                    have H2 := Lib.hid h2
                    clear h1 h2
                    go_wp2_with fail
                    go_end0
                    rw [HE.out, HEE.out]
                    exact ⟨rfl, ⟨_, _, _, _, H1.out, Nat.zero_le _, fun _ => rfl, rfl, fun _ h => by cases h⟩, HK5.out.trans H2.out⟩
                · by_cases h2 : n = 2 ∧ v = 144
                  · obtain ⟨rfl, rfl⟩ := h2
                    have HEE := Lib.hid (show s.put b 144 = { s with k := 0, named := true } by have := out_name (x := x) HS.out HK.out HRR.out HNL.out HXV.out; rwa [HXA.out, HXV.out] at this)
                    go_wp2_with fail
                    go_end0
                    obtain ⟨h1, h2⟩ := HR5.out.sets (s' := { s with k := 0, named := true }) (vd' := .slice Ad z cd) (vs' := .slice none 0 0) (seq' := []) (rd' := rd) [(3, .bool true), (2, .slice none 0 0)] HR5.out.data (OwnM.nil _ _ _ _) (by simp [refCells])
                    rw [HE.out, HEE.out]
                    exact ⟨rfl, ⟨_, _, _, _, h1, HM.out, fun e => absurd e (by show ¬ 0 < s.left; omega), rfl, fun _ h => by cases h⟩, HK5.out.trans h2⟩
                  · obtain ⟨k', hk', ho⟩ := out_on (x := x) HS.out HK.out HRR.out HBN.out (by rw [HNL.out]; exact h5) (by rw [HNL.out, HXV.out]; exact h2)
                    have HSQ := Lib.hid (show SeqFor k' (seq ++ [x]) by
                      have := HSN.out
                      unfold seqNext at this
                      rw [ho, if_neg hk'] at this
                      exact this)
                    rw [HXA.out, HXV.out] at ho
                    have HEE := Lib.hid ho
                    have HG := Lib.hid (show ∀ w', w5 = w' → RefDid N q (s.put b v) m w (.returned (.tuple #[])) w' from fun w' e => by
                      subst e
                      rw [HEE.out]
                      exact ⟨rfl, ⟨_, _, seq ++ [x], rd, ⟨HR5.out.blk, HR5.out.data, HR5.out.seq, HR5.out.low⟩, HM.out, fun e => absurd e (by show ¬ 0 < s.left; omega), HSQ.out, HPOS.out⟩, HK5.out⟩)
                    clear ho hk'
                    have hcase : n = 0 ∨ n = 1 ∨ (n = 2 ∧ v ≠ 144) ∨ n = 3 ∨ n = 4 := by omega
                    clear h2 h5
                    rcases hcase with rfl | rfl | ⟨rfl, h144⟩ | rfl | rfl
                    · go_wp2_with fail
                      go_end0
                      rw [HE.out]
                      exact HG.out _ rfl
                    · go_wp2_with fail
                      go_end0
                      rw [HE.out]
                      exact HG.out _ rfl
                    · have h144' : (v == 144) = false := by simp [h144]
                      clear h144
                      go_wp2_with fail
                      go_end0
                      rw [HE.out]
                      exact HG.out _ rfl
                    · go_wp2_with fail
                      go_end0
                      rw [HE.out]
                      exact HG.out _ rfl
                    · go_wp2_with fail
                      go_end0
                      rw [HE.out]
                      exact HG.out _ rfl
              · obtain rfl : n = 3 := HNL.out.symm.trans (go_byte (x := x) HS.out HK.out HBN.out).1
                have HEE := Lib.hid (show s.put b v = s.busy 10 1 b 1 v by have := out_byte (x := x) HS.out HK.out HBN.out; rwa [HXA.out, HXV.out] at this)
                go_wp2_with fail
                refine (refBegin_any N w5 q _ _ s _ rd 10 1 b 1 v HR5.out).mono ?_
                rintro e w6 ⟨rfl, h1, h2⟩
                have H1 := Lib.hid h1
                have H2 := Lib.hid h2
                clear h1 h2
                go_wp2_with fail
                go_end0
                rw [HE.out, HEE.out]
                exact ⟨rfl, ⟨_, _, _, _, H1.out, Nat.zero_le _, fun _ => rfl, rfl, fun _ h => by cases h⟩, HK5.out.trans H2.out⟩
        · have hv4 : v = 240 ∧ bn = false := by
            cases bn
            · simp at hfz; exact ⟨hfz, rfl⟩
            · simp at hfz
          obtain ⟨rfl, rfl⟩ := hv4
          have d2 := HRWc.out.blk.cell 2
          have e2 := HRWc.out.blk.frozen 2
          have d3 := HRWc.out.blk.cell 3
          have e3 := HRWc.out.blk.frozen 3
          simp only [refCells, List.getElem?_toArray, List.getElem?_cons_zero, List.getElem?_cons_succ] at d2 d3
          have HEE := Lib.hid (show s.put b 240 = s.ends 240 by have := out_f0 (x := x) HS.out HK.out HXV.out HBN.out; rwa [HXA.out, HXV.out] at this)
          clear hfz
          go_wp2_with fail
          go_end0
          obtain ⟨h1, h2⟩ := HRWc.out.sets (s' := s.ends 240) (vd' := .slice Ad z cd) (vs' := .slice none 0 0) (seq' := []) (rd' := rd) [(2, .slice none 0 0), (3, .bool false)] HRWc.out.data (OwnM.nil _ _ _ _) (by simp [refCells, Flash.ends])
          rw [HE.out, HEE.out]
          exact ⟨rfl, ⟨_, _, _, _, h1, HM.out, fun e => absurd e (by show ¬ 0 < s.left; omega), rfl, fun _ h => by cases h⟩, (Keeps.of_below HBWc.out).no.trans h2⟩
end Go.Proofs.Ytojdbmkbcjaikaa
