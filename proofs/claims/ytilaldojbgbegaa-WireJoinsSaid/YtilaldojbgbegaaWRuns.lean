/-
  THE WALK OF wire.Runs.
-/
import Derived.Test.YtilaldojbgbegaaWRunMem
import Derived.Deep.RegionLaw
namespace Go.Proofs.Ytilaldojbgbegaa
open Go.RowKit
set_option maxRecDepth 20000

/-- the runs of the first k cycles, in memory -/
def RunsAt (w : World) (base : Nat) (v : Value) (l : List Lev) (k : Nat) : Prop :=
  (opened (mac l k) = false → Shut_ w base v (runsTo l k)) ∧ (opened (mac l k) = true → ∃ rs bits, runsTo l k = rs ++ [(bits, false)] ∧ Open_ w base v rs bits)
theorem RunsAt.keeps {w w' : World} {base k : Nat} {v : Value} {l : List Lev} {S : Nat → Prop} (h : RunsAt w base v l k) (hk : Keeps S w w') (hS : ∀ b, S b → ∃ t cs, Blk w b t cs ∧ t ≠ 4 ∧ t ≠ 40) : RunsAt w' base v l k :=
  ⟨fun h0 => (h.1 h0).keeps hk hS, fun h1 => by
    obtain ⟨rs, bits, e, ho⟩ := h.2 h1
    exact ⟨rs, bits, e, ho.keeps hk hS⟩⟩
theorem RunsAt.shut {w : World} {base k : Nat} {v : Value} {l : List Lev} (h : RunsAt w base v l k) : Shut_ w base v (runsTo l k) := by
  cases ho : opened (mac l k)
  · exact h.1 ho
  · obtain ⟨rs, bits, e, h2⟩ := h.2 ho
    rw [e]
    exact h2.shut
theorem RunsAt.same {w : World} {base k : Nat} {v : Value} {l : List Lev} (h : RunsAt w base v l k) (h1 : runsTo l (k + 1) = runsTo l k) (h2 : opened (mac l (k + 1)) = opened (mac l k)) : RunsAt w base v l (k + 1) := by
  unfold RunsAt
  rw [h1, h2]
  exact h
/-- what a call that makes runs answers -/
def Makes (w : World) (rs : List RunD) (e : Ending) (w' : World) : Prop := ∃ v, e = .returned v ∧ Shut_ w' w.heap.size v rs ∧ Below w.heap.size w w'

set_option maxRecDepth 100000 in
set_option maxHeartbeats 4000000 in
theorem runs_any (w : World) (A : Option Addr) (n c B : Nat) (l : List Lev) (h : Many levE w B A n l) (hB : B ≤ w.heap.size) (hn : n ≤ 1000) :
    Calls Try.prog 15 #[.slice A n c] w (Makes w (runs l)) := by
  have H := Lib.hid h
  have HL := Lib.hid h.1
  clear h
  go_enter Try.func15, Try.ntmps15
  go_wp2_with fail
  refine (new_any w).mono ?_
  rintro e w1 ⟨p, rfl, hp, hw1, hb1⟩
  have HW1 := Lib.hid hw1
  have HB1 := Lib.hid hb1
  have HP := Lib.hid hp
  clear hw1 hb1 hp
  go_wp2_with fail
  go_loopw [4, 5, 12] (fun v wi i wr => ∃ k : Nat, k ≤ n ∧ i = .int .i64 k ∧ wi = .bool (opened (mac l k)) ∧ RunsAt wr w.heap.size v l k ∧ WireAt wr p (was l k) ∧ Below w.heap.size w wr) (fun _ _ i _ => n - (intOf i).toNat)
  case atStart => exact ⟨0, Nat.zero_le _, rfl, rfl, ⟨fun _ => ⟨[], OwnM.nil _ _ _ _, Ended.nil _ _ _⟩, fun h => by cases h⟩, HW1.out, HB1.out⟩
  case round =>
    obtain ⟨k, hk, rfl, rfl, hown, hwire, hbel⟩ := hrel
    have HO := Lib.hid hown
    have HW := Lib.hid hwire
    have HB := Lib.hid hbel
    clear hown hwire hbel
    by_cases hlt : k < n
    · have hkn : (k : Int) < (n : Int) := by omega
      have hk0 : (0 : Int) ≤ (k : Int) := by omega
      obtain ⟨b, o, rfl, hc⟩ := H.out.cell (HB.out.mono hB) k (at_ l k) (at_get (by rw [HL.out]; exact hlt))
      obtain ⟨x, hx⟩ : ∃ x, at_ l k = x := ⟨_, rfl⟩
      obtain ⟨op, hop⟩ : ∃ op, opened (mac l k) = op := ⟨_, rfl⟩
      have HX := Lib.hid (And.intro (show ev l k = tell (was l k) x by rw [ev, hx]) (show was l (k + 1) = x from hx))
      have HSDA := Lib.hid (show (at_ l k).2 = x.2 by rw [hx])
      have HOP := Lib.hid hop
      have HLEN := Lib.hid (show (runsTo l k).length ≤ 1000 ∧ ∀ x ∈ runsTo l k, x.1.length ≤ 1000 from ⟨by have := runsTo_len l k; omega, fun x hx => by have := runsTo_bits l k x hx; omega⟩)
      rw [hx] at hc
      rw [hop]
      clear hx hop
      obtain ⟨x1, x2⟩ := x
      have c0 : wr.cell? ⟨b, o + k * 2, none⟩ = some (.bool x1) := hc 0 _ rfl
      have c1 : wr.cell? ⟨b, o + k * 2 + 1, none⟩ = some (.bool x2) := hc 1 _ rfl
      have hba := below_box wr (.cells #[.bool x1, .bool x2] 30)
      have HW2 := Lib.hid (HW.out.below hba)
      have HO2 := Lib.hid (HO.out.keeps (Keeps.of_below hba) (fun _ h => h.elim))
      have HB2 := Lib.hid (HB.out.trans (hba.mono HB.out.size))
      have hbk := Blk.new wr 30 #[.bool x1, .bool x2]
      have d0 := hbk.cell 0
      have d1 := hbk.cell 1
      simp only [List.getElem?_toArray, List.getElem?_cons_zero, List.getElem?_cons_succ] at d0 d1
      have HBK := Lib.hid hbk
      obtain ⟨q, hq⟩ : ∃ q, wr.heap.size = q := ⟨_, rfl⟩
      clear hc hba hbk
      go_upto_region 7 with fail
      rw [hq] at d0 d1 HBK
      generalize wr.alloc (.cells #[.bool x1, .bool x2] 30) = W at *
      go_wp2_with fail
      refine (step_any W p (was l k) (x1, x2) HW2.out).mono ?_
      rintro e w3 ⟨rfl, hw3, hk3⟩
      have HW3 := Lib.hid hw3
      have HO3 := Lib.hid (HO2.out.keeps hk3 (fun g hg => ⟨_, _, (show g = p from hg) ▸ HW2.out, by decide, by decide⟩))
      have HB3 := Lib.hid (HB2.out.trans (hk3.below (fun b hb => by have := HP.out; have hb : b = p := hb; omega) HB2.out.size))
      have HBK3 := Lib.hid (HBK.out.of_eq (hk3.block q HBK.out.lt (fun e => Blk.ne_ HBK.out HW2.out (by decide) e)))
      clear hw3 hk3 d0 d1 c0 c1
      rw [← HX.out.1]
      rcases (HX.out.1 ▸ tell_in (was l k) (x1, x2) : ev l k = 0 ∨ ev l k = 1 ∨ ev l k = 2 ∨ ev l k = 3 ∨ ev l k = 4) with he | he | he | he | he
      · have R := HO3.out.same (runs_same l k (.inl he)).1 (runs_same l k (.inl he)).2
        have HR := Lib.hid (And.intro R (show opened (mac l (k + 1)) = op by rw [(runs_same l k (.inl he)).2]; exact HOP.out))
        clear R
        rw [he]
        go_wp2_with fail
        go_roundw
        case rel => exact ⟨k + 1, by omega, by go_num, by rw [HR.out.2], HR.out.1, by rw [HX.out.2]; exact HW3.out, HB3.out⟩
        case measure => simp [intOf]; omega
      · have HS := Lib.hid HO3.out.shut
        obtain ⟨v', w', hrun, ho', hb', hk'⟩ := HS.out.start HLEN.out.1 HB3.out.size
        have HNW := Lib.hid (show WireAt w' p (x1, x2) from HW3.out.keeps hk' (fun h => by
          obtain ⟨cs, h⟩ := h
          exact Blk.ne_ h HW3.out (by decide) rfl))
        have HNB := Lib.hid (HB3.out.trans hb')
        have HR := Lib.hid (show RunsAt w' w.heap.size v' l (k + 1) ∧ opened (mac l (k + 1)) = true from ⟨⟨fun h => (by rw [(runs_start l k he).2] at h; cases h), fun _ => ⟨runsTo l k, [], (runs_start l k he).1, ho'⟩⟩, (runs_start l k he).2⟩)
        have HRUN := Lib.hid hrun
        clear hrun ho' hb' hk'
        rw [he]
        go_wp2_with (at_builtin; refine Lib.wpList_append_run _ rfl _ _ _ _ rfl _ _ rfl rfl _ _ HRUN.out ?_)
        go_roundw
        case rel => exact ⟨k + 1, by omega, by go_num, by rw [HR.out.2], HR.out.1, by rw [HX.out.2]; exact HNW.out, HNB.out⟩
        case measure => simp [intOf]; omega
      · cases op
        · have HR := Lib.hid (And.intro (runs_idle l k (by omega) HOP.out).1 (runs_idle l k (by omega) HOP.out).2)
          have HRA := Lib.hid (HO3.out.same HR.out.1 (by rw [HR.out.2, HOP.out]))
          rw [he]
          go_wp2_with fail
          go_roundw
          case rel => exact ⟨k + 1, by omega, by go_num, by rw [HR.out.2], HRA.out, by rw [HX.out.2]; exact HW3.out, HB3.out⟩
          case measure => simp [intOf]; omega
        · obtain ⟨rs, bits, e1, h1⟩ := HO3.out.2 HOP.out
          obtain ⟨rs', bits', e2, e3, e4⟩ := runs_stop l k he HOP.out
          obtain ⟨e5, e6⟩ := List.append_inj' (e1.symm.trans e2) rfl
          simp only [List.cons.injEq, Prod.mk.injEq, and_true] at e6
          subst e5 e6
          obtain ⟨g, cg, x, rfl, hg, hgc, ⟨cs, hb⟩, z0, z1, f0, f1, _⟩ := h1.last
          have HNW := Lib.hid (show WireAt (w3.setCell ⟨g, rs.length * 2 + 1, none⟩ (.bool true)) p (x1, x2) from HW3.out.keeps (keeps_run hb _) (fun h => by
            obtain ⟨cs, h⟩ := h
            exact Blk.ne_ h HW3.out (by decide) rfl))
          have HNB := Lib.hid (show Below w.heap.size w (w3.setCell ⟨g, rs.length * 2 + 1, none⟩ (.bool true)) from HB3.out.setCell (p := ⟨g, rs.length * 2 + 1, none⟩) hg _)
          have HR := Lib.hid (show RunsAt (w3.setCell ⟨g, rs.length * 2 + 1, none⟩ (.bool true)) w.heap.size (.slice (some ⟨g, 0, none⟩) (rs.length + 1) cg) l (k + 1) ∧ opened (mac l (k + 1)) = false from
            ⟨⟨fun _ => by rw [e3]; exact h1.stopped, fun h => (by rw [e4] at h; cases h)⟩, e4⟩)
          have hl1 : rs.length + 1 ≤ 1001 := by have := HLEN.out.1; rw [e1] at this; simp at this; omega
          clear h1 e1 e2 e3 e4 hb z0
          generalize rs.length = m at *
          rw [he]
          go_wp2_with fail
          refine ⟨⟨k + 1, by omega, by go_num, by rw [HR.out.2], HR.out.1, by rw [HX.out.2]; exact HNW.out, HNB.out⟩, by simp [intOf]; omega⟩
      · cases op
        · have HR := Lib.hid (And.intro (runs_idle l k (by omega) HOP.out).1 (runs_idle l k (by omega) HOP.out).2)
          have HRA := Lib.hid (HO3.out.same HR.out.1 (by rw [HR.out.2, HOP.out]))
          rw [he]
          go_wp2_with fail
          go_roundw
          case rel => exact ⟨k + 1, by omega, by go_num, by rw [HR.out.2], HRA.out, by rw [HX.out.2]; exact HW3.out, HB3.out⟩
          case measure => simp [intOf]; omega
        · obtain ⟨rs, bits, e1, h1⟩ := HO3.out.2 HOP.out
          obtain ⟨rs', bits', e2, e3, e4⟩ := runs_rise l k he HOP.out
          obtain ⟨e5, e6⟩ := List.append_inj' (e1.symm.trans e2) rfl
          simp only [List.cons.injEq, Prod.mk.injEq, and_true] at e6
          subst e5 e6
          have hl2 : bits.length ≤ 1000 := HLEN.out.2 (bits, false) (by rw [e1]; simp)
          obtain ⟨g, cg, _, rfl, hg, hgc, ⟨cs, hb⟩, zz0, zz1, f0, _, _⟩ := h1.last
          clear zz0 zz1
          have hd : Keeps No w3 w3.drew := (Keeps.refl _ _).drew
          have h1d : Open_ w3.drew w.heap.size (.slice (some ⟨g, 0, none⟩) (rs.length + 1) cg) rs bits := h1.keeps hd (fun _ h => h.elim)
          obtain ⟨x, z0, v', w', hrun, ⟨A', c', hv⟩, ⟨u, hu⟩, hfr, hop', hbel', hk'⟩ := h1d.risen x2 hl2
          subst hv
          have HNW := Lib.hid (show WireAt (w'.setCell ⟨g, rs.length * 2, none⟩ (.slice A' (bits.length + 1) c')) p (x1, x2) from WireAt.keeps (show WireAt w3.drew p (x1, x2) from HW3.out) hk' (fun h => by
            obtain ⟨t, cs, h, ht⟩ := h
            rcases ht with rfl | rfl
            · exact Blk.ne_ h (show WireAt w3.drew p (x1, x2) from HW3.out) (by decide) rfl
            · exact Blk.ne_ h (show WireAt w3.drew p (x1, x2) from HW3.out) (by decide) rfl))
          have HNB := Lib.hid (show Below w.heap.size w (w'.setCell ⟨g, rs.length * 2, none⟩ (.slice A' (bits.length + 1) c')) from HB3.out.drew.trans hbel')
          have HR := Lib.hid (show RunsAt (w'.setCell ⟨g, rs.length * 2, none⟩ (.slice A' (bits.length + 1) c')) w.heap.size (.slice (some ⟨g, 0, none⟩) (rs.length + 1) cg) l (k + 1) ∧ opened (mac l (k + 1)) = true from
            ⟨⟨fun h => (by rw [e4] at h; cases h), fun _ => ⟨rs, bits ++ [x2], by rw [e3, HSDA.out], hop'⟩⟩, e4⟩)
          have hl1 : rs.length + 1 ≤ 1001 := by have := HLEN.out.1; rw [e1] at this; simp at this; omega
          have z0' : w3.cell? ⟨g, rs.length * 2, none⟩ = some (sl x) := z0
          have HBA := Lib.hid (show (w3.alloc (.cells #[.bool x2] 4)).cell? ⟨g, rs.length * 2, none⟩ = some (sl x) from (World.cell?_alloc_some w3 _ _ (by rw [z0']; rfl)).trans z0')
          have HBD := Lib.hid ((HBK3.out.cell 1).trans (show _ = some (Value.bool x2) from rfl))
          have HBN := Lib.hid (show w3.drew.heap.size = w3.heap.size from rfl)
          obtain ⟨xa, xn, xc⟩ := x
          clear h1 h1d e1 e2 e3 e4 hb z0 hop' hbel' hk' hd HSDA
          generalize rs.length = m at *
          generalize bits.length + 1 = bl at *
          rw [he]
          have y1 := HBD.out
          have y2 := HBA.out
          unfold sl at z0' y2 hrun
          dsimp only at z0' y2 hrun
          have HRUN := Lib.hid hrun
          clear hrun
          go_upto_region 18 with fail
          go_region_law (first
            | (refine step_append (by rfl) _ _ _ (by rfl) (.slice xa xn xc) (.slice (some ⟨w3.drew.heap.size, 0, none⟩) 1 1) (by rfl) (by rfl) (fun v w'' => v = .slice A' bl c' ∧ w'' = w') ⟨_, _, HRUN.out, rfl, rfl⟩ ?_
               rintro v w'' ⟨rfl, rfl⟩)
            | fail)
          all_goals (
            go_wp2_with fail
            refine ⟨⟨k + 1, by omega, by go_num, by rw [HR.out.2], HR.out.1, by rw [HX.out.2]; exact HNW.out, HNB.out⟩, by simp [intOf]; omega⟩)
      · have R := HO3.out.same (runs_same l k (.inr he)).1 (runs_same l k (.inr he)).2
        have HR := Lib.hid (And.intro R (show opened (mac l (k + 1)) = op by rw [(runs_same l k (.inr he)).2]; exact HOP.out))
        clear R
        rw [he]
        go_wp2_with fail
        go_roundw
        case rel => exact ⟨k + 1, by omega, by go_num, by rw [HR.out.2], HR.out.1, by rw [HX.out.2]; exact HW3.out, HB3.out⟩
        case measure => simp [intOf]; omega
    · have hk' : k = n := by omega
      subst hk'
      go_wp2_with fail
      go_ret
      exact ⟨_, rfl, by unfold runs; rw [HL.out]; exact HO.out.shut, HB.out⟩
end Go.Proofs.Ytilaldojbgbegaa
