/-
  THE WALK OF DiskCounts.
-/
import Derived.Test.YtconholnjhjhcaaRun
namespace Go.Proofs.Ytconholnjhjhcaa
open Ks Go.RowKit

/-- true, and nothing that was there has changed -/
def Holds (w : World) (e : Ending) (w' : World) : Prop := e = .returned (.bool true) ∧ Below w.heap.size w w'
theorem _root_.Ks.Keeps.all {w w' : World} (h : Keeps No w w') : Below w.heap.size w w' := h.below (fun _ h => h.elim) (Nat.le_refl _)

/-- where a disk stands: all of its memory is from N on, and nothing that was there in w has changed -/
def Stands (w : World) (N : Nat) (p : Nat) (s : St) (wr : World) : Prop := ∃ F, DiskAt Try.prog wr p F s ∧ (∀ b, F b → N ≤ b) ∧ Keeps No w wr

theorem stands_do {w wr w' : World} {N p : Nat} {s' : St} {F : Nat → Prop} (hN : w.heap.size ≤ N) (hF : ∀ b, F b → N ≤ b) (hk : Keeps No w wr) (hNr : N ≤ wr.heap.size) (hd : DiskAt Try.prog w' p (Grow F wr w') s') (hk' : Keeps F wr w') : Stands w N p s' w' :=
  ⟨_, hd, fun b hb => by rcases hb with hb | hb; exact hF b hb; omega, hk.then hk' (fun b hb => .inr (Nat.le_trans hN (hF b hb)))⟩

def CountsAt (w : World) (p : Nat) (k : Nat) (o wv : Value) (wr : World) : Prop :=
  ∃ s, o = .int .i64 s.ops ∧ wv = .int .i64 s.wr ∧ s.fits k ∧ Stands w w.heap.size p s wr

set_option maxRecDepth 100000 in
set_option maxHeartbeats 4000000 in
theorem diskCounts_walk (w : World) (v : Value) (l : List OpD) (h : OpsAt w (fun b => b < w.heap.size) v l) (hl : l.length ≤ maxLen) (hok : ∀ o ∈ l, o.ok) :
    Calls Try.prog 10 #[v] w (Holds w) := by
  have H := Lib.hid h
  have HOK := Lib.hid hok
  have HLM := Lib.hid hl
  obtain ⟨A, c, rfl⟩ := h.form
  clear h hok hl
  go_enter Try.func10, Try.ntmps10
  go_wp2_with fail
  refine (awake_any w).mono ?_
  rintro e w1 ⟨rfl, hk1⟩
  have HK1 := Lib.hid hk1
  have H1 := Lib.hid (H.out.keeps hk1 (fun _ _ _ h => h))
  clear hk1
  go_wp2_with fail
  refine (few_any w1 _ _ l H1.out HLM.out HOK.out).mono ?_
  rintro e w' ⟨rfl, rfl⟩
  cases hfew : few l
  · clear hfew
    go_wp2_with fail
    go_ret
    exact ⟨rfl, HK1.out.all⟩
  · have hl40 : l.length ≤ 40 := by
      unfold few at hfew
      simp at hfew
      exact hfew.2
    have HFEW := Lib.hid hfew
    clear hfew
    go_wp2_with fail
    refine (new_ok w1 8 4 (by omega) (by omega) (by omega)).mono ?_
    rintro e w2 ⟨p, rfl, hd, hk⟩
    have HK2 := Lib.hid (HK1.out.trans hk)
    have HS := Lib.hid (show Stands w w.heap.size p eight w2 from ⟨_, hd, fun b hb => (by
      rcases hb with hb | hb
      · exact hb.elim
      · exact Nat.le_trans HK1.out.size hb.1), HK1.out.trans hk⟩)
    clear hd hk
    go_wp2_with fail
    go_loopw [7, 8, 9] (fun o wv i wr => ∃ k : Nat, k ≤ l.length ∧ i = .int .i64 k ∧ CountsAt w p k o wv wr) (fun _ _ i _ => l.length - (intOf i).toNat)
    case atStart => exact ⟨0, Nat.zero_le _, rfl, eight, rfl, rfl, eight_fits, HS.out⟩
    case round =>
      obtain ⟨k, hk, rfl, s, rfl, rfl, hfit, F, hd, hF, hkk⟩ := hrel
      by_cases hlt : k < l.length
      · have hx : l[k]? = some l[k] := List.getElem?_eq_getElem hlt
        have hox := HOK.out _ (List.getElem_mem hlt)
        obtain ⟨x, hxx⟩ : ∃ x, l[k] = x := ⟨_, rfl⟩
        rw [hxx] at hx hox
        have HX := Lib.hid hx
        obtain ⟨b, o, A1, c1, A2, c2, rfl, hG, hcap, hc1, hc2, hc3, hc4, hv⟩ := (H.out.keeps hkk (fun _ _ _ h => h)).at_ hx
        have HV := Lib.hid hv
        have HOX := Lib.hid hox
        have HD := Lib.hid hd
        have HF := Lib.hid hF
        have HKK := Lib.hid hkk
        have HFIT := Lib.hid hfit
        have hk0 : (0 : Int) ≤ (k : Int) := by omega
        have hk1 : (k : Int) < (l.length : Int) := by omega
        have hsmall : x.tears.length ≤ 1000000 := by
          have := HFEW.out
          unfold few at this
          simp only [Bool.and_eq_true] at this
          have h2 := List.all_eq_true.1 this.1 x (List.mem_of_getElem? hx)
          unfold smallO at h2
          simp at h2
          omega
        have hkind := hox.1
        have hbN : b < w.heap.size := hG
        clear hx hxx hox hv hG hd hF hkk hfit
        go_wp2_with fail
        refine (do_any wr p F (fun b => b < w.heap.size) s x _ _ HD.out HV.out HOX.out (fun b hb => ⟨Nat.lt_of_lt_of_le hb HKK.out.size, fun h => absurd (HF.out b h) (by omega)⟩) (fits_mono HFIT.out (by omega)) hsmall).mono ?_
        rintro e w3 ⟨v3, rfl, hv3, hd3, hk3⟩
        have hbl := block_lt_of_cell hc1
        have e1 : w3.cell? ⟨b, o + k * 4, none⟩ = some (.int .u8 x.kind) := (hk3.cell hbl (fun h => absurd (HF.out b h) (by omega))).trans hc1
        have HD3 := Lib.hid hd3
        have R := Lib.hid (show (act s x).fits (k + 1) ∧ Stands w w.heap.size p (act s x) w3 from ⟨act_fits HFIT.out x hkind, stands_do (Nat.le_refl _) HF.out HKK.out HKK.out.size hd3 hk3⟩)
        have hop := act_ops s x hkind
        have hwr := act_wr s x
        have hb1 := HFIT.out.1
        have hb2 := HFIT.out.2.1
        obtain ⟨err, herr⟩ : ∃ err, (said s x).2 = err := ⟨_, rfl⟩
        rw [herr] at hwr ⊢
        clear herr hd3 hk3 hv3 hc1 hc2 hc3 hc4
        by_cases k0 : x.kind = 0
        · have hk2 : x.kind ≤ 2 := by omega
          rw [if_pos hk2] at hop
          have b0 : (x.kind == 0) = true := by simpa using k0
          by_cases he : err = 0
          · subst he
            rw [if_pos ⟨k0, rfl⟩] at hwr
            have n1 : (((act s x).ops : Int) != (s.ops : Int) + 1) = false := by simp; omega
            have n2 : (((act s x).wr : Int) != (s.wr : Int) + 1) = false := by simp; omega
            have E1 := Lib.hid hop
            have E2 := Lib.hid hwr
            clear hop hwr k0
            go_wp2_with fail
            refine (ops_any w3 p _ _ HD3.out).mono ?_
            rintro e w4 ⟨rfl, rfl⟩
            go_wp2_with fail
            refine (writes_any w3 p _ _ HD3.out).mono ?_
            rintro e w4 ⟨rfl, rfl⟩
            go_wp2_with fail
            go_roundw
            case rel => exact ⟨k + 1, by omega, by go_num, act s x, by rw [E1.out]; go_num, by rw [E2.out]; go_num, R.out.1, R.out.2⟩
            case measure => simp [intOf]; omega
          · rw [if_neg (fun h => he h.2)] at hwr
            have be : (err == 0) = false := by simpa using he
            have n1 : (((act s x).ops : Int) != (s.ops : Int) + 1) = false := by simp; omega
            have n2 : (((act s x).wr : Int) != (s.wr : Int)) = false := by simp; omega
            have E1 := Lib.hid hop
            have E2 := Lib.hid hwr
            clear hop hwr k0 he
            go_wp2_with fail
            refine (ops_any w3 p _ _ HD3.out).mono ?_
            rintro e w4 ⟨rfl, rfl⟩
            go_wp2_with fail
            refine (writes_any w3 p _ _ HD3.out).mono ?_
            rintro e w4 ⟨rfl, rfl⟩
            go_wp2_with fail
            go_roundw
            case rel => exact ⟨k + 1, by omega, by go_num, act s x, by rw [E1.out]; go_num, by rw [E2.out]; go_num, R.out.1, R.out.2⟩
            case measure => simp [intOf]; omega
        · rw [if_neg (fun h => k0 h.1)] at hwr
          have b0 : (x.kind == 0) = false := by simpa using k0
          have n2 : (((act s x).wr : Int) != (s.wr : Int)) = false := by simp; omega
          have E2 := Lib.hid hwr
          by_cases hk2 : x.kind ≤ 2
          · rw [if_pos hk2] at hop
            have n1 : (((act s x).ops : Int) != (s.ops : Int) + 1) = false := by simp; omega
            have E1 := Lib.hid hop
            clear hop hwr k0
            go_wp2_with fail
            refine (ops_any w3 p _ _ HD3.out).mono ?_
            rintro e w4 ⟨rfl, rfl⟩
            go_wp2_with fail
            refine (writes_any w3 p _ _ HD3.out).mono ?_
            rintro e w4 ⟨rfl, rfl⟩
            go_wp2_with fail
            go_roundw
            case rel => exact ⟨k + 1, by omega, by go_num, act s x, by rw [E1.out]; go_num, by rw [E2.out]; go_num, R.out.1, R.out.2⟩
            case measure => simp [intOf]; omega
          · rw [if_neg hk2] at hop
            have d2 : decide (x.kind ≤ 2) = false := by simpa using hk2
            have n1 : (((act s x).ops : Int) != (s.ops : Int)) = false := by simp; omega
            have E1 := Lib.hid hop
            clear hop hwr k0 hk2
            go_wp2_with fail
            refine (ops_any w3 p _ _ HD3.out).mono ?_
            rintro e w4 ⟨rfl, rfl⟩
            go_wp2_with fail
            refine (writes_any w3 p _ _ HD3.out).mono ?_
            rintro e w4 ⟨rfl, rfl⟩
            go_wp2_with fail
            go_roundw
            case rel => exact ⟨k + 1, by omega, by go_num, act s x, by rw [E1.out]; go_num, by rw [E2.out]; go_num, R.out.1, R.out.2⟩
            case measure => simp [intOf]; omega
      · obtain rfl : k = l.length := by omega
        have HK := Lib.hid hkk
        clear hkk hd hF hfit
        go_wp2_with fail
        go_ret
        exact ⟨rfl, HK.out.all⟩
end Go.Proofs.Ytconholnjhjhcaa
