/-
  THE WALK OF made; two and three disks beside each other.
-/
import Derived.Test.YtconholnjhjhcaaCounts
import Derived.Test.YtconholnjhjhcaaReads
namespace Go.Proofs.Ytconholnjhjhcaa
open Ks Go.RowKit

theorem few_len {l : List OpD} (h : few l = true) : l.length ≤ 40 := by
  unfold few at h
  simp at h
  exact h.2
theorem few_tears {l : List OpD} (h : few l = true) {x : OpD} (hx : x ∈ l) : x.tears.length ≤ 40 ∧ x.b.length ≤ 40 ∧ ∀ t ∈ x.tears, t.2.length ≤ 40 := by
  unfold few at h
  simp only [Bool.and_eq_true] at h
  have h2 := List.all_eq_true.1 h.1 x hx
  unfold smallO smallT at h2
  simp only [Bool.and_eq_true, decide_eq_true_eq, List.all_eq_true] at h2
  exact ⟨h2.2.1, h2.1, h2.2.2⟩

def MadePost (w : World) (s : St) (e : Ending) (w' : World) : Prop := ∃ p, e = .returned (.pointer (some ⟨p, 0, none⟩)) ∧ Stands w w.heap.size p s w'

set_option maxRecDepth 100000 in
set_option maxHeartbeats 4000000 in
theorem made_any (w : World) (N : Nat) (v : Value) (l : List OpD) (h : OpsAt w (Lower N) v l) (hN : N ≤ w.heap.size) (hfew : few l = true) (hok : ∀ o ∈ l, o.ok) :
    Calls Try.prog 30 #[v] w (MadePost w (acts eight l)) := by
  have H := Lib.hid h
  have HOK := Lib.hid hok
  have HFEW := Lib.hid hfew
  have hl40 := few_len hfew
  obtain ⟨A, c, rfl⟩ := h.form
  clear h hok hfew
  go_enter Try.func30, Try.ntmps30
  go_wp2_with fail
  refine (new_ok w 8 4 (by omega) (by omega) (by omega)).mono ?_
  rintro e w2 ⟨p, rfl, hd, hk⟩
  have HS := Lib.hid (show Stands w w.heap.size p eight w2 from ⟨_, hd, fun b hb => (by
    rcases hb with hb | hb
    · exact hb.elim
    · exact hb.1), hk⟩)
  clear hd hk
  go_wp2_with fail
  go_loopw [5] (fun i wr => ∃ k : Nat, k ≤ l.length ∧ i = .int .i64 k ∧ Stands w w.heap.size p (acts eight (l.take k)) wr) (fun i _ => l.length - (intOf i).toNat)
  case atStart => exact ⟨0, Nat.zero_le _, rfl, HS.out⟩
  case round =>
    obtain ⟨k, hk, rfl, F, hd, hF, hkk⟩ := hrel
    by_cases hlt : k < l.length
    · have hx : l[k]? = some l[k] := List.getElem?_eq_getElem hlt
      have hox := HOK.out _ (List.getElem_mem hlt)
      have hst := (few_tears HFEW.out (List.getElem_mem hlt)).1
      obtain ⟨x, hxx⟩ : ∃ x, l[k] = x := ⟨_, rfl⟩
      rw [hxx] at hx hox hst
      have HX := Lib.hid hx
      obtain ⟨b, o, A1, c1, A2, c2, rfl, hG, hcap, hc1, hc2, hc3, hc4, hv⟩ := (H.out.keeps hkk (fun _ _ _ h => h)).at_ hx
      have HV := Lib.hid hv
      have HOX := Lib.hid hox
      have HD := Lib.hid hd
      have HF := Lib.hid hF
      have HKK := Lib.hid hkk
      have HFIT := Lib.hid (acts_fits eight_fits (l.take k) (fun o ho => HOK.out o (List.mem_of_mem_take ho)))
      have HLT := Lib.hid (show (l.take k).length ≤ k from List.length_take_le _ _)
      have hk0 : (0 : Int) ≤ (k : Int) := by omega
      have hk1 : (k : Int) < (l.length : Int) := by omega
      clear hx hxx hox hv hG hd hF hkk
      go_wp2_with fail
      refine (do_any wr p F (Lower N) _ x _ _ HD.out HV.out HOX.out (fun b hb => ⟨Nat.lt_of_lt_of_le hb (Nat.le_trans hN HKK.out.size), fun h => absurd (HF.out b h) (by unfold Lower at hb; omega)⟩) (fits_mono HFIT.out (by have := HLT.out; omega)) (by omega)).mono ?_
      rintro e w3 ⟨v3, rfl, hv3, hd3, hk3⟩
      have R := Lib.hid (show Stands w w.heap.size p (acts eight (l.take (k + 1))) w3 by
        rw [acts_take HX.out]
        exact stands_do (Nat.le_refl _) HF.out HKK.out HKK.out.size hd3 hk3)
      clear hd3 hk3 hv3 hc1 hc2 hc3 hc4
      go_wp2_with fail
      go_roundw
      case rel => exact ⟨k + 1, by omega, by go_num, R.out⟩
      case measure => simp [intOf]; omega
    · obtain rfl : k = l.length := by omega
      have R := Lib.hid (show Stands w w.heap.size p (acts eight l) wr by
        rw [List.take_length] at hd
        exact ⟨F, hd, hF, hkk⟩)
      clear hd hF hkk
      go_wp2_with fail
      go_ret
      exact ⟨_, rfl, R.out⟩

theorem made_fits {l : List OpD} (hfew : few l = true) (hok : ∀ o ∈ l, o.ok) : (acts eight l).fits 40 :=
  fits_mono (acts_fits eight_fits l hok) (by have := few_len hfew; omega)
theorem made_size (l : List OpD) : (acts eight l).size = 4 ∧ (acts eight l).last.length = 8 := acts_size eight l
end Go.Proofs.Ytconholnjhjhcaa
