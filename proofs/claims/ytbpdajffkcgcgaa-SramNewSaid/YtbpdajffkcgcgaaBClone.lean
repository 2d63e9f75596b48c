/-
  THE WALK OF bytes.Clone; the types of slices of bytes and of ints.
-/
import Derived.Test.YtbpdajffkcgcgaaBMem
namespace Go.Proofs.Ytbpdajffkcgcgaa
open Go.RowKit
set_option maxRecDepth 20000

theorem elemB : Elem .u8 22 5 1 := ⟨Try.underlying22, by kernel_rfl, by decide⟩
set_option maxRecDepth 100000 in
set_option maxHeartbeats 400000 in
theorem clone_any (w : World) (A : Option Addr) (n c B : Nat) (bs : List Int) (h : Nums .u8 w B A n bs) (hB : B ≤ w.heap.size) (hlen : n ≤ 1000000) :
    Calls Try.prog 25 #[.slice A n c] w fun e w' => ∃ v, e = .returned v ∧ OwnK .u8 5 w.heap.size w' v bs ∧ Below w.heap.size w w' := by
  have q31 : ∀ (w : World) (a : Option Addr) (n c n' c' : Nat), (binOp .eql 22 (.slice a n c) (.slice none n' c')).run Try.prog w = .ok (.bool a.isNone) w := fun w a n c n' c' => Lib.run_eql_slice_nil w _ _ a n c n' c' Try.underlying22
  have H := Lib.hid h
  have HL := Lib.hid hlen
  have HB := Lib.hid hB
  clear hlen hB
  cases A with
  | none =>
    have hb : bs = [] := by
      obtain ⟨h1, _, h3⟩ := H.out
      rcases Nat.eq_zero_or_pos n with h0 | h0
      · exact List.eq_nil_of_length_eq_zero (by omega)
      · obtain ⟨b, o, e, _⟩ := h3 h0
        cases e
    subst hb
    clear h
    go_enter Try.func25, Try.ntmps25
    go_wp2_with fail
    go_ret
    exact ⟨_, rfl, OwnK.nil _ _ _ _, Below.refl _ _⟩
  | some ad =>
    have hown := own_empty .u8 5 w.heap.size w (Nat.le_refl _)
    have hu : Nums .u8 (w.alloc (.cells #[] 5)) B (some ad) n bs := h.below ((below_box w _).mono HB.out)
    obtain ⟨v', w', hr, h2, h3⟩ := append_any elemB _ w.heap.size 22 _ [] hown (some ad) n c B bs hu (by have := HL.out; simpa using this) (by simp)
    have H2 := Lib.hid h2
    have H3 := Lib.hid h3
    have HR := Lib.hid hr
    clear hown hu h2 h3 hr h
    go_enter Try.func25, Try.ntmps25
    go_wp2_with (at_builtin; refine Lib.wpList_append_run _ rfl _ _ _ _ rfl _ _ rfl rfl _ _ HR.out ?_)
    go_ret
    exact ⟨_, rfl, by simpa using H2.out, (below_box w _).trans H3.out⟩
end Go.Proofs.Ytbpdajffkcgcgaa
