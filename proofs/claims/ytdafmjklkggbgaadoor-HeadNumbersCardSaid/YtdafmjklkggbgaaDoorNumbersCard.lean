/-
  HeadNumbers: for every input the Go function keepsake/keepsakelaw04.HeadNumbers returns true, and each argument reads behind the call as it read before; condition: the listed package-level tables read as the program lays them (tied by the card).
-/
import Derived.Test.YtdafmjklkggbgaaDoorCards
import Derived.Test.YtdafmjklkggbgaaDoorTie
import Derived.WalkKit
import Derived.ProofKit
import Derived.OpenShut
import Derived.Deep.DeepHandedRow
import Derived.Lib.LaidTab
import Derived.ChangeOld
import Derived.Below
import Derived.Test.YtdafmjklkggbgaaDoorShape
import Derived.Test.YtdafmjklkggbgaaDoorLaid
import Derived.Test.YtdafmjklkggbgaaDoorNumbers
namespace Go.Proofs.YtdafmjklkggbgaaDoor.headNumbers
open Go.ChangeShapes Go.WideShapes Go.ChangeAt Go.RowKit
set_option linter.unusedVariables false

theorem own : ownKnob Tryd.prog.godebug = none := by kernel_rfl
theorem laidOut : laidOutB Tryd.prog = true := by kernel_rfl
theorem cells27 : Tryd.prog.cellsOf 27 = 6 := by kernel_rfl
theorem cellsF27_3 : Tryd.prog.cellsOf 3 = 1 := by kernel_rfl
theorem cellsF27_24 : Tryd.prog.cellsOf 24 = 1 := by kernel_rfl
theorem cellsF27_25 : Tryd.prog.cellsOf 25 = 1 := by kernel_rfl
theorem split27 {l : List Value} (h : l.length = 6) : ∃ c0 c1 c2 c3 c4 c5, l = [c0, c1, c2, c3, c4, c5] := by
  match l, h with | [c0, c1, c2, c3, c4, c5], _ => exact ⟨c0, c1, c2, c3, c4, c5, rfl⟩

theorem contract (H : Type) (enc : TypeId × Value → H) (W : World) (base : Nat) (args : Array Value) (ds gs : List (DataW H)) (before : List MemPlace)
    (hval : ∀ (j : Nat) t v, Tryd.f8.params[j]? = some t → args[j]? = some v → Value.okWide Tryd.prog W .any base t v)
    (hW : DataW.Whole enc Tryd.prog Tryd.f8.params.toList Rows.headNumbersSpec.vars false W args.toList ds gs before) (hL : laidMetH Tryd.prog Rows.headNumbersRow.laid W) :
    Calls Tryd.prog 8 args W fun e W' => ∃ v, e = .returned v ∧ Rows.headNumbersSpec.post enc Tryd.prog Tryd.f8 false true false false W args v W' := by
  have hW' := hW
  obtain ⟨p, q, hA0, hV, rfl, hfz, hnd⟩ := hW
  have hA : DataW.TrodAll enc Tryd.prog W 0 (fun _ => true) true Tryd.f8.params.toList args.toList ds p := hA0
  rw [Tryd.params8] at hA hval
  obtain ⟨v0, vs0, d0, ds0, p0, q0, hargs, rfl, rfl, h0, r0⟩ := trodAll_cons hA
  obtain ⟨v1, vs1, d1, ds1, p1, q1, rfl, rfl, rfl, h1, r1⟩ := trodAll_cons r0
  obtain ⟨rfl, rfl, rfl⟩ := trodAll_nil r1
  obtain rfl : args = #[v0, v1] := by cases args; simp_all
  obtain ⟨rfl, rfl⟩ := trodVars_none hV
  obtain ⟨cs0, rfl, hsz0, _⟩ : ∃ cs, v0 = .agg cs ∧ cs.size = Tryd.prog.cellsOf 27 ∧ Row.okWide Tryd.prog W .any base 27 cs := by
    have := hval 0 27 v0 rfl rfl
    simpa [Value.okWide, Tryd.underlying27] using this
  rw [cells27] at hsz0
  obtain ⟨l0⟩ := cs0
  obtain ⟨s0_0, s0_1, s0_2, s0_3, s0_4, s0_5, rfl⟩ := split27 (show l0.length = 6 from hsz0)
  have k0 := h0
  have lt0 : ∀ x ∈ p0, x.block < W.heap.size := by obtain ⟨m, hm⟩ := k0; exact DataW.trod_lt m _ _ _ hm
  obtain ⟨z0_0, e, w0_0⟩ : ∃ z, s0_0 = .int .i64 z ∧ (Lit.int .i64 z).wf = true := by
    obtain ⟨m, hm⟩ := k0
    simpa [Value.cells] using Shape.int_in 0 0 Tryd.underlying27 rfl rfl Tryd.underlying23 rfl rfl cellsF27_3 Tryd.underlying3 hm
  subst e
  obtain ⟨z0_1, e, w0_1⟩ : ∃ z, s0_1 = .int .i64 z ∧ (Lit.int .i64 z).wf = true := by
    obtain ⟨m, hm⟩ := k0
    simpa [Value.cells] using Shape.int_in 0 1 Tryd.underlying27 rfl rfl Tryd.underlying23 rfl rfl cellsF27_3 Tryd.underlying3 hm
  subst e
  obtain ⟨z0_2, e, w0_2⟩ : ∃ z, s0_2 = .int .i64 z ∧ (Lit.int .i64 z).wf = true := by
    obtain ⟨m, hm⟩ := k0
    simpa [Value.cells] using Shape.int_in 0 2 Tryd.underlying27 rfl rfl Tryd.underlying23 rfl rfl cellsF27_3 Tryd.underlying3 hm
  subst e
  obtain ⟨z0_3, e, w0_3⟩ : ∃ z, s0_3 = .int .i64 z ∧ (Lit.int .i64 z).wf = true := by
    obtain ⟨m, hm⟩ := k0
    simpa [Value.cells] using Shape.int_at 1 Tryd.underlying27 rfl rfl cellsF27_3 Tryd.underlying3 hm
  subst e
  obtain ⟨z0_4, e, w0_4⟩ : ∃ z, s0_4 = .int .u64 z ∧ (Lit.int .u64 z).wf = true := by
    obtain ⟨m, hm⟩ := k0
    simpa [Value.cells] using Shape.int_at 2 Tryd.underlying27 rfl rfl cellsF27_24 Tryd.underlying24 hm
  subst e
  obtain ⟨z0_5, e, w0_5⟩ : ∃ z, s0_5 = .int .u32 z ∧ (Lit.int .u32 z).wf = true := by
    obtain ⟨m, hm⟩ := k0
    simpa [Value.cells] using Shape.int_at 3 Tryd.underlying27 rfl rfl cellsF27_25 Tryd.underlying25 hm
  subst e
  obtain ⟨cs1, rfl, hsz1, _⟩ : ∃ cs, v1 = .agg cs ∧ cs.size = Tryd.prog.cellsOf 27 ∧ Row.okWide Tryd.prog W .any base 27 cs := by
    have := hval 1 27 v1 rfl rfl
    simpa [Value.okWide, Tryd.underlying27] using this
  rw [cells27] at hsz1
  obtain ⟨l1⟩ := cs1
  obtain ⟨s1_0, s1_1, s1_2, s1_3, s1_4, s1_5, rfl⟩ := split27 (show l1.length = 6 from hsz1)
  have k1 := h1
  have lt1 : ∀ x ∈ p1, x.block < W.heap.size := by obtain ⟨m, hm⟩ := k1; exact DataW.trod_lt m _ _ _ hm
  obtain ⟨z1_0, e, w1_0⟩ : ∃ z, s1_0 = .int .i64 z ∧ (Lit.int .i64 z).wf = true := by
    obtain ⟨m, hm⟩ := k1
    simpa [Value.cells] using Shape.int_in 0 0 Tryd.underlying27 rfl rfl Tryd.underlying23 rfl rfl cellsF27_3 Tryd.underlying3 hm
  subst e
  obtain ⟨z1_1, e, w1_1⟩ : ∃ z, s1_1 = .int .i64 z ∧ (Lit.int .i64 z).wf = true := by
    obtain ⟨m, hm⟩ := k1
    simpa [Value.cells] using Shape.int_in 0 1 Tryd.underlying27 rfl rfl Tryd.underlying23 rfl rfl cellsF27_3 Tryd.underlying3 hm
  subst e
  obtain ⟨z1_2, e, w1_2⟩ : ∃ z, s1_2 = .int .i64 z ∧ (Lit.int .i64 z).wf = true := by
    obtain ⟨m, hm⟩ := k1
    simpa [Value.cells] using Shape.int_in 0 2 Tryd.underlying27 rfl rfl Tryd.underlying23 rfl rfl cellsF27_3 Tryd.underlying3 hm
  subst e
  obtain ⟨z1_3, e, w1_3⟩ : ∃ z, s1_3 = .int .i64 z ∧ (Lit.int .i64 z).wf = true := by
    obtain ⟨m, hm⟩ := k1
    simpa [Value.cells] using Shape.int_at 1 Tryd.underlying27 rfl rfl cellsF27_3 Tryd.underlying3 hm
  subst e
  obtain ⟨z1_4, e, w1_4⟩ : ∃ z, s1_4 = .int .u64 z ∧ (Lit.int .u64 z).wf = true := by
    obtain ⟨m, hm⟩ := k1
    simpa [Value.cells] using Shape.int_at 2 Tryd.underlying27 rfl rfl cellsF27_24 Tryd.underlying24 hm
  subst e
  obtain ⟨z1_5, e, w1_5⟩ : ∃ z, s1_5 = .int .u32 z ∧ (Lit.int .u32 z).wf = true := by
    obtain ⟨m, hm⟩ := k1
    simpa [Value.cells] using Shape.int_at 3 Tryd.underlying27 rfl rfl cellsF27_25 Tryd.underlying25 hm
  subst e
  clear hA0
  refine (headNumbers_walk z0_0 w0_0 z0_1 w0_1 z0_2 w0_2 z0_3 w0_3 z0_4 w0_4 z0_5 w0_5 z1_0 w1_0 z1_1 w1_1 z1_2 w1_2 z1_3 w1_3 z1_4 w1_4 z1_5 w1_5 W (tab_of hL)).mono fun e W' ⟨he, bel⟩ => ?_
  subst he
  exact ⟨_, rfl, _, _, _, [], _, [], hW', trodAll_mk1 (shut_bool Tryd.underlying4 _), (trodAll_cons_mk (Below.trod laidOut (by kernel_rfl) (of_decide_eq_true (by kernel_rfl)) k0 bel lt0) (trodAll_cons_mk (Below.trod laidOut (by kernel_rfl) (of_decide_eq_true (by kernel_rfl)) k1 bel lt1) trodAll_mk0)), rfl, bel.frame _, fun h => by cases h⟩

noncomputable def laidWorld (os : Os) : World :=
  { World.holding Tryd.prog os ⟨#[], #[], []⟩ with heap := (((World.holding Tryd.prog os ⟨#[], #[], []⟩).heap.modify 0 fun
      | .cells _ t frozen => .cells #[.int .u32 0, .int .u32 498536548, .int .u32 997073096, .int .u32 651767980, .int .u32 1994146192, .int .u32 1802195444, .int .u32 1303535960, .int .u32 1342533948, .int .u32 3988292384, .int .u32 4027552580, .int .u32 3604390888, .int .u32 3412177804, .int .u32 2607071920, .int .u32 2262029012, .int .u32 2685067896, .int .u32 3183342108] t frozen
      | o => o).modify 1 fun
      | .cells _ t frozen => .cells #[.int .i64 0, .int .i64 0, .int .i64 0, .int .i64 0, .int .i64 128, .int .i64 8, .int .i64 1, .int .i64 0, .int .i64 256, .int .i64 8, .int .i64 1, .int .i64 0, .int .i64 512, .int .i64 16, .int .i64 1, .int .i64 1, .int .i64 1024, .int .i64 16, .int .i64 1, .int .i64 2, .int .i64 2048, .int .i64 16, .int .i64 1, .int .i64 3, .int .i64 4096, .int .i64 32, .int .i64 2, .int .i64 0, .int .i64 8192, .int .i64 32, .int .i64 2, .int .i64 0, .int .i64 16384, .int .i64 64, .int .i64 2, .int .i64 0, .int .i64 32768, .int .i64 64, .int .i64 2, .int .i64 0, .int .i64 65536, .int .i64 128, .int .i64 2, .int .i64 0] t frozen
      | o => o) }
theorem laid_met (os : Os) : laidMet Tryd.prog Rows.headNumbersRow.laid ((laidWorld os).forCall (fun _ _ => 0) ⟨#[], #[.agg #[.int .i64 0, .int .i64 0, .int .i64 0, .int .i64 0, .int .u64 0, .int .u32 0], .agg #[.int .i64 0, .int .i64 0, .int .i64 0, .int .i64 0, .int .u64 0, .int .u32 0]], []⟩).memory :=
  laidMet_of_run' 8 (by kernel_rfl) (by kernel_rfl)
theorem reads (os : Os) {H : Type} (enc : TypeId × Value → H) : ∃ places, DataW.whole enc Tryd.prog ((laidWorld os).forCall (fun _ _ => 0) ⟨#[], #[.agg #[.int .i64 0, .int .i64 0, .int .i64 0, .int .i64 0, .int .u64 0, .int .u32 0], .agg #[.int .i64 0, .int .i64 0, .int .i64 0, .int .i64 0, .int .u64 0, .int .u32 0]], []⟩).memory Tryd.f8.params.toList Rows.headNumbersSpec.vars false #[Value.agg #[.int .i64 0, .int .i64 0, .int .i64 0, .int .i64 0, .int .u64 0, .int .u32 0], .agg #[.int .i64 0, .int .i64 0, .int .i64 0, .int .i64 0, .int .u64 0, .int .u32 0]].toList 8 = some ([.agg [.agg [.lit (.int .i64 0), .lit (.int .i64 0), .lit (.int .i64 0)], .lit (.int .i64 0), .lit (.int .u64 0), .lit (.int .u32 0)], .agg [.agg [.lit (.int .i64 0), .lit (.int .i64 0), .lit (.int .i64 0)], .lit (.int .i64 0), .lit (.int .u64 0), .lit (.int .u32 0)]], [], places) :=
  ⟨[], by kernel_rfl⟩

set_option maxRecDepth 100000 in
theorem lifted (os : Os) (started : os.Started) (H : Type) (enc : TypeId × Value → H) (F : Stop.Interp) :
    ReturnsInHanded {} Tryd.checked os 8 .any ((OpenSpec.ofChange Rows.headNumbersSpec).preRow enc Tryd.prog Tryd.f8 Rows.headNumbersRow.domain false Rows.headNumbersRow.laid) (((OpenSpec.ofChange Rows.headNumbersSpec).at F).post enc Tryd.prog Tryd.f8 false true false false) := by
  obtain ⟨places, hx⟩ := reads os enc
  refine returnsInHanded_of_row (C := Tryd.checked) (s := OpenSpec.ofChange Rows.headNumbersSpec) own started (by kernel_rfl) Tryd.func8
    (witness_row_at (enc := enc) (C := Tryd.checked) false (laidWorld os) #[.agg #[.int .i64 0, .int .i64 0, .int .i64 0, .int .i64 0, .int .u64 0, .int .u32 0], .agg #[.int .i64 0, .int .i64 0, .int .i64 0, .int .i64 0, .int .u64 0, .int .u32 0]] rfl (by kernel_rfl) (by kernel_rfl) (by kernel_rfl)
      (OpenSpec.preRow_of_cond 8 hx (by kernel_rfl) (fun k hk => by cases hk) (by kernel_rfl) (laid_met os))) ?_
  intro W base args ds gs before hval hW _ _ hcond hL _ _
  exact contract H enc W base args ds gs before hval hW hL

theorem said : Rows.HeadNumbersSaid :=
  OpenClaim.holds_of_cond 8 Tryd.f8 rfl rfl rfl rfl rfl rfl rfl ⟨rfl, rfl, rfl, rfl, rfl⟩ rfl rfl rfl rfl rfl (by kernel_rfl) Tryd.func8 (by kernel_rfl)
    (of_decide_eq_true (by kernel_rfl)) (by unfold Func.isWrapper; first | (rw [if_pos (by decide +kernel)]; kernel_rfl) | (rw [if_neg (by decide +kernel)]; exact ⟨rfl, rfl⟩))
    (fun os started H enc _ F => by rw [OpenClaim.pre_eq_preRow]; exact lifted os started H enc F)

theorem plain (f : FuncId) (fn : Func) (hf : Tryd.pinned.checked.prog.funcNamed "keepsake/keepsakelaw04.HeadNumbers" = some f) (hfn : Tryd.pinned.checked.prog.funcs[f]? = some fn) :
    false = Tryd.pinned.checked.prog.looks [] ∧ ∀ (j : Nat) t, fn.params[j]? = some t → Tryd.pinned.checked.prog.wantsStandIn t = false := by
  obtain rfl : f = 8 := Option.some.inj ((show Tryd.prog.funcNamed "keepsake/keepsakelaw04.HeadNumbers" = some 8 by kernel_rfl).symm.trans hf) |>.symm
  obtain rfl : fn = Tryd.f8 := (Option.some.inj (Tryd.func8.symm.trans hfn)).symm
  refine ⟨by kernel_rfl, fun j t ht => ?_⟩
  rw [Tryd.params8] at ht
  have hm := Array.mem_of_getElem? ht
  have hd : ∀ t, t ∈ (#[27, 27] : Array TypeId) → Tryd.prog.wantsStandIn t = false := by
    intro t ht
    simp only [List.mem_toArray, List.mem_cons, List.not_mem_nil, or_false] at ht
    rcases ht with rfl | rfl
    · exact (show Tryd.prog.wantsStandIn 27 = false by kernel_rfl)
    · exact (show Tryd.prog.wantsStandIn 27 = false by kernel_rfl)
  exact hd t hm

theorem card : Rows.HeadNumbersCardSaid :=
  Claim7.holds_tied_plain_at .later [] _ _ _ _ said (fun _ h => by cases h) (by kernel_rfl) (fun _ h => by cases h) headNumbers_row_tie rfl ⟨rfl, rfl⟩ (by kernel_rfl) rfl plain (by kernel_rfl)

end Go.Proofs.YtdafmjklkggbgaaDoor.headNumbers
