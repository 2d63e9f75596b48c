/-
  THE WALK OF bytes.Clone; append of bytes, whatever the source.
-/
import Derived.Test.YthlemcnbebfliaaGreatDoorDBase
import Derived.Test.YthlemcnbebfliaaGreatDoorProg
import Derived.WalkKit
import Derived.WalkSpells
import Derived.WalkLawsBesides
import Derived.Lib.AppendZeros
import Derived.Deep.AppendLies
import Derived.Lib.MinMax
import Derived.Lib.SliceRun
namespace Go.Proofs.YthlemcnbebfliaaGreatDoor.Dsk
open Ks Go.RowKit
set_option maxRecDepth 20000

theorem info5 : (Tryz.prog.info? 5).map (fun i => (i.zero, i.size, i.bytes)) = some (some (.int .u8 0), 1, 1) := by kernel_rfl

theorem ints_one (bs : List Int) : ∀ u ∈ bs.map (Value.int .u8), u.oneCell' = true := by
  intro u hu
  obtain ⟨x, _, rfl⟩ := List.mem_map.1 hu
  rfl
theorem bys_news {w : World} {b o : Nat} {bs : List Int} (hc : ∀ k, k < bs.length → w.cell? ⟨b, o + k, none⟩ = some (.int .u8 (bs.getD k 0))) :
    ∀ j u, (bs.map (Value.int .u8))[j]? = some u → w.cell? ((⟨b, o, none⟩ : Addr).add j) = some u := by
  intro j u hu
  rw [Go.WideShapes.add_plain]
  have hj : j < bs.length := by
    have := (List.getElem?_eq_some_iff.1 hu).1
    simpa using this
  rw [hc j hj]
  simp [hj] at hu
  simp [List.getD, hj, hu]

/-- append onto what the call owns, of bytes wherever they are -/
theorem append_bys (w : World) (base ty : Nat) (v : Value) (n : Nat) (xs : List Int) (hown : w.ownsRow base 5 1 v n (xs.map (Value.int .u8))) (F : Nat → Prop) (u : Value) (bs : List Int) (hu : Bys w F u bs)
    (hlen : n + bs.length ≤ 100000000000000) (hbase : base ≤ w.heap.size) :
    ∃ v' w', (Builtin.append_ #[33, 33] ty #[v, u]).run Tryz.prog w = .ok v' w' ∧ w'.ownsRow base 5 1 v' (n + bs.length) ((xs ++ bs).map (Value.int .u8)) ∧ w.grownBy w' v.ownBlock ∧
      (v'.ownBlock = v.ownBlock ∨ v'.ownBlock = some w.heap.size) := by
  obtain ⟨i0, hi, hz0, hz1, hz2⟩ := info_parts info5
  obtain ⟨A, c, rfl, hc, hcell⟩ := hu
  rcases Nat.eq_zero_or_pos bs.length with h0 | h0
  · have hb : bs = [] := List.eq_nil_of_length_eq_zero h0
    subst hb
    cases A with
    | none =>
      refine ⟨v, w, ?_, by simpa using hown, World.grownBy.refl w _, .inl rfl⟩
      rcases hown.2 with ⟨rfl, rfl⟩ | ⟨g, cap, cur, rfl, _, _, hnc, _⟩
      · simp [Builtin.append_, run_underlying Tryz.underlying33, sizeOf, typeInfo, hi, Builtin.lenOf, Builtin.firstCells]
      · simp [Builtin.append_, run_underlying Tryz.underlying33, sizeOf, typeInfo, hi, Builtin.lenOf, Builtin.firstCells, hnc, storeCells]
    | some ad =>
      obtain ⟨v', w', hr, h2, h3, _, h5⟩ := run_append_own_at (P := Tryz.prog) w base 33 ty 5 i0 _ 1 1 Tryz.underlying33 hi hz0 hz1 hz2 rfl (by omega) v n _ hown ad 0 c [] rfl (by simp) (by simp) (by unfold maxLen; omega) (by simp at hlen; omega) hbase
      exact ⟨v', w', hr, by simpa using h2, h3, h5⟩
  · obtain ⟨b, o, rfl, _, hcs⟩ := hcell h0
    obtain ⟨v', w', hr, h2, h3, _, h5⟩ := run_append_own_at (P := Tryz.prog) w base 33 ty 5 i0 _ 1 1 Tryz.underlying33 hi hz0 hz1 hz2 rfl (by omega) v n _ hown ⟨b, o, none⟩ bs.length c (bs.map (Value.int .u8)) (by simp) (bys_news hcs) (ints_one bs) (by unfold maxLen; omega) (by omega) hbase
    exact ⟨v', w', hr, by simpa using h2, h3, h5⟩

/-- what is answered is new memory that holds these bytes -/
def NewBys (w : World) (bs : List Int) (e : Ending) (w' : World) : Prop :=
  ∃ v, e = .returned v ∧ Byt w' (From w.heap.size) v bs ∧ Keeps No w w'

set_option maxRecDepth 100000 in
set_option maxHeartbeats 400000 in
theorem clone_any (w : World) (F : Nat → Prop) (v : Value) (bs : List Int) (h : Bys w F v bs) (hlen : bs.length ≤ 1000000) :
    Calls Tryz.prog 57 #[v] w (NewBys w bs) := by
  have q31 : ∀ (w : World) (a : Option Addr) (n c n' c' : Nat), (binOp .eql 33 (.slice a n c) (.slice none n' c')).run Tryz.prog w = .ok (.bool a.isNone) w := fun w a n c n' c' => Lib.run_eql_slice_nil w _ _ a n c n' c' Tryz.underlying33
  have H := Lib.hid h
  have HL := Lib.hid hlen
  clear hlen
  obtain ⟨A, c, rfl, hc, hcell⟩ := h
  clear hcell
  cases A with
  | none =>
    have hb : bs = [] := by
      obtain ⟨A, c, e, hc, hcell⟩ := H.out
      rcases Nat.eq_zero_or_pos bs.length with h0 | h0
      · exact List.eq_nil_of_length_eq_zero h0
      · obtain ⟨b, o, rfl, _⟩ := hcell h0
        simp at e
    subst hb
    go_enter Tryz.func57, Tryz.ntmps57
    go_wp2_with fail
    go_ret
    exact ⟨_, rfl, Bys.nil _ _, Keeps.refl _ _⟩
  | some ad =>
    have hown : (w.alloc (.cells #[] 5)).ownsRow w.heap.size 5 1 (.slice (some ⟨w.heap.size, 0, none⟩) 0 0) 0 (([] : List Int).map (Value.int .u8)) :=
      ⟨by simp, .inr ⟨w.heap.size, 0, #[], rfl, Nat.le_refl _, heap_alloc_new w _, Nat.le_refl _, Nat.zero_le _, rfl, rfl⟩⟩
    have hu : Bys (w.alloc (.cells #[] 5)) F (.slice (some ad) bs.length c) bs := by
      exact H.out.keeps ((Keeps.refl No w).alloc _) (fun _ _ _ h => h)
    obtain ⟨v', w', hr, h2, h3, h4⟩ := append_bys _ w.heap.size 33 _ 0 [] hown F _ bs hu (by have := HL.out; omega) (by simp)
    have H2 := Lib.hid h2
    have H3 := Lib.hid h3
    have H4 := Lib.hid h4
    have HR := Lib.hid hr
    clear hown hu h2 h3 h4 hr
    go_enter Tryz.func57, Tryz.ntmps57
    go_wp2_with (at_builtin; refine Lib.wpList_append_run _ rfl _ _ _ _ rfl _ _ rfl rfl _ _ HR.out ?_)
    go_ret
    refine ⟨_, rfl, ?_, ?_⟩
    · have := Byt.of_own (w := w') (v := v') (bs := bs) (base := w.heap.size) (n := 0 + bs.length) (by simpa using H2.out)
      exact this.mono fun b hb => hb.1
    · exact ((Keeps.refl No w).alloc _).grown H3.out (fun b hb => by simp [Value.ownBlock] at hb; right; omega)
end Go.Proofs.YthlemcnbebfliaaGreatDoor.Dsk
