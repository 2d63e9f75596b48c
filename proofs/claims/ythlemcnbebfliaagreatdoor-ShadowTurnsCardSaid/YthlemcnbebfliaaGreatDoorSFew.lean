/-
  WHAT COMES IN: operations; the walk of few.
-/
import Derived.Test.YthlemcnbebfliaaGreatDoorDCrash
import Derived.Test.YthlemcnbebfliaaGreatDoorHPre
import Derived.WalkLawsBesides
namespace Go.Proofs.YthlemcnbebfliaaGreatDoor
open Ks Go.RowKit Dsk
set_option maxRecDepth 20000

/-- an operation -/
structure OpD where
  kind : Int
  which : Int
  seq : Int
  b : List Int
  num : Int
  tears : List (Int × List Int)

/-- numbers that are lengths, and kinds of their types -/
structure OpD.ok (o : OpD) : Prop where
  kind : 0 ≤ o.kind ∧ o.kind ≤ 255
  which : -9223372036854775808 ≤ o.which ∧ o.which ≤ 9223372036854775807
  seq : 0 ≤ o.seq ∧ o.seq < 18446744073709551616
  num : 0 ≤ o.num ∧ o.num ≤ 255
  blen : o.b.length ≤ maxLen
  b8 : ∀ z ∈ o.b, 0 ≤ z ∧ z ≤ 255
  tlen : o.tears.length ≤ maxLen
  tears : ∀ t ∈ o.tears, t.2.length ≤ maxLen ∧ ∀ z ∈ t.2, 0 ≤ z ∧ z ≤ 255
/-- an operation's values -/
def OpVals (w : World) (G : Nat → Prop) (bv tv : Value) (o : OpD) : Prop := Bys w G bv o.b ∧ Tears w G tv o.tears
def OpsAt (w : World) (G : Nat → Prop) (v : Value) (l : List OpD) : Prop :=
  ∃ A c, v = .slice A l.length c ∧ l.length ≤ c ∧ (0 < l.length → ∃ b o, A = some ⟨b, o, none⟩ ∧ G b ∧ ∀ (k : Nat) (x : OpD), l[k]? = some x → w.cell? ⟨b, o + k * 6, none⟩ = some (.int .u8 x.kind) ∧ w.cell? ⟨b, o + k * 6 + 1, none⟩ = some (.int .i64 x.which) ∧
    w.cell? ⟨b, o + k * 6 + 2, none⟩ = some (.int .u64 x.seq) ∧ w.cell? ⟨b, o + k * 6 + 4, none⟩ = some (.int .u8 x.num) ∧ ∃ bv tv, w.cell? ⟨b, o + k * 6 + 3, none⟩ = some bv ∧ w.cell? ⟨b, o + k * 6 + 5, none⟩ = some tv ∧ OpVals w G bv tv x)

theorem OpVals.keeps {w w' : World} {G S : Nat → Prop} {bv tv : Value} {o : OpD} (h : OpVals w G bv tv o) (hk : Keeps S w w') (hS : ∀ b, G b → b < w.heap.size → ¬ S b) : OpVals w' G bv tv o :=
  ⟨h.1.keeps hk hS, h.2.keeps hk hS⟩
theorem OpsAt.keeps {w w' : World} {G S : Nat → Prop} {v : Value} {l : List OpD} (h : OpsAt w G v l) (hk : Keeps S w w') (hS : ∀ b, G b → b < w.heap.size → ¬ S b) : OpsAt w' G v l := by
  obtain ⟨A, c, rfl, hc, h⟩ := h
  refine ⟨A, c, rfl, hc, fun h0 => ?_⟩
  obtain ⟨b, o, rfl, hG, hcell⟩ := h h0
  refine ⟨b, o, rfl, hG, fun k x hx => ?_⟩
  obtain ⟨h1, h2, h6, h7, bv, tv, h3, h4, h5⟩ := hcell k x hx
  have hl := block_lt_of_cell h1
  exact ⟨(hk.cell hl (hS b hG hl)).trans h1, (hk.cell hl (hS b hG hl)).trans h2, (hk.cell hl (hS b hG hl)).trans h6, (hk.cell hl (hS b hG hl)).trans h7, bv, tv, (hk.cell hl (hS b hG hl)).trans h3, (hk.cell hl (hS b hG hl)).trans h4, h5.keeps hk hS⟩

theorem OpsAt.form {w : World} {F : Nat → Prop} {v : Value} {l : List OpD} (h : OpsAt w F v l) : ∃ A c, v = .slice A l.length c := by
  obtain ⟨A, c, e, _⟩ := h
  exact ⟨A, c, e⟩
/-- the k-th operation's cells -/
theorem OpsAt.at_ {w : World} {G : Nat → Prop} {A : Option Addr} {n c : Nat} {l : List OpD} (h : OpsAt w G (.slice A n c) l) {k : Nat} {x : OpD} (hx : l[k]? = some x) :
    ∃ b o A1 c1 A2 c2, A = some ⟨b, o, none⟩ ∧ G b ∧ n ≤ c ∧ w.cell? ⟨b, o + k * 6, none⟩ = some (.int .u8 x.kind) ∧ w.cell? ⟨b, o + k * 6 + 1, none⟩ = some (.int .i64 x.which) ∧ w.cell? ⟨b, o + k * 6 + 2, none⟩ = some (.int .u64 x.seq) ∧
      w.cell? ⟨b, o + k * 6 + 3, none⟩ = some (.slice A1 x.b.length c1) ∧ w.cell? ⟨b, o + k * 6 + 4, none⟩ = some (.int .u8 x.num) ∧ w.cell? ⟨b, o + k * 6 + 5, none⟩ = some (.slice A2 x.tears.length c2) ∧ OpVals w G (.slice A1 x.b.length c1) (.slice A2 x.tears.length c2) x := by
  obtain ⟨A', c', e, hc, hcs⟩ := h
  simp only [Value.slice.injEq] at e
  obtain ⟨rfl, rfl, rfl⟩ := e
  have hk := (List.getElem?_eq_some_iff.1 hx).1
  obtain ⟨b, o, rfl, hG, hcells⟩ := hcs (by omega)
  obtain ⟨hc1, hc2, hc5, hc6, bv, tv, hc3, hc4, hv⟩ := hcells k x hx
  obtain ⟨A1, c1, rfl⟩ := hv.1.form
  obtain ⟨A2, c2, rfl⟩ := hv.2.form
  exact ⟨b, o, A1, c1, A2, c2, rfl, hG, hc, hc1, hc2, hc5, hc3, hc6, hc4, hv⟩
/-- are operations of a size that is looked at? -/
def smallT (l : List (Int × List Int)) : Bool := l.all fun t => decide (t.2.length ≤ 100)
def smallO (o : OpD) : Bool := decide (o.b.length ≤ 600) && (decide (o.tears.length ≤ 40) && smallT o.tears)
def few (l : List OpD) : Bool := l.all smallO && decide (l.length ≤ 12)

theorem all_take {α : Type} (p : α → Bool) (l : List α) (k : Nat) (x : α) (hx : l[k]? = some x) (h : (l.take k).all p = true) (hp : p x = true) : (l.take (k + 1)).all p = true := by
  rw [List.take_add_one, hx, List.all_append, h]
  simp [hp]
theorem all_not {α : Type} (p : α → Bool) (l : List α) (k : Nat) (x : α) (hx : l[k]? = some x) (hp : p x = false) : l.all p = false := by
  rw [List.all_eq_false]
  exact ⟨x, List.mem_of_getElem? hx, by simp [hp]⟩

end Go.Proofs.YthlemcnbebfliaaGreatDoor
