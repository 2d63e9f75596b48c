/-
  A FIELD OF A STRUCT THAT CAME IN BY VALUE: an integer, a bool.
-/
import Derived.OpenShut
import Derived.ChangeArms
namespace Go.Proofs.YthlemcnbebfliaaGreatDoor.Shape
open Go

theorem one {α : Type} (cs : List α) (o : Nat) (v : α) (h : (cs.drop o).take 1 = [v]) : cs[o]? = some v := by
  have := congrArg (·[0]?) h
  simpa [List.getElem?_take, List.getElem?_drop] using this

theorem there {α β : Type} {ys : List α} {fs : Array β} {i : Nat} {f : β} (hl : ys.length = fs.size) (hf : fs[i]? = some f) : ∃ y, ys[i]? = some y := by
  have hi : i < fs.size := by
    cases Nat.lt_or_ge i fs.size with
    | inl h => exact h
    | inr h => rw [Array.getElem?_eq_none h] at hf; cases hf
  exact ⟨_, List.getElem?_eq_getElem (by omega)⟩

theorem int_at {H : Type} {enc : TypeId × Value → H} {P : Program} {w : World} {base : Nat} {sp : Nat → Bool} {held : Bool} {fuel : Nat} {t F : TypeId} {fs : Array Field} {f : Field} {k : IntKind} {cs : List Value} {x : DataW H × List MemPlace} (i : Nat)
    (ht : P.underlying t = some (.struct fs)) (hf : fs[i]? = some f) (hF : f.type = F) (hc : P.cellsOf F = 1) (hu : P.underlying F = some (.int k)) (h : DataW.trod enc P w base sp held fuel t cs = some x) :
    ∃ z, cs[f.offset]? = some (.int k z) ∧ (Lit.int k z).wf = true := by
  obtain ⟨ys, m, rfl, _, _, hl, hfl⟩ := DataW.trod_struct ht h
  have hg := hfl i f hf
  rw [hF, hc] at hg
  obtain ⟨y, hy⟩ := there hl hf
  rw [hy] at hg
  obtain ⟨z, hcs, _, hwf⟩ := DataW.trod_int hu hg
  exact ⟨z, one cs _ _ hcs, hwf⟩

theorem bool_at {H : Type} {enc : TypeId × Value → H} {P : Program} {w : World} {base : Nat} {sp : Nat → Bool} {held : Bool} {fuel : Nat} {t F : TypeId} {fs : Array Field} {f : Field} {cs : List Value} {x : DataW H × List MemPlace} (i : Nat)
    (ht : P.underlying t = some (.struct fs)) (hf : fs[i]? = some f) (hF : f.type = F) (hc : P.cellsOf F = 1) (hu : P.underlying F = some .bool) (h : DataW.trod enc P w base sp held fuel t cs = some x) :
    ∃ z, cs[f.offset]? = some (.bool z) := by
  obtain ⟨ys, m, rfl, _, _, hl, hfl⟩ := DataW.trod_struct ht h
  have hg := hfl i f hf
  rw [hF, hc] at hg
  obtain ⟨y, hy⟩ := there hl hf
  rw [hy] at hg
  obtain ⟨z, hcs, _⟩ := DataW.trod_bool hu hg
  exact ⟨z, one cs _ _ hcs⟩

/-- an integer of a struct that is a field of a struct that came in by value -/
theorem int_in {H : Type} {enc : TypeId × Value → H} {P : Program} {w : World} {base : Nat} {sp : Nat → Bool} {held : Bool} {fuel : Nat} {t F G : TypeId} {fs gs : Array Field} {f g : Field} {k : IntKind} {cs : List Value} {x : DataW H × List MemPlace} (i j : Nat)
    (ht : P.underlying t = some (.struct fs)) (hf : fs[i]? = some f) (hF : f.type = F) (hF2 : P.underlying F = some (.struct gs)) (hg : gs[j]? = some g) (hG : g.type = G) (hc : P.cellsOf G = 1) (hu : P.underlying G = some (.int k)) (h : DataW.trod enc P w base sp held fuel t cs = some x) :
    ∃ z, cs[f.offset + g.offset]? = some (.int k z) ∧ (Lit.int k z).wf = true := by
  obtain ⟨ys, m, rfl, _, _, hl, hfl⟩ := DataW.trod_struct ht h
  have hh := hfl i f hf
  rw [hF] at hh
  obtain ⟨y, hy⟩ := there hl hf
  rw [hy] at hh
  obtain ⟨z, hz, hwf⟩ := int_at j hF2 hg hG hc hu hh
  refine ⟨z, ?_, hwf⟩
  rw [List.getElem?_take] at hz
  split at hz
  · rwa [List.getElem?_drop] at hz
  · cases hz
end Go.Proofs.YthlemcnbebfliaaGreatDoor.Shape
