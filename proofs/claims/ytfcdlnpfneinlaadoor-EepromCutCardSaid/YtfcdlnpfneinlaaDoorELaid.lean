/-
  A TABLE OF ROWS OF INTEGERS (an array of structs), AS A ROW LISTS IT, AND ITS CELLS; here: the table of kinds.
-/
import Derived.Test.YtfcdlnpfneinlaaDoorEGeo
import Derived.Test.YtfcdlnpfneinlaaDoorRows
import Derived.Lib.LaidTab
import Derived.OpenShut
import Derived.Deep.DeepHandedRow
namespace Go.Proofs.YtfcdlnpfneinlaaDoor
open Go.RowKit

theorem slice_one {α : Type} (cs : List α) (a m o : Nat) (v : α) (h : (((cs.drop a).take m).drop o).take 1 = [v]) : cs[a + o]? = some v := by
  have := congrArg (·[0]?) h
  simp only [List.getElem?_take, List.getElem?_drop, List.getElem?_cons_zero] at this
  simp at this
  exact this.2

/-- what an array of structs of integers reads as stands in its cells -/
theorem cell_of_rows {H : Type} {enc : TypeId × Value → H} {P : Program} {w : World} {base : Nat} {sp : Nat → Bool} {held : Bool} {fuel : Nat} {t e F : TypeId} {n m : Nat} {fs : Array Field} {kd : IntKind} {cs : List Value} {rows cols : List (DataW H)} {p : List MemPlace} {f : Field} {i j : Nat} {z : Int}
    (ht : P.underlying t = some (.array n e)) (he : P.underlying e = some (.struct fs)) (hm : P.cellsOf e = m) (hf : fs[j]? = some f) (hF : f.type = F) (hk : P.underlying F = some (.int kd)) (hc : P.cellsOf F = 1)
    (h : DataW.trod enc P w base sp held fuel t cs = some (.agg rows, p)) (hr : rows[i]? = some (.agg cols)) (hz : cols[j]? = some (.lit (.int kd z))) :
    cs[i * m + f.offset]? = some (.int kd z) := by
  obtain ⟨xs, q, rfl, hx, hl, hxl, ha⟩ := DataW.trod_array ht h
  have hrows : rows = xs.map (·.1) := by
    have := congrArg Prod.fst hx
    simpa using this
  subst hrows
  rw [List.getElem?_map, Option.map_eq_some_iff] at hr
  obtain ⟨x, hxi, hx1⟩ := hr
  have hin : i < n := by
    have := (List.getElem?_eq_some_iff.1 hxi).1
    omega
  have hb := ha i hin
  rw [hxi] at hb
  obtain ⟨ys, q', rfl, hy, _, _, hfl⟩ := DataW.trod_struct he hb
  rw [hy] at hx1
  have hcols : cols = ys.map (·.1) := by simpa using hx1.symm
  subst hcols
  rw [List.getElem?_map, Option.map_eq_some_iff] at hz
  obtain ⟨y, hyj, hy1⟩ := hz
  have hg := hfl j f hf
  rw [hyj, hF, hc] at hg
  obtain ⟨z', hcs, rfl, _⟩ := DataW.trod_int hk hg
  have : z' = z := by simpa using hy1
  subst this
  rw [hm] at hcs
  exact slice_one cs (i * m) m f.offset _ hcs

theorem laid_eq {H : Type} : (Rows.laid_keepsake_geo_eeproms : DataW H) = .agg (tab.map fun r => .agg (r.map fun z => .lit (.int .i64 z))) := rfl
theorem g0 : Tryd.prog.globalNamed "keepsake/geo.eeproms" = some 0 := by kernel_rfl
theorem gT : (Tryd.prog.globals[0]?).map (·.type) = some 101 := by kernel_rfl
theorem cE : Tryd.prog.cellsOf 87 = 4 := by kernel_rfl
theorem cI : Tryd.prog.cellsOf 3 = 1 := by kernel_rfl
theorem fields : (Tryd.prog.underlying 87).bind (fun d => match d with | .struct fs => some (fs.toList.map fun f => (f.type, f.offset)) | _ => none) = some [(3, 0), (3, 1), (3, 2), (3, 3)] := by kernel_rfl
theorem tab_row (k j : Nat) (hk : k < 11) (hj : j < 4) : tab[k]? = some (tab.getD k []) ∧ (tab.getD k [])[j]? = some ((tab.getD k []).getD j 0) := by
  have : ∀ k, k < 11 → ∀ j, j < 4 → tab[k]? = some (tab.getD k []) ∧ (tab.getD k [])[j]? = some ((tab.getD k []).getD j 0) := by decide
  exact this k hk j hj
theorem tab_of {W : World} (h : laidMetH Tryd.prog [("keepsake/geo.eeproms", Rows.laid_keepsake_geo_eeproms)] W) : Tab W := by
  obtain ⟨ps, ⟨g', t', cs, fuel, p, q, hg', ht', hvar, hd, _, _⟩, _⟩ := h
  obtain rfl := Option.some.inj (g0.symm.trans hg')
  obtain rfl := Option.some.inj (gT.symm.trans ht')
  intro k j hk hj
  obtain ⟨h1, h2⟩ := tab_row k j hk hj
  obtain ⟨fs, hfs, hfl⟩ : ∃ fs, Tryd.prog.underlying 87 = some (.struct fs) ∧ fs.toList.map (fun f => (f.type, f.offset)) = [(3, 0), (3, 1), (3, 2), (3, 3)] := by
    have := fields
    rw [Option.bind_eq_some_iff] at this
    obtain ⟨d, hd, hm⟩ := this
    split at hm
    · exact ⟨_, hd, Option.some.inj hm⟩
    · cases hm
  obtain ⟨f, hf, hft, hfo⟩ : ∃ f, fs[j]? = some f ∧ f.type = 3 ∧ f.offset = j := by
    have hl := congrArg (·[j]?) hfl
    simp only [List.getElem?_map] at hl
    have e : ∀ j, j < 4 → ([(3, 0), (3, 1), (3, 2), (3, 3)] : List (TypeId × Nat))[j]? = some (3, j) := by decide
    rw [e j hj, Option.map_eq_some_iff] at hl
    obtain ⟨f, hf, hx⟩ := hl
    exact ⟨f, by simpa using hf, congrArg Prod.fst hx, congrArg Prod.snd hx⟩
  rw [laid_eq] at hd
  have := cell_of_rows (i := k) (j := j) (z := (tab.getD k []).getD j 0) Tryd.underlying101 hfs cE hf hft Tryd.underlying3 cI hd (by rw [List.getElem?_map, h1]; rfl) (by rw [List.getElem?_map, h2]; rfl)
  rw [World.var?_cell g0 hvar]
  rw [hfo] at this
  rw [Nat.mul_comm 4 k]
  simpa using this
end Go.Proofs.YtfcdlnpfneinlaaDoor
