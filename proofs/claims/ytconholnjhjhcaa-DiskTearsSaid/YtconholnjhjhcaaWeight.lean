/-
  HOW MANY OPERATIONS CAN COME IN.
-/
import Derived.Test.YtconholnjhjhcaaReads
import Derived.SizedLaws
namespace Go.Proofs.Ytconholnjhjhcaa
open Ks Go.RowKit Go.ChangeShapes Go.WideShapes Go.Deep

theorem bytes36 : Try.prog.bytesOf 36 = 64 := by kernel_rfl
theorem ops_weight {H : Type} {enc : TypeId × Value → H} {w : World} {base : Nat} {spare : Nat → Bool} {held : Bool} {fuel : Nat} {A : Option Addr} {len cap : Nat} {d : DataW H} {ps : List MemPlace} (h : DataW.trod enc Try.prog w base spare held fuel 22 [.slice A len cap] = some (d, ps))
    (hs : ∀ elems spare, d = .slice elems spare → (elems.length + spare.length) * 64 ≤ reachBytes) : (len + 1) * 64 ≤ 140737488355328 := by
  rcases open_slice Try.underlying22 h with ⟨hcs, _⟩ | ⟨a, len', cap', m, n, D, Pl, hcs, _, hl, hm, hmm, hx, hi⟩
  · simp at hcs
    omega
  · simp at hcs
    obtain ⟨_, rfl, rfl⟩ := hcs
    injection hx with hx1 hx2
    have := hs _ _ hx1
    simp only [List.length_map, List.length_range, reachBytes] at this
    omega
end Go.Proofs.Ytconholnjhjhcaa
