/-
  THE WALK OF bytes.Clone; the types of slices of bytes and of ints.
-/
import Derived.Test.YtilaldojbgbegaaBMem
namespace Go.Proofs.Ytilaldojbgbegaa
open Go.RowKit
set_option maxRecDepth 20000

theorem elemI : Elem .i64 24 3 8 := ⟨Try.underlying24, by kernel_rfl, by decide⟩

end Go.Proofs.Ytilaldojbgbegaa
