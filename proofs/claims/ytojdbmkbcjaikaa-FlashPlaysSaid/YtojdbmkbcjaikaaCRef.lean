/-
  THE WALKS OF keepsakeref08's Apart, Cells, Range; of the law's in.
-/
import Derived.Test.YtojdbmkbcjaikaaCApart
namespace Go.Proofs.Ytojdbmkbcjaikaa
open Go.RowKit
set_option maxRecDepth 20000

end Go.Proofs.Ytojdbmkbcjaikaa
