/-
  SlotSpans' walk, in the card's words.
-/
import Derived.Test.YtpbhkkcboppdmaaDoorSSpans
namespace Go.Proofs.YtpbhkkcboppdmaaDoor
open Ks Go.RowKit
theorem slotSpans_law (size : Int) (_h : (Lit.int .i64 size).wf = true) (a : Int) (_ha : (Lit.int .i64 a).wf = true) (b : Int) (_hb : (Lit.int .i64 b).wf = true) (c : Int) (_hc : (Lit.int .i64 c).wf = true) (w : World) (hT : Tab w) : Calls Tryd.prog 3 #[.int .i64 size, geoV a b c] w fun e w' => e = .returned (.bool true) ∧ Below w.heap.size w w' :=
  slotSpans_walk w size a b c hT
end Go.Proofs.YtpbhkkcboppdmaaDoor
