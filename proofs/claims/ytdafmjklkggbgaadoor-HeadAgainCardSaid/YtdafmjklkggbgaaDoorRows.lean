/-
  NARROWER THAN 'FOR EVERY INPUT', by the rows' own cells (each row's printed sentence says how): HeadTells: laid · HeadReads: laid · HeadBack: laid · HeadBursts: laid · HeadAgain: laid · HeadNumbers: laid.
  DERIVED. THE GIVEN ROWS OF THIS SEAT. 6 by the template 'for every input the law returns true; each argument reads behind the call as it read before'; 0 by the template 'total and deterministic' (their statements: YtdafmjklkggbgaaDoorTotals.lean).
  GIVEN WITH THE SEED: the statements are not yours to turn. If you find one false, say at which input.
  Laid BY PROGRAM, IN A SANDBOX (cutbox-rows.mjs): the forced cells as the released guide's own fill.sh prints them over the translation 01f24a2690762c94… (all of the seat's roots in one cut). By AI agents, Wed Nov 11 2026. No macro, syntax, notation, axiom, sorry.
-/
import Derived.Test.YtdafmjklkggbgaaDoorChecked
import GoSem.Claim
import GoSem.ClaimJoined
import GoSem.ClaimMapViews
import Derived.JoinedTies
import Derived.KernelRfl
namespace Go.Proofs.YtdafmjklkggbgaaDoor
/- THE CELL 'sum', in the pinned program and in every row, IS THE sha256 OF THE DUMP (.gsa) THAT YtdafmjklkggbgaaDoorProg.lean LOADS. Nothing in Lean hashes anything: it is a label: what it is worth is what the hold of that sum in a sandbox is worth. -/
noncomputable def Tryd.pinned : Pinned := { name := "ytdafmjklkggbgaadoor", sum := "01f24a2690762c947f63e6c91b0fe852261c4fcc2704e9894738c5142b2b7ed6", checked := Tryd.checked }
namespace Rows
def none {H : Type} : Left H := { results := [], args := [] }

/- WHAT THE LISTED PACKAGE-LEVEL VARIABLES READ AS WHEN THE CALL BEGINS. Each datum BY PROGRAM (the guide's laid-datum.mjs) off the statement by which the dump's own 'gosem.cut.vars' lays the variable. In a bare row this is a premise. The card (YtdafmjklkggbgaaDoorCards.lean) ties it to the program's text. -/
def laid_keepsake_crc_nibbles {H : Type} : DataW H := .agg [.lit (.int .u32 0), .lit (.int .u32 498536548), .lit (.int .u32 997073096), .lit (.int .u32 651767980), .lit (.int .u32 1994146192), .lit (.int .u32 1802195444), .lit (.int .u32 1303535960), .lit (.int .u32 1342533948), .lit (.int .u32 3988292384), .lit (.int .u32 4027552580), .lit (.int .u32 3604390888), .lit (.int .u32 3412177804), .lit (.int .u32 2607071920), .lit (.int .u32 2262029012), .lit (.int .u32 2685067896), .lit (.int .u32 3183342108)]
def laid_keepsake_geo_eeproms {H : Type} : DataW H := .agg [.agg [.lit (.int .i64 0), .lit (.int .i64 0), .lit (.int .i64 0), .lit (.int .i64 0)], .agg [.lit (.int .i64 128), .lit (.int .i64 8), .lit (.int .i64 1), .lit (.int .i64 0)], .agg [.lit (.int .i64 256), .lit (.int .i64 8), .lit (.int .i64 1), .lit (.int .i64 0)], .agg [.lit (.int .i64 512), .lit (.int .i64 16), .lit (.int .i64 1), .lit (.int .i64 1)], .agg [.lit (.int .i64 1024), .lit (.int .i64 16), .lit (.int .i64 1), .lit (.int .i64 2)], .agg [.lit (.int .i64 2048), .lit (.int .i64 16), .lit (.int .i64 1), .lit (.int .i64 3)], .agg [.lit (.int .i64 4096), .lit (.int .i64 32), .lit (.int .i64 2), .lit (.int .i64 0)], .agg [.lit (.int .i64 8192), .lit (.int .i64 32), .lit (.int .i64 2), .lit (.int .i64 0)], .agg [.lit (.int .i64 16384), .lit (.int .i64 64), .lit (.int .i64 2), .lit (.int .i64 0)], .agg [.lit (.int .i64 32768), .lit (.int .i64 64), .lit (.int .i64 2), .lit (.int .i64 0)], .agg [.lit (.int .i64 65536), .lit (.int .i64 128), .lit (.int .i64 2), .lit (.int .i64 0)]]

/-- 'keepsakelaw04.HeadTells': WHATEVER THE INPUT: true; the input reads as it did. -/
def headTellsSpec : ChangeSpec := { name := "headTells", fn := fun _ => fun
  | [d] => { results := [.lit (.bool true)], args := [d] }
  | _ => none }
def headTellsRow : OpenClaim := { program := "ytdafmjklkggbgaadoor", sum := "01f24a2690762c947f63e6c91b0fe852261c4fcc2704e9894738c5142b2b7ed6", func := "keepsake/keepsakelaw04.HeadTells", spec := "headTells", named := ["keepsake/geo.eeproms", "keepsake/crc.nibbles"], apart := false, laid := [("keepsake/crc.nibbles", laid_keepsake_crc_nibbles), ("keepsake/geo.eeproms", laid_keepsake_geo_eeproms)] }
def HeadTellsSaid : Prop := headTellsRow.holds Tryd.pinned (OpenSpec.ofChange headTellsSpec)

/-- ITS FALSE NEIGHBOUR: 'it returns false'. Refute it at one input. -/
def headTellsWrong : ChangeSpec := { name := "headTells", fn := fun _ => fun
  | [d] => { results := [.lit (.bool false)], args := [d] }
  | _ => none }
def HeadTellsWrongFalsely : Prop := headTellsRow.holds Tryd.pinned (OpenSpec.ofChange headTellsWrong)

/-- 'keepsakelaw04.HeadReads': WHATEVER THE INPUT: true; the input reads as it did. -/
def headReadsSpec : ChangeSpec := { name := "headReads", fn := fun _ => fun
  | [d] => { results := [.lit (.bool true)], args := [d] }
  | _ => none }
def headReadsRow : OpenClaim := { program := "ytdafmjklkggbgaadoor", sum := "01f24a2690762c947f63e6c91b0fe852261c4fcc2704e9894738c5142b2b7ed6", func := "keepsake/keepsakelaw04.HeadReads", spec := "headReads", named := ["keepsake/geo.eeproms", "keepsake/crc.nibbles"], apart := false, laid := [("keepsake/crc.nibbles", laid_keepsake_crc_nibbles), ("keepsake/geo.eeproms", laid_keepsake_geo_eeproms)] }
def HeadReadsSaid : Prop := headReadsRow.holds Tryd.pinned (OpenSpec.ofChange headReadsSpec)

/-- ITS FALSE NEIGHBOUR: 'it returns false'. Refute it at one input. -/
def headReadsWrong : ChangeSpec := { name := "headReads", fn := fun _ => fun
  | [d] => { results := [.lit (.bool false)], args := [d] }
  | _ => none }
def HeadReadsWrongFalsely : Prop := headReadsRow.holds Tryd.pinned (OpenSpec.ofChange headReadsWrong)

/-- 'keepsakelaw04.HeadBack': WHATEVER THE INPUT: true; the input reads as it did. -/
def headBackSpec : ChangeSpec := { name := "headBack", fn := fun _ => fun
  | [d1, d2, d3, d4, d5, d6] => { results := [.lit (.bool true)], args := [d1, d2, d3, d4, d5, d6] }
  | _ => none }
def headBackRow : OpenClaim := { program := "ytdafmjklkggbgaadoor", sum := "01f24a2690762c947f63e6c91b0fe852261c4fcc2704e9894738c5142b2b7ed6", func := "keepsake/keepsakelaw04.HeadBack", spec := "headBack", named := ["keepsake/geo.eeproms", "keepsake/crc.nibbles"], apart := false, laid := [("keepsake/crc.nibbles", laid_keepsake_crc_nibbles), ("keepsake/geo.eeproms", laid_keepsake_geo_eeproms)] }
def HeadBackSaid : Prop := headBackRow.holds Tryd.pinned (OpenSpec.ofChange headBackSpec)

/-- ITS FALSE NEIGHBOUR: 'it returns false'. Refute it at one input. -/
def headBackWrong : ChangeSpec := { name := "headBack", fn := fun _ => fun
  | [d1, d2, d3, d4, d5, d6] => { results := [.lit (.bool false)], args := [d1, d2, d3, d4, d5, d6] }
  | _ => none }
def HeadBackWrongFalsely : Prop := headBackRow.holds Tryd.pinned (OpenSpec.ofChange headBackWrong)

/-- 'keepsakelaw04.HeadBursts': WHATEVER THE INPUT: true; the input reads as it did. -/
def headBurstsSpec : ChangeSpec := { name := "headBursts", fn := fun _ => fun
  | [d1, d2, d3, d4, d5, d6, d7] => { results := [.lit (.bool true)], args := [d1, d2, d3, d4, d5, d6, d7] }
  | _ => none }
def headBurstsRow : OpenClaim := { program := "ytdafmjklkggbgaadoor", sum := "01f24a2690762c947f63e6c91b0fe852261c4fcc2704e9894738c5142b2b7ed6", func := "keepsake/keepsakelaw04.HeadBursts", spec := "headBursts", named := ["keepsake/geo.eeproms", "keepsake/crc.nibbles"], apart := false, laid := [("keepsake/crc.nibbles", laid_keepsake_crc_nibbles), ("keepsake/geo.eeproms", laid_keepsake_geo_eeproms)] }
def HeadBurstsSaid : Prop := headBurstsRow.holds Tryd.pinned (OpenSpec.ofChange headBurstsSpec)

/-- ITS FALSE NEIGHBOUR: 'it returns false'. Refute it at one input. -/
def headBurstsWrong : ChangeSpec := { name := "headBursts", fn := fun _ => fun
  | [d1, d2, d3, d4, d5, d6, d7] => { results := [.lit (.bool false)], args := [d1, d2, d3, d4, d5, d6, d7] }
  | _ => none }
def HeadBurstsWrongFalsely : Prop := headBurstsRow.holds Tryd.pinned (OpenSpec.ofChange headBurstsWrong)

/-- 'keepsakelaw04.HeadAgain': WHATEVER THE INPUT: true; the input reads as it did. -/
def headAgainSpec : ChangeSpec := { name := "headAgain", fn := fun _ => fun
  | [d1, d2] => { results := [.lit (.bool true)], args := [d1, d2] }
  | _ => none }
def headAgainRow : OpenClaim := { program := "ytdafmjklkggbgaadoor", sum := "01f24a2690762c947f63e6c91b0fe852261c4fcc2704e9894738c5142b2b7ed6", func := "keepsake/keepsakelaw04.HeadAgain", spec := "headAgain", named := ["keepsake/geo.eeproms", "keepsake/crc.nibbles"], apart := false, laid := [("keepsake/crc.nibbles", laid_keepsake_crc_nibbles), ("keepsake/geo.eeproms", laid_keepsake_geo_eeproms)] }
def HeadAgainSaid : Prop := headAgainRow.holds Tryd.pinned (OpenSpec.ofChange headAgainSpec)

/-- ITS FALSE NEIGHBOUR: 'it returns false'. Refute it at one input. -/
def headAgainWrong : ChangeSpec := { name := "headAgain", fn := fun _ => fun
  | [d1, d2] => { results := [.lit (.bool false)], args := [d1, d2] }
  | _ => none }
def HeadAgainWrongFalsely : Prop := headAgainRow.holds Tryd.pinned (OpenSpec.ofChange headAgainWrong)

/-- 'keepsakelaw04.HeadNumbers': WHATEVER THE INPUT: true; the input reads as it did. -/
def headNumbersSpec : ChangeSpec := { name := "headNumbers", fn := fun _ => fun
  | [d1, d2] => { results := [.lit (.bool true)], args := [d1, d2] }
  | _ => none }
def headNumbersRow : OpenClaim := { program := "ytdafmjklkggbgaadoor", sum := "01f24a2690762c947f63e6c91b0fe852261c4fcc2704e9894738c5142b2b7ed6", func := "keepsake/keepsakelaw04.HeadNumbers", spec := "headNumbers", named := ["keepsake/geo.eeproms", "keepsake/crc.nibbles"], apart := false, laid := [("keepsake/crc.nibbles", laid_keepsake_crc_nibbles), ("keepsake/geo.eeproms", laid_keepsake_geo_eeproms)] }
def HeadNumbersSaid : Prop := headNumbersRow.holds Tryd.pinned (OpenSpec.ofChange headNumbersSpec)

/-- ITS FALSE NEIGHBOUR: 'it returns false'. Refute it at one input. -/
def headNumbersWrong : ChangeSpec := { name := "headNumbers", fn := fun _ => fun
  | [d1, d2] => { results := [.lit (.bool false)], args := [d1, d2] }
  | _ => none }
def HeadNumbersWrongFalsely : Prop := headNumbersRow.holds Tryd.pinned (OpenSpec.ofChange headNumbersWrong)

/- THE SECOND FORM. 'bulk': how many values and letters a reading holds, each counted each time it is reached (what is shared counts as often as it is met; a slice's spare places count too). A statement '..UptoSaid' is the law's where the arguments, and the package variables that the reading takes, are together of bulk at most 1048576: NARROWER than '..Said'. Prove '..Said' where nothing that the law and all that it calls make is longer than what came in: it says more and counts as full. Else prove '..UptoSaid'. A law counts once. -/
mutual
def uptoBulk {H : Type} : DataW H → Nat
  | .lit (.string bytes) => bytes.length + 1
  | .lit _ => 1
  | .nil => 1
  | .ptr d => uptoBulk d + 1
  | .slice elems spare => uptoBulkAll elems + uptoBulkAll spare + 1
  | .agg parts => uptoBulkAll parts + 1
  | .iface _ d => uptoBulk d + 1
  | .map entries => uptoBulkEntries entries + 1
  | .held _ => 1
def uptoBulkAll {H : Type} : List (DataW H) → Nat
  | [] => 0
  | d :: r => uptoBulk d + uptoBulkAll r
def uptoBulkEntries {H : Type} : List (Lit × DataW H) → Nat
  | [] => 0
  | x :: r => uptoBulkEntry x + uptoBulkEntries r
def uptoBulkEntry {H : Type} : Lit × DataW H → Nat
  | (.string bytes, d) => bytes.length + uptoBulk d + 1
  | (_, d) => uptoBulk d + 1
 end
def uptoSmall : (H : Type) → List (DataW H) → Bool := fun _ ds => decide (uptoBulkAll ds ≤ 1048576)
def OpenSpec.upto (s : _root_.Go.ChangeSpec) : _root_.Go.OpenSpec := { _root_.Go.OpenSpec.ofChange s with cond := some uptoSmall }

/-- 'keepsakelaw04.HeadTells', WHERE WHAT IT READS IS OF BULK AT MOST 1048576: true; the input reads as it did. -/
def headTellsUptoRow : OpenClaim := { program := "ytdafmjklkggbgaadoor", sum := "01f24a2690762c947f63e6c91b0fe852261c4fcc2704e9894738c5142b2b7ed6", func := "keepsake/keepsakelaw04.HeadTells", spec := "headTells", named := ["keepsake/geo.eeproms", "keepsake/crc.nibbles"], apart := false, laid := [("keepsake/crc.nibbles", laid_keepsake_crc_nibbles), ("keepsake/geo.eeproms", laid_keepsake_geo_eeproms)], narrowed := true }
def HeadTellsUptoSaid : Prop := headTellsUptoRow.holds Tryd.pinned (OpenSpec.upto headTellsSpec)

/-- 'keepsakelaw04.HeadReads', WHERE WHAT IT READS IS OF BULK AT MOST 1048576: true; the input reads as it did. -/
def headReadsUptoRow : OpenClaim := { program := "ytdafmjklkggbgaadoor", sum := "01f24a2690762c947f63e6c91b0fe852261c4fcc2704e9894738c5142b2b7ed6", func := "keepsake/keepsakelaw04.HeadReads", spec := "headReads", named := ["keepsake/geo.eeproms", "keepsake/crc.nibbles"], apart := false, laid := [("keepsake/crc.nibbles", laid_keepsake_crc_nibbles), ("keepsake/geo.eeproms", laid_keepsake_geo_eeproms)], narrowed := true }
def HeadReadsUptoSaid : Prop := headReadsUptoRow.holds Tryd.pinned (OpenSpec.upto headReadsSpec)

/-- 'keepsakelaw04.HeadBack', WHERE WHAT IT READS IS OF BULK AT MOST 1048576: true; the input reads as it did. -/
def headBackUptoRow : OpenClaim := { program := "ytdafmjklkggbgaadoor", sum := "01f24a2690762c947f63e6c91b0fe852261c4fcc2704e9894738c5142b2b7ed6", func := "keepsake/keepsakelaw04.HeadBack", spec := "headBack", named := ["keepsake/geo.eeproms", "keepsake/crc.nibbles"], apart := false, laid := [("keepsake/crc.nibbles", laid_keepsake_crc_nibbles), ("keepsake/geo.eeproms", laid_keepsake_geo_eeproms)], narrowed := true }
def HeadBackUptoSaid : Prop := headBackUptoRow.holds Tryd.pinned (OpenSpec.upto headBackSpec)

/-- 'keepsakelaw04.HeadBursts', WHERE WHAT IT READS IS OF BULK AT MOST 1048576: true; the input reads as it did. -/
def headBurstsUptoRow : OpenClaim := { program := "ytdafmjklkggbgaadoor", sum := "01f24a2690762c947f63e6c91b0fe852261c4fcc2704e9894738c5142b2b7ed6", func := "keepsake/keepsakelaw04.HeadBursts", spec := "headBursts", named := ["keepsake/geo.eeproms", "keepsake/crc.nibbles"], apart := false, laid := [("keepsake/crc.nibbles", laid_keepsake_crc_nibbles), ("keepsake/geo.eeproms", laid_keepsake_geo_eeproms)], narrowed := true }
def HeadBurstsUptoSaid : Prop := headBurstsUptoRow.holds Tryd.pinned (OpenSpec.upto headBurstsSpec)

/-- 'keepsakelaw04.HeadAgain', WHERE WHAT IT READS IS OF BULK AT MOST 1048576: true; the input reads as it did. -/
def headAgainUptoRow : OpenClaim := { program := "ytdafmjklkggbgaadoor", sum := "01f24a2690762c947f63e6c91b0fe852261c4fcc2704e9894738c5142b2b7ed6", func := "keepsake/keepsakelaw04.HeadAgain", spec := "headAgain", named := ["keepsake/geo.eeproms", "keepsake/crc.nibbles"], apart := false, laid := [("keepsake/crc.nibbles", laid_keepsake_crc_nibbles), ("keepsake/geo.eeproms", laid_keepsake_geo_eeproms)], narrowed := true }
def HeadAgainUptoSaid : Prop := headAgainUptoRow.holds Tryd.pinned (OpenSpec.upto headAgainSpec)

/-- 'keepsakelaw04.HeadNumbers', WHERE WHAT IT READS IS OF BULK AT MOST 1048576: true; the input reads as it did. -/
def headNumbersUptoRow : OpenClaim := { program := "ytdafmjklkggbgaadoor", sum := "01f24a2690762c947f63e6c91b0fe852261c4fcc2704e9894738c5142b2b7ed6", func := "keepsake/keepsakelaw04.HeadNumbers", spec := "headNumbers", named := ["keepsake/geo.eeproms", "keepsake/crc.nibbles"], apart := false, laid := [("keepsake/crc.nibbles", laid_keepsake_crc_nibbles), ("keepsake/geo.eeproms", laid_keepsake_geo_eeproms)], narrowed := true }
def HeadNumbersUptoSaid : Prop := headNumbersUptoRow.holds Tryd.pinned (OpenSpec.upto headNumbersSpec)

end Rows
end Go.Proofs.YtdafmjklkggbgaaDoor
