/-
  NARROWER THAN 'FOR EVERY INPUT', by the rows' own cells (each row's printed sentence says how): CrcTells: laid · CrcParts: laid · CrcJoins: laid · CrcFar: laid · CrcBursts: laid · CrcXors: laid · CrcBytes: laid.
  DERIVED. THE GIVEN ROWS OF THIS SEAT. 7 by the template 'for every input the law returns true; each argument reads behind the call as it read before'; 0 by the template 'total and deterministic' (their statements: YtdbfmmjncoffnaaDoorTotals.lean).
  GIVEN WITH THE SEED: the statements are not yours to turn. If you find one false, say at which input.
  Laid BY PROGRAM, IN A SANDBOX (cutbox-rows.mjs): the forced cells as the released guide's own fill.sh prints them over the translation 318e91fa28be010c… (all of the seat's roots in one cut). By AI agents, Wed Nov 11 2026. No macro, syntax, notation, axiom, sorry.
-/
import Derived.Test.YtdbfmmjncoffnaaDoorChecked
import GoSem.Claim
import GoSem.ClaimJoined
import GoSem.ClaimMapViews
import Derived.JoinedTies
import Derived.KernelRfl
namespace Go.Proofs.YtdbfmmjncoffnaaDoor
/- THE CELL 'sum', in the pinned program and in every row, IS THE sha256 OF THE DUMP (.gsa) THAT YtdbfmmjncoffnaaDoorProg.lean LOADS. Nothing in Lean hashes anything: it is a label: what it is worth is what the hold of that sum in a sandbox is worth. -/
noncomputable def Tryd.pinned : Pinned := { name := "ytdbfmmjncoffnaadoor", sum := "318e91fa28be010c5d7880e98825ab86007e1bdaaf2ec87fca62359f1d2b2ff2", checked := Tryd.checked }
namespace Rows
def none {H : Type} : Left H := { results := [], args := [] }

/- WHAT THE LISTED PACKAGE-LEVEL VARIABLES READ AS WHEN THE CALL BEGINS. Each datum BY PROGRAM (the guide's laid-datum.mjs) off the statement by which the dump's own 'gosem.cut.vars' lays the variable. In a bare row this is a premise. The card (YtdbfmmjncoffnaaDoorCards.lean) ties it to the program's text. -/
def laid_keepsake_crc_nibbles {H : Type} : DataW H := .agg [.lit (.int .u32 0), .lit (.int .u32 498536548), .lit (.int .u32 997073096), .lit (.int .u32 651767980), .lit (.int .u32 1994146192), .lit (.int .u32 1802195444), .lit (.int .u32 1303535960), .lit (.int .u32 1342533948), .lit (.int .u32 3988292384), .lit (.int .u32 4027552580), .lit (.int .u32 3604390888), .lit (.int .u32 3412177804), .lit (.int .u32 2607071920), .lit (.int .u32 2262029012), .lit (.int .u32 2685067896), .lit (.int .u32 3183342108)]

/-- 'keepsakelaw01.CrcTells': WHATEVER THE INPUT: true; the input reads as it did. -/
def crcTellsSpec : ChangeSpec := { name := "crcTells", fn := fun _ => fun
  | [d] => { results := [.lit (.bool true)], args := [d] }
  | _ => none }
def crcTellsRow : OpenClaim := { program := "ytdbfmmjncoffnaadoor", sum := "318e91fa28be010c5d7880e98825ab86007e1bdaaf2ec87fca62359f1d2b2ff2", func := "keepsake/keepsakelaw01.CrcTells", spec := "crcTells", unfollowed := true, recurses := true, named := ["keepsake/crc.nibbles"], apart := false, laid := [("keepsake/crc.nibbles", laid_keepsake_crc_nibbles)] }
def CrcTellsSaid : Prop := crcTellsRow.holds Tryd.pinned (OpenSpec.ofChange crcTellsSpec)

/-- ITS FALSE NEIGHBOUR: 'it returns false'. Refute it at one input. -/
def crcTellsWrong : ChangeSpec := { name := "crcTells", fn := fun _ => fun
  | [d] => { results := [.lit (.bool false)], args := [d] }
  | _ => none }
def CrcTellsWrongFalsely : Prop := crcTellsRow.holds Tryd.pinned (OpenSpec.ofChange crcTellsWrong)

/-- 'keepsakelaw01.CrcParts': WHATEVER THE INPUT: true; the input reads as it did. -/
def crcPartsSpec : ChangeSpec := { name := "crcParts", fn := fun _ => fun
  | [d1, d2] => { results := [.lit (.bool true)], args := [d1, d2] }
  | _ => none }
def crcPartsRow : OpenClaim := { program := "ytdbfmmjncoffnaadoor", sum := "318e91fa28be010c5d7880e98825ab86007e1bdaaf2ec87fca62359f1d2b2ff2", func := "keepsake/keepsakelaw01.CrcParts", spec := "crcParts", unfollowed := true, recurses := true, named := ["keepsake/crc.nibbles"], apart := false, laid := [("keepsake/crc.nibbles", laid_keepsake_crc_nibbles)] }
def CrcPartsSaid : Prop := crcPartsRow.holds Tryd.pinned (OpenSpec.ofChange crcPartsSpec)

/-- ITS FALSE NEIGHBOUR: 'it returns false'. Refute it at one input. -/
def crcPartsWrong : ChangeSpec := { name := "crcParts", fn := fun _ => fun
  | [d1, d2] => { results := [.lit (.bool false)], args := [d1, d2] }
  | _ => none }
def CrcPartsWrongFalsely : Prop := crcPartsRow.holds Tryd.pinned (OpenSpec.ofChange crcPartsWrong)

/-- 'keepsakelaw01.CrcJoins': WHATEVER THE INPUT: true; the input reads as it did. -/
def crcJoinsSpec : ChangeSpec := { name := "crcJoins", fn := fun _ => fun
  | [d1, d2, d3] => { results := [.lit (.bool true)], args := [d1, d2, d3] }
  | _ => none }
def crcJoinsRow : OpenClaim := { program := "ytdbfmmjncoffnaadoor", sum := "318e91fa28be010c5d7880e98825ab86007e1bdaaf2ec87fca62359f1d2b2ff2", func := "keepsake/keepsakelaw01.CrcJoins", spec := "crcJoins", unfollowed := true, recurses := true, named := ["keepsake/crc.nibbles"], apart := false, laid := [("keepsake/crc.nibbles", laid_keepsake_crc_nibbles)] }
def CrcJoinsSaid : Prop := crcJoinsRow.holds Tryd.pinned (OpenSpec.ofChange crcJoinsSpec)

/-- ITS FALSE NEIGHBOUR: 'it returns false'. Refute it at one input. -/
def crcJoinsWrong : ChangeSpec := { name := "crcJoins", fn := fun _ => fun
  | [d1, d2, d3] => { results := [.lit (.bool false)], args := [d1, d2, d3] }
  | _ => none }
def CrcJoinsWrongFalsely : Prop := crcJoinsRow.holds Tryd.pinned (OpenSpec.ofChange crcJoinsWrong)

/-- 'keepsakelaw01.CrcFar': WHATEVER THE INPUT: true; the input reads as it did. -/
def crcFarSpec : ChangeSpec := { name := "crcFar", fn := fun _ => fun
  | [d1, d2, d3, d4] => { results := [.lit (.bool true)], args := [d1, d2, d3, d4] }
  | _ => none }
def crcFarRow : OpenClaim := { program := "ytdbfmmjncoffnaadoor", sum := "318e91fa28be010c5d7880e98825ab86007e1bdaaf2ec87fca62359f1d2b2ff2", func := "keepsake/keepsakelaw01.CrcFar", spec := "crcFar", unfollowed := true, recurses := true, named := ["keepsake/crc.nibbles"], apart := false, laid := [("keepsake/crc.nibbles", laid_keepsake_crc_nibbles)] }
def CrcFarSaid : Prop := crcFarRow.holds Tryd.pinned (OpenSpec.ofChange crcFarSpec)

/-- ITS FALSE NEIGHBOUR: 'it returns false'. Refute it at one input. -/
def crcFarWrong : ChangeSpec := { name := "crcFar", fn := fun _ => fun
  | [d1, d2, d3, d4] => { results := [.lit (.bool false)], args := [d1, d2, d3, d4] }
  | _ => none }
def CrcFarWrongFalsely : Prop := crcFarRow.holds Tryd.pinned (OpenSpec.ofChange crcFarWrong)

/-- 'keepsakelaw01.CrcBursts': WHATEVER THE INPUT: true; the input reads as it did. -/
def crcBurstsSpec : ChangeSpec := { name := "crcBursts", fn := fun _ => fun
  | [d1, d2, d3] => { results := [.lit (.bool true)], args := [d1, d2, d3] }
  | _ => none }
def crcBurstsRow : OpenClaim := { program := "ytdbfmmjncoffnaadoor", sum := "318e91fa28be010c5d7880e98825ab86007e1bdaaf2ec87fca62359f1d2b2ff2", func := "keepsake/keepsakelaw01.CrcBursts", spec := "crcBursts", unfollowed := true, recurses := true, named := ["keepsake/crc.nibbles"], apart := false, laid := [("keepsake/crc.nibbles", laid_keepsake_crc_nibbles)] }
def CrcBurstsSaid : Prop := crcBurstsRow.holds Tryd.pinned (OpenSpec.ofChange crcBurstsSpec)

/-- ITS FALSE NEIGHBOUR: 'it returns false'. Refute it at one input. -/
def crcBurstsWrong : ChangeSpec := { name := "crcBursts", fn := fun _ => fun
  | [d1, d2, d3] => { results := [.lit (.bool false)], args := [d1, d2, d3] }
  | _ => none }
def CrcBurstsWrongFalsely : Prop := crcBurstsRow.holds Tryd.pinned (OpenSpec.ofChange crcBurstsWrong)

/-- 'keepsakelaw01.CrcXors': WHATEVER THE INPUT: true; the input reads as it did. -/
def crcXorsSpec : ChangeSpec := { name := "crcXors", fn := fun _ => fun
  | [d1, d2, d3] => { results := [.lit (.bool true)], args := [d1, d2, d3] }
  | _ => none }
def crcXorsRow : OpenClaim := { program := "ytdbfmmjncoffnaadoor", sum := "318e91fa28be010c5d7880e98825ab86007e1bdaaf2ec87fca62359f1d2b2ff2", func := "keepsake/keepsakelaw01.CrcXors", spec := "crcXors", unfollowed := true, recurses := true, named := ["keepsake/crc.nibbles"], apart := false, laid := [("keepsake/crc.nibbles", laid_keepsake_crc_nibbles)] }
def CrcXorsSaid : Prop := crcXorsRow.holds Tryd.pinned (OpenSpec.ofChange crcXorsSpec)

/-- ITS FALSE NEIGHBOUR: 'it returns false'. Refute it at one input. -/
def crcXorsWrong : ChangeSpec := { name := "crcXors", fn := fun _ => fun
  | [d1, d2, d3] => { results := [.lit (.bool false)], args := [d1, d2, d3] }
  | _ => none }
def CrcXorsWrongFalsely : Prop := crcXorsRow.holds Tryd.pinned (OpenSpec.ofChange crcXorsWrong)

/-- 'keepsakelaw01.CrcBytes': WHATEVER THE INPUT: true; the input reads as it did. -/
def crcBytesSpec : ChangeSpec := { name := "crcBytes", fn := fun _ => fun
  | [d1, d2, d3] => { results := [.lit (.bool true)], args := [d1, d2, d3] }
  | _ => none }
def crcBytesRow : OpenClaim := { program := "ytdbfmmjncoffnaadoor", sum := "318e91fa28be010c5d7880e98825ab86007e1bdaaf2ec87fca62359f1d2b2ff2", func := "keepsake/keepsakelaw01.CrcBytes", spec := "crcBytes", unfollowed := true, recurses := true, named := ["keepsake/crc.nibbles"], apart := false, laid := [("keepsake/crc.nibbles", laid_keepsake_crc_nibbles)] }
def CrcBytesSaid : Prop := crcBytesRow.holds Tryd.pinned (OpenSpec.ofChange crcBytesSpec)

/-- ITS FALSE NEIGHBOUR: 'it returns false'. Refute it at one input. -/
def crcBytesWrong : ChangeSpec := { name := "crcBytes", fn := fun _ => fun
  | [d1, d2, d3] => { results := [.lit (.bool false)], args := [d1, d2, d3] }
  | _ => none }
def CrcBytesWrongFalsely : Prop := crcBytesRow.holds Tryd.pinned (OpenSpec.ofChange crcBytesWrong)

/- THE SECOND FORM. 'bulk': how many values and letters a reading holds, each counted each time it is reached (what is shared counts as often as it is met; a slice's spare places count too). A statement '..UptoSaid' is the law's where the arguments, and the package variables that the reading takes, are together of bulk at most 1048576: NARROWER than '..Said'. Prove '..Said' where nothing that the law and all that it calls make is longer than what came in: it says more and counts as full. Else prove '..UptoSaid'. A law counts once. -/
mutual
def uptoBulk {H : Type} : DataW H → Nat
  | .lit (.string bytes) => bytes.length + 1
  | .lit _ => 1
  | .nil => 1
  | .ptr d => uptoBulk d + 1
  | .slice elems spare => uptoBulkAll elems + uptoBulkAll spare + 1
  | .agg parts => uptoBulkAll parts + 1
  | .iface _ d => uptoBulk d + 1
  | .map entries => uptoBulkEntries entries + 1
  | .held _ => 1
def uptoBulkAll {H : Type} : List (DataW H) → Nat
  | [] => 0
  | d :: r => uptoBulk d + uptoBulkAll r
def uptoBulkEntries {H : Type} : List (Lit × DataW H) → Nat
  | [] => 0
  | x :: r => uptoBulkEntry x + uptoBulkEntries r
def uptoBulkEntry {H : Type} : Lit × DataW H → Nat
  | (.string bytes, d) => bytes.length + uptoBulk d + 1
  | (_, d) => uptoBulk d + 1
 end
def uptoSmall : (H : Type) → List (DataW H) → Bool := fun _ ds => decide (uptoBulkAll ds ≤ 1048576)
def OpenSpec.upto (s : _root_.Go.ChangeSpec) : _root_.Go.OpenSpec := { _root_.Go.OpenSpec.ofChange s with cond := some uptoSmall }

/-- 'keepsakelaw01.CrcTells', WHERE WHAT IT READS IS OF BULK AT MOST 1048576: true; the input reads as it did. -/
def crcTellsUptoRow : OpenClaim := { program := "ytdbfmmjncoffnaadoor", sum := "318e91fa28be010c5d7880e98825ab86007e1bdaaf2ec87fca62359f1d2b2ff2", func := "keepsake/keepsakelaw01.CrcTells", spec := "crcTells", unfollowed := true, recurses := true, named := ["keepsake/crc.nibbles"], apart := false, laid := [("keepsake/crc.nibbles", laid_keepsake_crc_nibbles)], narrowed := true }
def CrcTellsUptoSaid : Prop := crcTellsUptoRow.holds Tryd.pinned (OpenSpec.upto crcTellsSpec)

/-- 'keepsakelaw01.CrcParts', WHERE WHAT IT READS IS OF BULK AT MOST 1048576: true; the input reads as it did. -/
def crcPartsUptoRow : OpenClaim := { program := "ytdbfmmjncoffnaadoor", sum := "318e91fa28be010c5d7880e98825ab86007e1bdaaf2ec87fca62359f1d2b2ff2", func := "keepsake/keepsakelaw01.CrcParts", spec := "crcParts", unfollowed := true, recurses := true, named := ["keepsake/crc.nibbles"], apart := false, laid := [("keepsake/crc.nibbles", laid_keepsake_crc_nibbles)], narrowed := true }
def CrcPartsUptoSaid : Prop := crcPartsUptoRow.holds Tryd.pinned (OpenSpec.upto crcPartsSpec)

/-- 'keepsakelaw01.CrcJoins', WHERE WHAT IT READS IS OF BULK AT MOST 1048576: true; the input reads as it did. -/
def crcJoinsUptoRow : OpenClaim := { program := "ytdbfmmjncoffnaadoor", sum := "318e91fa28be010c5d7880e98825ab86007e1bdaaf2ec87fca62359f1d2b2ff2", func := "keepsake/keepsakelaw01.CrcJoins", spec := "crcJoins", unfollowed := true, recurses := true, named := ["keepsake/crc.nibbles"], apart := false, laid := [("keepsake/crc.nibbles", laid_keepsake_crc_nibbles)], narrowed := true }
def CrcJoinsUptoSaid : Prop := crcJoinsUptoRow.holds Tryd.pinned (OpenSpec.upto crcJoinsSpec)

/-- 'keepsakelaw01.CrcFar', WHERE WHAT IT READS IS OF BULK AT MOST 1048576: true; the input reads as it did. -/
def crcFarUptoRow : OpenClaim := { program := "ytdbfmmjncoffnaadoor", sum := "318e91fa28be010c5d7880e98825ab86007e1bdaaf2ec87fca62359f1d2b2ff2", func := "keepsake/keepsakelaw01.CrcFar", spec := "crcFar", unfollowed := true, recurses := true, named := ["keepsake/crc.nibbles"], apart := false, laid := [("keepsake/crc.nibbles", laid_keepsake_crc_nibbles)], narrowed := true }
def CrcFarUptoSaid : Prop := crcFarUptoRow.holds Tryd.pinned (OpenSpec.upto crcFarSpec)

/-- 'keepsakelaw01.CrcBursts', WHERE WHAT IT READS IS OF BULK AT MOST 1048576: true; the input reads as it did. -/
def crcBurstsUptoRow : OpenClaim := { program := "ytdbfmmjncoffnaadoor", sum := "318e91fa28be010c5d7880e98825ab86007e1bdaaf2ec87fca62359f1d2b2ff2", func := "keepsake/keepsakelaw01.CrcBursts", spec := "crcBursts", unfollowed := true, recurses := true, named := ["keepsake/crc.nibbles"], apart := false, laid := [("keepsake/crc.nibbles", laid_keepsake_crc_nibbles)], narrowed := true }
def CrcBurstsUptoSaid : Prop := crcBurstsUptoRow.holds Tryd.pinned (OpenSpec.upto crcBurstsSpec)

/-- 'keepsakelaw01.CrcXors', WHERE WHAT IT READS IS OF BULK AT MOST 1048576: true; the input reads as it did. -/
def crcXorsUptoRow : OpenClaim := { program := "ytdbfmmjncoffnaadoor", sum := "318e91fa28be010c5d7880e98825ab86007e1bdaaf2ec87fca62359f1d2b2ff2", func := "keepsake/keepsakelaw01.CrcXors", spec := "crcXors", unfollowed := true, recurses := true, named := ["keepsake/crc.nibbles"], apart := false, laid := [("keepsake/crc.nibbles", laid_keepsake_crc_nibbles)], narrowed := true }
def CrcXorsUptoSaid : Prop := crcXorsUptoRow.holds Tryd.pinned (OpenSpec.upto crcXorsSpec)

/-- 'keepsakelaw01.CrcBytes', WHERE WHAT IT READS IS OF BULK AT MOST 1048576: true; the input reads as it did. -/
def crcBytesUptoRow : OpenClaim := { program := "ytdbfmmjncoffnaadoor", sum := "318e91fa28be010c5d7880e98825ab86007e1bdaaf2ec87fca62359f1d2b2ff2", func := "keepsake/keepsakelaw01.CrcBytes", spec := "crcBytes", unfollowed := true, recurses := true, named := ["keepsake/crc.nibbles"], apart := false, laid := [("keepsake/crc.nibbles", laid_keepsake_crc_nibbles)], narrowed := true }
def CrcBytesUptoSaid : Prop := crcBytesUptoRow.holds Tryd.pinned (OpenSpec.upto crcBytesSpec)

end Rows
end Go.Proofs.YtdbfmmjncoffnaaDoor
