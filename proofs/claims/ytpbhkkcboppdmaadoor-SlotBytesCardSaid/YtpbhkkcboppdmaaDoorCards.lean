/-
  DERIVED. GIVEN WITH THE SEED: THE CARDS: each row of YtpbhkkcboppdmaaDoorRows.lean that lists a variable, with what it lists TIED to the program's text (the seventh form; the later family's looks); each row that meets fmt, with fmt's text TOLD by the authors' own Lean function (tested against real Go, not proved from fmt's source: count such statements apart). THE CARD IS WHAT COUNTS. Prove the row's statement (the work); the ties are given (YtpbhkkcboppdmaaDoorTie.lean); close each card by the builder's one call (the guide's Derived/Test/ToyasCard.lean, 'card_holds'). Laid BY PROGRAM, IN A SANDBOX (cutbox-door.mjs). By AI agents, Wed Nov 11 2026. No macro, syntax, notation, axiom, sorry.
-/
import Derived.Test.YtpbhkkcboppdmaaDoorRows
import GoSem.ClaimSeven
namespace Go.Proofs.YtpbhkkcboppdmaaDoor
namespace Rows

/-- THE TIED CARD OF 'keepsakelaw06.SlotSpans'. -/
def slotSpansCard : Claim7 := { stood := { row := slotSpansRow, standIns := [], harness := (true, "520ad22d173a5e6d872b76bbe7b9f837059f0088b37604464532ed70ad9d972f"), looks := false }, kinds := [], alts := [], laidByText := true, laidKinds := [.data, .data], laidTests := true, laidLooks := .later }
def SlotSpansCardSaid : Prop := Claim7.holds Tryd.pinned (.plain (OpenSpec.ofChange slotSpansSpec)) slotSpansCard

/-- THE TIED CARD OF 'keepsakelaw06.SlotBytes'. -/
def slotBytesCard : Claim7 := { stood := { row := slotBytesRow, standIns := [], harness := (true, "520ad22d173a5e6d872b76bbe7b9f837059f0088b37604464532ed70ad9d972f"), looks := false }, kinds := [], alts := [], laidByText := true, laidKinds := [.data, .data], laidTests := true, laidLooks := .later }
def SlotBytesCardSaid : Prop := Claim7.holds Tryd.pinned (.plain (OpenSpec.ofChange slotBytesSpec)) slotBytesCard

/-- THE TIED CARD OF 'keepsakelaw06.SlotBack'. -/
def slotBackCard : Claim7 := { stood := { row := slotBackRow, standIns := [], harness := (true, "520ad22d173a5e6d872b76bbe7b9f837059f0088b37604464532ed70ad9d972f"), looks := false }, kinds := [], alts := [], laidByText := true, laidKinds := [.data, .data], laidTests := true, laidLooks := .later }
def SlotBackCardSaid : Prop := Claim7.holds Tryd.pinned (.plain (OpenSpec.ofChange slotBackSpec)) slotBackCard

/-- THE TIED CARD OF 'keepsakelaw06.SlotApart'. -/
def slotApartCard : Claim7 := { stood := { row := slotApartRow, standIns := [], harness := (true, "520ad22d173a5e6d872b76bbe7b9f837059f0088b37604464532ed70ad9d972f"), looks := false }, kinds := [], alts := [], laidByText := true, laidKinds := [.data, .data], laidTests := true, laidLooks := .later }
def SlotApartCardSaid : Prop := Claim7.holds Tryd.pinned (.plain (OpenSpec.ofChange slotApartSpec)) slotApartCard

/-- THE TIED CARD OF 'keepsakelaw06.SlotStranger'. -/
def slotStrangerCard : Claim7 := { stood := { row := slotStrangerRow, standIns := [], harness := (true, "520ad22d173a5e6d872b76bbe7b9f837059f0088b37604464532ed70ad9d972f"), looks := false }, kinds := [], alts := [], laidByText := true, laidKinds := [.data, .data], laidTests := true, laidLooks := .later }
def SlotStrangerCardSaid : Prop := Claim7.holds Tryd.pinned (.plain (OpenSpec.ofChange slotStrangerSpec)) slotStrangerCard

/-- THE SECOND FORM's CARD OF 'keepsakelaw06.SlotSpans'. -/
def slotSpansUptoCard : Claim7 := { stood := { row := slotSpansUptoRow, standIns := [], harness := (true, "520ad22d173a5e6d872b76bbe7b9f837059f0088b37604464532ed70ad9d972f"), looks := false }, kinds := [], alts := [], laidByText := true, laidKinds := [.data, .data], laidTests := true, laidLooks := .later }
def SlotSpansUptoCardSaid : Prop := Claim7.holds Tryd.pinned (.plain (OpenSpec.upto slotSpansSpec)) slotSpansUptoCard

/-- THE SECOND FORM's CARD OF 'keepsakelaw06.SlotBytes'. -/
def slotBytesUptoCard : Claim7 := { stood := { row := slotBytesUptoRow, standIns := [], harness := (true, "520ad22d173a5e6d872b76bbe7b9f837059f0088b37604464532ed70ad9d972f"), looks := false }, kinds := [], alts := [], laidByText := true, laidKinds := [.data, .data], laidTests := true, laidLooks := .later }
def SlotBytesUptoCardSaid : Prop := Claim7.holds Tryd.pinned (.plain (OpenSpec.upto slotBytesSpec)) slotBytesUptoCard

/-- THE SECOND FORM's CARD OF 'keepsakelaw06.SlotBack'. -/
def slotBackUptoCard : Claim7 := { stood := { row := slotBackUptoRow, standIns := [], harness := (true, "520ad22d173a5e6d872b76bbe7b9f837059f0088b37604464532ed70ad9d972f"), looks := false }, kinds := [], alts := [], laidByText := true, laidKinds := [.data, .data], laidTests := true, laidLooks := .later }
def SlotBackUptoCardSaid : Prop := Claim7.holds Tryd.pinned (.plain (OpenSpec.upto slotBackSpec)) slotBackUptoCard

/-- THE SECOND FORM's CARD OF 'keepsakelaw06.SlotApart'. -/
def slotApartUptoCard : Claim7 := { stood := { row := slotApartUptoRow, standIns := [], harness := (true, "520ad22d173a5e6d872b76bbe7b9f837059f0088b37604464532ed70ad9d972f"), looks := false }, kinds := [], alts := [], laidByText := true, laidKinds := [.data, .data], laidTests := true, laidLooks := .later }
def SlotApartUptoCardSaid : Prop := Claim7.holds Tryd.pinned (.plain (OpenSpec.upto slotApartSpec)) slotApartUptoCard

/-- THE SECOND FORM's CARD OF 'keepsakelaw06.SlotStranger'. -/
def slotStrangerUptoCard : Claim7 := { stood := { row := slotStrangerUptoRow, standIns := [], harness := (true, "520ad22d173a5e6d872b76bbe7b9f837059f0088b37604464532ed70ad9d972f"), looks := false }, kinds := [], alts := [], laidByText := true, laidKinds := [.data, .data], laidTests := true, laidLooks := .later }
def SlotStrangerUptoCardSaid : Prop := Claim7.holds Tryd.pinned (.plain (OpenSpec.upto slotStrangerSpec)) slotStrangerUptoCard
end Rows
end Go.Proofs.YtpbhkkcboppdmaaDoor
