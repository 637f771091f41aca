/-
  DERIVED. GIVEN WITH THE SEED: THE CARDS: each row of YtbiklbomacjihaaDoorRows.lean that lists a variable, with what it lists TIED to the program's text (the seventh form; the later family's looks); each row that meets fmt, with fmt's text TOLD by the authors' own Lean function (tested against real Go, not proved from fmt's source: count such statements apart). THE CARD IS WHAT COUNTS. Prove the row's statement (the work); the ties are given (YtbiklbomacjihaaDoorTie.lean); close each card by the builder's one call (the guide's Derived/Test/ToyasCard.lean, 'card_holds'). Laid BY PROGRAM, IN A SANDBOX (cutbox-door.mjs). By AI agents, Wed Nov 11 2026. No macro, syntax, notation, axiom, sorry.
-/
import Derived.Test.YtbiklbomacjihaaDoorRows
import GoSem.ClaimSeven
namespace Go.Proofs.YtbiklbomacjihaaDoor
namespace Rows

/-- THE TIED CARD OF 'compositorlaw13.TextReads'. -/
def textReadsCard : Claim7 := { stood := { row := textReadsRow, standIns := [], harness := (true, "25bfe513d20e01c4ec35c74f44552ed6b26d52a54e6261b7cf1d76318d8f2a87"), looks := false }, kinds := [], alts := [], laidByText := true, laidKinds := [.data, .pinned], laidTests := true, laidLooks := .later }
def TextReadsCardSaid : Prop := Claim7.holds Tryd.pinned (.plain (OpenSpec.ofChange textReadsSpec)) textReadsCard

/-- THE TIED CARD OF 'compositorlaw13.TextWrites'. -/
def textWritesCard : Claim7 := { stood := { row := textWritesRow, standIns := [], harness := (true, "25bfe513d20e01c4ec35c74f44552ed6b26d52a54e6261b7cf1d76318d8f2a87"), looks := false }, kinds := [], alts := [], laidByText := true, laidKinds := [.data, .pinned], laidTests := true, laidLooks := .later }
def TextWritesCardSaid : Prop := Claim7.holds Tryd.pinned (.plain (OpenSpec.ofChange textWritesSpec)) textWritesCard

/-- THE TIED CARD OF 'compositorlaw13.TextBack'. -/
def textBackCard : Claim7 := { stood := { row := textBackRow, standIns := [], harness := (true, "25bfe513d20e01c4ec35c74f44552ed6b26d52a54e6261b7cf1d76318d8f2a87"), looks := false }, kinds := [], alts := [], laidByText := true, laidKinds := [.data, .pinned], laidTests := true, laidLooks := .later }
def TextBackCardSaid : Prop := Claim7.holds Tryd.pinned (.plain (OpenSpec.ofChange textBackSpec)) textBackCard

/-- THE TIED CARD OF 'compositorlaw13.TextGaps'. -/
def textGapsCard : Claim7 := { stood := { row := textGapsRow, standIns := [], harness := (true, "25bfe513d20e01c4ec35c74f44552ed6b26d52a54e6261b7cf1d76318d8f2a87"), looks := false }, kinds := [], alts := [], laidByText := true, laidKinds := [.data, .pinned], laidTests := true, laidLooks := .later }
def TextGapsCardSaid : Prop := Claim7.holds Tryd.pinned (.plain (OpenSpec.ofChange textGapsSpec)) textGapsCard

/-- THE TIED CARD OF 'compositorlaw13.TextSoft'. -/
def textSoftCard : Claim7 := { stood := { row := textSoftRow, standIns := [], harness := (true, "25bfe513d20e01c4ec35c74f44552ed6b26d52a54e6261b7cf1d76318d8f2a87"), looks := false }, kinds := [], alts := [], laidByText := true, laidKinds := [.data, .pinned], laidTests := true, laidLooks := .later }
def TextSoftCardSaid : Prop := Claim7.holds Tryd.pinned (.plain (OpenSpec.ofChange textSoftSpec)) textSoftCard

/-- THE TIED CARD OF 'compositorlaw13.TextJoins'. -/
def textJoinsCard : Claim7 := { stood := { row := textJoinsRow, standIns := [], harness := (true, "25bfe513d20e01c4ec35c74f44552ed6b26d52a54e6261b7cf1d76318d8f2a87"), looks := false }, kinds := [], alts := [], laidByText := true, laidKinds := [.data, .pinned], laidTests := true, laidLooks := .later }
def TextJoinsCardSaid : Prop := Claim7.holds Tryd.pinned (.plain (OpenSpec.ofChange textJoinsSpec)) textJoinsCard

/-- THE TIED CARD OF 'compositorlaw13.TextCounts'. -/
def textCountsCard : Claim7 := { stood := { row := textCountsRow, standIns := [], harness := (true, "25bfe513d20e01c4ec35c74f44552ed6b26d52a54e6261b7cf1d76318d8f2a87"), looks := false }, kinds := [], alts := [], laidByText := true, laidKinds := [.data, .pinned], laidTests := true, laidLooks := .later }
def TextCountsCardSaid : Prop := Claim7.holds Tryd.pinned (.plain (OpenSpec.ofChange textCountsSpec)) textCountsCard

/-- THE SECOND FORM's CARD OF 'compositorlaw13.TextReads'. -/
def textReadsUptoCard : Claim7 := { stood := { row := textReadsUptoRow, standIns := [], harness := (true, "25bfe513d20e01c4ec35c74f44552ed6b26d52a54e6261b7cf1d76318d8f2a87"), looks := false }, kinds := [], alts := [], laidByText := true, laidKinds := [.data, .pinned], laidTests := true, laidLooks := .later }
def TextReadsUptoCardSaid : Prop := Claim7.holds Tryd.pinned (.plain (OpenSpec.upto textReadsSpec)) textReadsUptoCard

/-- THE SECOND FORM's CARD OF 'compositorlaw13.TextWrites'. -/
def textWritesUptoCard : Claim7 := { stood := { row := textWritesUptoRow, standIns := [], harness := (true, "25bfe513d20e01c4ec35c74f44552ed6b26d52a54e6261b7cf1d76318d8f2a87"), looks := false }, kinds := [], alts := [], laidByText := true, laidKinds := [.data, .pinned], laidTests := true, laidLooks := .later }
def TextWritesUptoCardSaid : Prop := Claim7.holds Tryd.pinned (.plain (OpenSpec.upto textWritesSpec)) textWritesUptoCard

/-- THE SECOND FORM's CARD OF 'compositorlaw13.TextBack'. -/
def textBackUptoCard : Claim7 := { stood := { row := textBackUptoRow, standIns := [], harness := (true, "25bfe513d20e01c4ec35c74f44552ed6b26d52a54e6261b7cf1d76318d8f2a87"), looks := false }, kinds := [], alts := [], laidByText := true, laidKinds := [.data, .pinned], laidTests := true, laidLooks := .later }
def TextBackUptoCardSaid : Prop := Claim7.holds Tryd.pinned (.plain (OpenSpec.upto textBackSpec)) textBackUptoCard

/-- THE SECOND FORM's CARD OF 'compositorlaw13.TextGaps'. -/
def textGapsUptoCard : Claim7 := { stood := { row := textGapsUptoRow, standIns := [], harness := (true, "25bfe513d20e01c4ec35c74f44552ed6b26d52a54e6261b7cf1d76318d8f2a87"), looks := false }, kinds := [], alts := [], laidByText := true, laidKinds := [.data, .pinned], laidTests := true, laidLooks := .later }
def TextGapsUptoCardSaid : Prop := Claim7.holds Tryd.pinned (.plain (OpenSpec.upto textGapsSpec)) textGapsUptoCard

/-- THE SECOND FORM's CARD OF 'compositorlaw13.TextSoft'. -/
def textSoftUptoCard : Claim7 := { stood := { row := textSoftUptoRow, standIns := [], harness := (true, "25bfe513d20e01c4ec35c74f44552ed6b26d52a54e6261b7cf1d76318d8f2a87"), looks := false }, kinds := [], alts := [], laidByText := true, laidKinds := [.data, .pinned], laidTests := true, laidLooks := .later }
def TextSoftUptoCardSaid : Prop := Claim7.holds Tryd.pinned (.plain (OpenSpec.upto textSoftSpec)) textSoftUptoCard

/-- THE SECOND FORM's CARD OF 'compositorlaw13.TextJoins'. -/
def textJoinsUptoCard : Claim7 := { stood := { row := textJoinsUptoRow, standIns := [], harness := (true, "25bfe513d20e01c4ec35c74f44552ed6b26d52a54e6261b7cf1d76318d8f2a87"), looks := false }, kinds := [], alts := [], laidByText := true, laidKinds := [.data, .pinned], laidTests := true, laidLooks := .later }
def TextJoinsUptoCardSaid : Prop := Claim7.holds Tryd.pinned (.plain (OpenSpec.upto textJoinsSpec)) textJoinsUptoCard

/-- THE SECOND FORM's CARD OF 'compositorlaw13.TextCounts'. -/
def textCountsUptoCard : Claim7 := { stood := { row := textCountsUptoRow, standIns := [], harness := (true, "25bfe513d20e01c4ec35c74f44552ed6b26d52a54e6261b7cf1d76318d8f2a87"), looks := false }, kinds := [], alts := [], laidByText := true, laidKinds := [.data, .pinned], laidTests := true, laidLooks := .later }
def TextCountsUptoCardSaid : Prop := Claim7.holds Tryd.pinned (.plain (OpenSpec.upto textCountsSpec)) textCountsUptoCard
end Rows
end Go.Proofs.YtbiklbomacjihaaDoor
