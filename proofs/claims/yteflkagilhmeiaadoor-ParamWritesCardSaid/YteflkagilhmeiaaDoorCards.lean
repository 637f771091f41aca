/-
  DERIVED. GIVEN WITH THE SEED: THE CARDS: each row of YteflkagilhmeiaaDoorRows.lean that lists a variable, with what it lists TIED to the program's text (the seventh form; the later family's looks); each row that meets fmt, with fmt's text TOLD by the authors' own Lean function (tested against real Go, not proved from fmt's source: count such statements apart). THE CARD IS WHAT COUNTS. Prove the row's statement (the work); the ties are given (YteflkagilhmeiaaDoorTie.lean); close each card by the builder's one call (the guide's Derived/Test/ToyasCard.lean, 'card_holds'). Laid BY PROGRAM, IN A SANDBOX (cutbox-door.mjs). By AI agents, Wed Nov 11 2026. No macro, syntax, notation, axiom, sorry.
-/
import Derived.Test.YteflkagilhmeiaaDoorRows
import GoSem.ClaimSeven
namespace Go.Proofs.YteflkagilhmeiaaDoor
namespace Rows

/-- THE TIED CARD OF 'compositorlaw14.ParamWrites'. -/
def paramWritesCard : Claim7 := { stood := { row := paramWritesRow, standIns := [], harness := (true, "cf877959900306271837a1f2954a443dce1d9d522f643ec5702d629c702a3edc"), looks := true }, kinds := [], alts := [], laidByText := true, laidKinds := [.data, .data, .data, .data, .sentinel, .sentinel, .data, .pinned], laidTests := true, laidLooks := .later }
def ParamWritesCardSaid : Prop := Claim7.holds Tryd.pinned (.plain (OpenSpec.ofChange paramWritesSpec)) paramWritesCard

/-- THE TIED CARD OF 'compositorlaw14.ParamBack'. -/
def paramBackCard : Claim7 := { stood := { row := paramBackRow, standIns := [], harness := (true, "cf877959900306271837a1f2954a443dce1d9d522f643ec5702d629c702a3edc"), looks := true }, kinds := [], alts := [], laidByText := true, laidKinds := [.data, .data, .data, .data, .sentinel, .sentinel, .data, .pinned], laidTests := true, laidLooks := .later }
def ParamBackCardSaid : Prop := Claim7.holds Tryd.pinned (.plain (OpenSpec.ofChange paramBackSpec)) paramBackCard

/-- THE TIED CARD OF 'compositorlaw14.ParamTurns'. -/
def paramTurnsCard : Claim7 := { stood := { row := paramTurnsRow, standIns := [], harness := (true, "cf877959900306271837a1f2954a443dce1d9d522f643ec5702d629c702a3edc"), looks := true }, kinds := [], alts := [], laidByText := true, laidKinds := [.data, .data, .data, .data, .sentinel, .sentinel, .data, .pinned], laidTests := true, laidLooks := .later }
def ParamTurnsCardSaid : Prop := Claim7.holds Tryd.pinned (.plain (OpenSpec.ofChange paramTurnsSpec)) paramTurnsCard

/-- THE TIED CARD OF 'compositorlaw14.ParamWidth'. -/
def paramWidthCard : Claim7 := { stood := { row := paramWidthRow, standIns := [], harness := (true, "cf877959900306271837a1f2954a443dce1d9d522f643ec5702d629c702a3edc"), looks := true }, kinds := [], alts := [], laidByText := true, laidKinds := [.data, .data, .data, .data, .sentinel, .sentinel, .data, .pinned], laidTests := true, laidLooks := .later }
def ParamWidthCardSaid : Prop := Claim7.holds Tryd.pinned (.plain (OpenSpec.ofChange paramWidthSpec)) paramWidthCard

/-- THE SECOND FORM's CARD OF 'compositorlaw14.ParamWrites'. -/
def paramWritesUptoCard : Claim7 := { stood := { row := paramWritesUptoRow, standIns := [], harness := (true, "cf877959900306271837a1f2954a443dce1d9d522f643ec5702d629c702a3edc"), looks := true }, kinds := [], alts := [], laidByText := true, laidKinds := [.data, .data, .data, .data, .sentinel, .sentinel, .data, .pinned], laidTests := true, laidLooks := .later }
def ParamWritesUptoCardSaid : Prop := Claim7.holds Tryd.pinned (.plain (OpenSpec.upto paramWritesSpec)) paramWritesUptoCard

/-- THE SECOND FORM's CARD OF 'compositorlaw14.ParamBack'. -/
def paramBackUptoCard : Claim7 := { stood := { row := paramBackUptoRow, standIns := [], harness := (true, "cf877959900306271837a1f2954a443dce1d9d522f643ec5702d629c702a3edc"), looks := true }, kinds := [], alts := [], laidByText := true, laidKinds := [.data, .data, .data, .data, .sentinel, .sentinel, .data, .pinned], laidTests := true, laidLooks := .later }
def ParamBackUptoCardSaid : Prop := Claim7.holds Tryd.pinned (.plain (OpenSpec.upto paramBackSpec)) paramBackUptoCard

/-- THE SECOND FORM's CARD OF 'compositorlaw14.ParamTurns'. -/
def paramTurnsUptoCard : Claim7 := { stood := { row := paramTurnsUptoRow, standIns := [], harness := (true, "cf877959900306271837a1f2954a443dce1d9d522f643ec5702d629c702a3edc"), looks := true }, kinds := [], alts := [], laidByText := true, laidKinds := [.data, .data, .data, .data, .sentinel, .sentinel, .data, .pinned], laidTests := true, laidLooks := .later }
def ParamTurnsUptoCardSaid : Prop := Claim7.holds Tryd.pinned (.plain (OpenSpec.upto paramTurnsSpec)) paramTurnsUptoCard

/-- THE SECOND FORM's CARD OF 'compositorlaw14.ParamWidth'. -/
def paramWidthUptoCard : Claim7 := { stood := { row := paramWidthUptoRow, standIns := [], harness := (true, "cf877959900306271837a1f2954a443dce1d9d522f643ec5702d629c702a3edc"), looks := true }, kinds := [], alts := [], laidByText := true, laidKinds := [.data, .data, .data, .data, .sentinel, .sentinel, .data, .pinned], laidTests := true, laidLooks := .later }
def ParamWidthUptoCardSaid : Prop := Claim7.holds Tryd.pinned (.plain (OpenSpec.upto paramWidthSpec)) paramWidthUptoCard
end Rows
end Go.Proofs.YteflkagilhmeiaaDoor
