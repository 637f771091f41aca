/-
  DERIVED. GIVEN WITH THE SEED: THE CARDS: each row of YtijhabhnhglhgaaDoorRows.lean that lists a variable, with what it lists TIED to the program's text (the seventh form; the later family's looks); each row that meets fmt, with fmt's text TOLD by the authors' own Lean function (tested against real Go, not proved from fmt's source: count such statements apart). THE CARD IS WHAT COUNTS. Prove the row's statement (the work); the ties are given (YtijhabhnhglhgaaDoorTie.lean); close each card by the builder's one call (the guide's Derived/Test/ToyasCard.lean, 'card_holds'). Laid BY PROGRAM, IN A SANDBOX (cutbox-door.mjs). By AI agents, Wed Nov 11 2026. No macro, syntax, notation, axiom, sorry.
-/
import Derived.Test.YtijhabhnhglhgaaDoorRows
import GoSem.ClaimSeven
namespace Go.Proofs.YtijhabhnhglhgaaDoor
namespace Rows

/-- THE TIED CARD OF 'compositorlaw10.LiangParses'. -/
def liangParsesCard : Claim7 := { stood := { row := liangParsesRow, standIns := [], harness := (true, "14bd467a8e4dfc0126bc129eb0e97cfad7ebf7c0505d88260840e18b572efc41"), looks := false }, kinds := [], alts := [], laidByText := true, laidKinds := [.data, .pinned], laidTests := true, laidLooks := .later }
def LiangParsesCardSaid : Prop := Claim7.holds Tryd.pinned (.plain (OpenSpec.ofChange liangParsesSpec)) liangParsesCard

/-- THE TIED CARD OF 'compositorlaw10.LiangWrites'. -/
def liangWritesCard : Claim7 := { stood := { row := liangWritesRow, standIns := [], harness := (true, "14bd467a8e4dfc0126bc129eb0e97cfad7ebf7c0505d88260840e18b572efc41"), looks := false }, kinds := [], alts := [], laidByText := true, laidKinds := [.data, .pinned], laidTests := true, laidLooks := .later }
def LiangWritesCardSaid : Prop := Claim7.holds Tryd.pinned (.plain (OpenSpec.ofChange liangWritesSpec)) liangWritesCard

/-- THE TIED CARD OF 'compositorlaw10.LiangBack'. -/
def liangBackCard : Claim7 := { stood := { row := liangBackRow, standIns := [], harness := (true, "14bd467a8e4dfc0126bc129eb0e97cfad7ebf7c0505d88260840e18b572efc41"), looks := false }, kinds := [], alts := [], laidByText := true, laidKinds := [.data, .pinned], laidTests := true, laidLooks := .later }
def LiangBackCardSaid : Prop := Claim7.holds Tryd.pinned (.plain (OpenSpec.ofChange liangBackSpec)) liangBackCard

/-- THE TIED CARD OF 'compositorlaw10.LiangParts'. -/
def liangPartsCard : Claim7 := { stood := { row := liangPartsRow, standIns := [], harness := (true, "14bd467a8e4dfc0126bc129eb0e97cfad7ebf7c0505d88260840e18b572efc41"), looks := false }, kinds := [], alts := [], laidByText := true, laidKinds := [.data, .pinned], laidTests := true, laidLooks := .later }
def LiangPartsCardSaid : Prop := Claim7.holds Tryd.pinned (.plain (OpenSpec.ofChange liangPartsSpec)) liangPartsCard

/-- THE TIED CARD OF 'compositorlaw10.LiangGaps'. -/
def liangGapsCard : Claim7 := { stood := { row := liangGapsRow, standIns := [], harness := (true, "14bd467a8e4dfc0126bc129eb0e97cfad7ebf7c0505d88260840e18b572efc41"), looks := false }, kinds := [], alts := [], laidByText := true, laidKinds := [.data, .pinned], laidTests := true, laidLooks := .later }
def LiangGapsCardSaid : Prop := Claim7.holds Tryd.pinned (.plain (OpenSpec.ofChange liangGapsSpec)) liangGapsCard

/-- THE TIED CARD OF 'compositorlaw10.LiangCuts'. -/
def liangCutsCard : Claim7 := { stood := { row := liangCutsRow, standIns := [], harness := (true, "14bd467a8e4dfc0126bc129eb0e97cfad7ebf7c0505d88260840e18b572efc41"), looks := false }, kinds := [], alts := [], laidByText := true, laidKinds := [.data, .pinned], laidTests := true, laidLooks := .later }
def LiangCutsCardSaid : Prop := Claim7.holds Tryd.pinned (.plain (OpenSpec.ofChange liangCutsSpec)) liangCutsCard

/-- THE SECOND FORM's CARD OF 'compositorlaw10.LiangParses'. -/
def liangParsesUptoCard : Claim7 := { stood := { row := liangParsesUptoRow, standIns := [], harness := (true, "14bd467a8e4dfc0126bc129eb0e97cfad7ebf7c0505d88260840e18b572efc41"), looks := false }, kinds := [], alts := [], laidByText := true, laidKinds := [.data, .pinned], laidTests := true, laidLooks := .later }
def LiangParsesUptoCardSaid : Prop := Claim7.holds Tryd.pinned (.plain (OpenSpec.upto liangParsesSpec)) liangParsesUptoCard

/-- THE SECOND FORM's CARD OF 'compositorlaw10.LiangWrites'. -/
def liangWritesUptoCard : Claim7 := { stood := { row := liangWritesUptoRow, standIns := [], harness := (true, "14bd467a8e4dfc0126bc129eb0e97cfad7ebf7c0505d88260840e18b572efc41"), looks := false }, kinds := [], alts := [], laidByText := true, laidKinds := [.data, .pinned], laidTests := true, laidLooks := .later }
def LiangWritesUptoCardSaid : Prop := Claim7.holds Tryd.pinned (.plain (OpenSpec.upto liangWritesSpec)) liangWritesUptoCard

/-- THE SECOND FORM's CARD OF 'compositorlaw10.LiangBack'. -/
def liangBackUptoCard : Claim7 := { stood := { row := liangBackUptoRow, standIns := [], harness := (true, "14bd467a8e4dfc0126bc129eb0e97cfad7ebf7c0505d88260840e18b572efc41"), looks := false }, kinds := [], alts := [], laidByText := true, laidKinds := [.data, .pinned], laidTests := true, laidLooks := .later }
def LiangBackUptoCardSaid : Prop := Claim7.holds Tryd.pinned (.plain (OpenSpec.upto liangBackSpec)) liangBackUptoCard

/-- THE SECOND FORM's CARD OF 'compositorlaw10.LiangParts'. -/
def liangPartsUptoCard : Claim7 := { stood := { row := liangPartsUptoRow, standIns := [], harness := (true, "14bd467a8e4dfc0126bc129eb0e97cfad7ebf7c0505d88260840e18b572efc41"), looks := false }, kinds := [], alts := [], laidByText := true, laidKinds := [.data, .pinned], laidTests := true, laidLooks := .later }
def LiangPartsUptoCardSaid : Prop := Claim7.holds Tryd.pinned (.plain (OpenSpec.upto liangPartsSpec)) liangPartsUptoCard

/-- THE SECOND FORM's CARD OF 'compositorlaw10.LiangGaps'. -/
def liangGapsUptoCard : Claim7 := { stood := { row := liangGapsUptoRow, standIns := [], harness := (true, "14bd467a8e4dfc0126bc129eb0e97cfad7ebf7c0505d88260840e18b572efc41"), looks := false }, kinds := [], alts := [], laidByText := true, laidKinds := [.data, .pinned], laidTests := true, laidLooks := .later }
def LiangGapsUptoCardSaid : Prop := Claim7.holds Tryd.pinned (.plain (OpenSpec.upto liangGapsSpec)) liangGapsUptoCard

/-- THE SECOND FORM's CARD OF 'compositorlaw10.LiangCuts'. -/
def liangCutsUptoCard : Claim7 := { stood := { row := liangCutsUptoRow, standIns := [], harness := (true, "14bd467a8e4dfc0126bc129eb0e97cfad7ebf7c0505d88260840e18b572efc41"), looks := false }, kinds := [], alts := [], laidByText := true, laidKinds := [.data, .pinned], laidTests := true, laidLooks := .later }
def LiangCutsUptoCardSaid : Prop := Claim7.holds Tryd.pinned (.plain (OpenSpec.upto liangCutsSpec)) liangCutsUptoCard
end Rows
end Go.Proofs.YtijhabhnhglhgaaDoor
