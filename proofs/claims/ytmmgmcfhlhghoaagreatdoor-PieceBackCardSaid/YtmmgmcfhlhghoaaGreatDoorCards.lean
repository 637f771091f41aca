/-
  DERIVED. GIVEN WITH THE SEED: THE CARDS: each row of YtmmgmcfhlhghoaaGreatDoorRows.lean that lists a variable, with what it lists TIED to the program's text (the seventh form; the later family's looks); each row that meets fmt, with fmt's text TOLD by the authors' own Lean function (tested against real Go, not proved from fmt's source: count such statements apart). THE CARD IS WHAT COUNTS. Prove the row's statement (the work); the ties are given (YtmmgmcfhlhghoaaGreatDoorTie.lean); close each card by the builder's one call (the guide's Derived/Test/ToyasCard.lean, 'card_holds'). Laid BY PROGRAM, IN A SANDBOX (cutbox-door.mjs). By AI agents, Wed Nov 11 2026. No macro, syntax, notation, axiom, sorry.
-/
import Derived.Test.YtmmgmcfhlhghoaaGreatDoorRows
import GoSem.ClaimSeven
namespace Go.Proofs.YtmmgmcfhlhghoaaGreatDoor
namespace Rows

/-- THE TIED CARD OF 'compositorlaw17.PieceBack'. -/
def pieceBackCard : Claim7 := { stood := { row := pieceBackRow, standIns := [], harness := (true, "75d18fc3d3e4b4f3df49e603953ce738441b751e3a565f2fd430d3fce89a61d8"), looks := false }, kinds := [], alts := [], laidByText := true, laidKinds := [.data], laidTests := true, laidLooks := .later }
def PieceBackCardSaid : Prop := Claim7.holds Tryz.pinned (.plain (OpenSpec.ofChange pieceBackSpec)) pieceBackCard

/-- THE SECOND FORM's CARD OF 'compositorlaw17.PieceBack'. -/
def pieceBackUptoCard : Claim7 := { stood := { row := pieceBackUptoRow, standIns := [], harness := (true, "75d18fc3d3e4b4f3df49e603953ce738441b751e3a565f2fd430d3fce89a61d8"), looks := false }, kinds := [], alts := [], laidByText := true, laidKinds := [.data], laidTests := true, laidLooks := .later }
def PieceBackUptoCardSaid : Prop := Claim7.holds Tryz.pinned (.plain (OpenSpec.upto pieceBackSpec)) pieceBackUptoCard
end Rows
end Go.Proofs.YtmmgmcfhlhghoaaGreatDoor
