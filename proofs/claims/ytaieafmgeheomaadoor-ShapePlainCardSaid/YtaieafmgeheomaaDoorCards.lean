/-
  DERIVED. GIVEN WITH THE SEED: THE CARDS: each row of YtaieafmgeheomaaDoorRows.lean that lists a variable, with what it lists TIED to the program's text (the seventh form; the later family's looks); each row that meets fmt, with fmt's text TOLD by the authors' own Lean function (tested against real Go, not proved from fmt's source: count such statements apart). THE CARD IS WHAT COUNTS. Prove the row's statement (the work); the ties are given (YtaieafmgeheomaaDoorTie.lean); close each card by the builder's one call (the guide's Derived/Test/ToyasCard.lean, 'card_holds'). Laid BY PROGRAM, IN A SANDBOX (cutbox-door.mjs). By AI agents, Wed Nov 11 2026. No macro, syntax, notation, axiom, sorry.
-/
import Derived.Test.YtaieafmgeheomaaDoorRows
import GoSem.ClaimSeven
namespace Go.Proofs.YtaieafmgeheomaaDoor
namespace Rows

/-- THE TIED CARD OF 'compositorlaw15.ShapeTells'. -/
def shapeTellsCard : Claim7 := { stood := { row := shapeTellsRow, standIns := [], harness := (true, "c90687faaf8e4093822d34037fd30b63c38f93566ca27fcc3f25cb30cb18779b"), looks := false }, kinds := [], alts := [], laidByText := true, laidKinds := [.data], laidTests := true, laidLooks := .later }
def ShapeTellsCardSaid : Prop := Claim7.holds Tryd.pinned (.plain (OpenSpec.ofChange shapeTellsSpec)) shapeTellsCard

/-- THE TIED CARD OF 'compositorlaw15.ShapeFits'. -/
def shapeFitsCard : Claim7 := { stood := { row := shapeFitsRow, standIns := [], harness := (true, "c90687faaf8e4093822d34037fd30b63c38f93566ca27fcc3f25cb30cb18779b"), looks := false }, kinds := [], alts := [], laidByText := true, laidKinds := [.data], laidTests := true, laidLooks := .later }
def ShapeFitsCardSaid : Prop := Claim7.holds Tryd.pinned (.plain (OpenSpec.ofChange shapeFitsSpec)) shapeFitsCard

/-- THE TIED CARD OF 'compositorlaw15.ShapePlain'. -/
def shapePlainCard : Claim7 := { stood := { row := shapePlainRow, standIns := [], harness := (true, "c90687faaf8e4093822d34037fd30b63c38f93566ca27fcc3f25cb30cb18779b"), looks := false }, kinds := [], alts := [], laidByText := true, laidKinds := [.data], laidTests := true, laidLooks := .later }
def ShapePlainCardSaid : Prop := Claim7.holds Tryd.pinned (.plain (OpenSpec.ofChange shapePlainSpec)) shapePlainCard

/-- THE SECOND FORM's CARD OF 'compositorlaw15.ShapeTells'. -/
def shapeTellsUptoCard : Claim7 := { stood := { row := shapeTellsUptoRow, standIns := [], harness := (true, "c90687faaf8e4093822d34037fd30b63c38f93566ca27fcc3f25cb30cb18779b"), looks := false }, kinds := [], alts := [], laidByText := true, laidKinds := [.data], laidTests := true, laidLooks := .later }
def ShapeTellsUptoCardSaid : Prop := Claim7.holds Tryd.pinned (.plain (OpenSpec.upto shapeTellsSpec)) shapeTellsUptoCard

/-- THE SECOND FORM's CARD OF 'compositorlaw15.ShapeFits'. -/
def shapeFitsUptoCard : Claim7 := { stood := { row := shapeFitsUptoRow, standIns := [], harness := (true, "c90687faaf8e4093822d34037fd30b63c38f93566ca27fcc3f25cb30cb18779b"), looks := false }, kinds := [], alts := [], laidByText := true, laidKinds := [.data], laidTests := true, laidLooks := .later }
def ShapeFitsUptoCardSaid : Prop := Claim7.holds Tryd.pinned (.plain (OpenSpec.upto shapeFitsSpec)) shapeFitsUptoCard

/-- THE SECOND FORM's CARD OF 'compositorlaw15.ShapePlain'. -/
def shapePlainUptoCard : Claim7 := { stood := { row := shapePlainUptoRow, standIns := [], harness := (true, "c90687faaf8e4093822d34037fd30b63c38f93566ca27fcc3f25cb30cb18779b"), looks := false }, kinds := [], alts := [], laidByText := true, laidKinds := [.data], laidTests := true, laidLooks := .later }
def ShapePlainUptoCardSaid : Prop := Claim7.holds Tryd.pinned (.plain (OpenSpec.upto shapePlainSpec)) shapePlainUptoCard
end Rows
end Go.Proofs.YtaieafmgeheomaaDoor
