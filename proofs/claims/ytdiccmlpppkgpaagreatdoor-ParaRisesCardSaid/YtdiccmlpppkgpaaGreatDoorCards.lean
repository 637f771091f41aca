/-
  DERIVED. GIVEN WITH THE SEED: THE CARDS: each row of YtdiccmlpppkgpaaGreatDoorRows.lean that lists a variable, with what it lists TIED to the program's text (the seventh form; the later family's looks); each row that meets fmt, with fmt's text TOLD by the authors' own Lean function (tested against real Go, not proved from fmt's source: count such statements apart). THE CARD IS WHAT COUNTS. Prove the row's statement (the work); the ties are given (YtdiccmlpppkgpaaGreatDoorTie.lean); close each card by the builder's one call (the guide's Derived/Test/ToyasCard.lean, 'card_holds'). Laid BY PROGRAM, IN A SANDBOX (cutbox-door.mjs). By AI agents, Wed Nov 11 2026. No macro, syntax, notation, axiom, sorry.
-/
import Derived.Test.YtdiccmlpppkgpaaGreatDoorRows
import GoSem.ClaimSeven
namespace Go.Proofs.YtdiccmlpppkgpaaGreatDoor
namespace Rows

/-- THE TIED CARD OF 'compositorlaw16.ParaTells'. -/
def paraTellsCard : Claim7 := { stood := { row := paraTellsRow, standIns := [], harness := (true, "f3adf224bbc8d5e04a04528362f023e308213be8df3e3242a0748b4a58778d80"), looks := false }, kinds := [], alts := [], laidByText := true, laidKinds := [.data], laidTests := true, laidLooks := .later }
def ParaTellsCardSaid : Prop := Claim7.holds Tryz.pinned (.plain (OpenSpec.ofChange paraTellsSpec)) paraTellsCard

/-- THE TIED CARD OF 'compositorlaw16.ParaOrders'. -/
def paraOrdersCard : Claim7 := { stood := { row := paraOrdersRow, standIns := [], harness := (true, "f3adf224bbc8d5e04a04528362f023e308213be8df3e3242a0748b4a58778d80"), looks := false }, kinds := [], alts := [], laidByText := true, laidKinds := [.data], laidTests := true, laidLooks := .later }
def ParaOrdersCardSaid : Prop := Claim7.holds Tryz.pinned (.plain (OpenSpec.ofChange paraOrdersSpec)) paraOrdersCard

/-- THE TIED CARD OF 'compositorlaw16.ParaRises'. -/
def paraRisesCard : Claim7 := { stood := { row := paraRisesRow, standIns := [], harness := (true, "f3adf224bbc8d5e04a04528362f023e308213be8df3e3242a0748b4a58778d80"), looks := false }, kinds := [], alts := [], laidByText := true, laidKinds := [.data], laidTests := true, laidLooks := .later }
def ParaRisesCardSaid : Prop := Claim7.holds Tryz.pinned (.plain (OpenSpec.ofChange paraRisesSpec)) paraRisesCard

/-- THE TIED CARD OF 'compositorlaw16.ParaCounts'. -/
def paraCountsCard : Claim7 := { stood := { row := paraCountsRow, standIns := [], harness := (true, "f3adf224bbc8d5e04a04528362f023e308213be8df3e3242a0748b4a58778d80"), looks := false }, kinds := [], alts := [], laidByText := true, laidKinds := [.data], laidTests := true, laidLooks := .later }
def ParaCountsCardSaid : Prop := Claim7.holds Tryz.pinned (.plain (OpenSpec.ofChange paraCountsSpec)) paraCountsCard

/-- THE TIED CARD OF 'compositorlaw16.ParaShapes'. -/
def paraShapesCard : Claim7 := { stood := { row := paraShapesRow, standIns := [], harness := (true, "f3adf224bbc8d5e04a04528362f023e308213be8df3e3242a0748b4a58778d80"), looks := false }, kinds := [], alts := [], laidByText := true, laidKinds := [.data], laidTests := true, laidLooks := .later }
def ParaShapesCardSaid : Prop := Claim7.holds Tryz.pinned (.plain (OpenSpec.ofChange paraShapesSpec)) paraShapesCard

/-- THE SECOND FORM's CARD OF 'compositorlaw16.ParaTells'. -/
def paraTellsUptoCard : Claim7 := { stood := { row := paraTellsUptoRow, standIns := [], harness := (true, "f3adf224bbc8d5e04a04528362f023e308213be8df3e3242a0748b4a58778d80"), looks := false }, kinds := [], alts := [], laidByText := true, laidKinds := [.data], laidTests := true, laidLooks := .later }
def ParaTellsUptoCardSaid : Prop := Claim7.holds Tryz.pinned (.plain (OpenSpec.upto paraTellsSpec)) paraTellsUptoCard

/-- THE SECOND FORM's CARD OF 'compositorlaw16.ParaOrders'. -/
def paraOrdersUptoCard : Claim7 := { stood := { row := paraOrdersUptoRow, standIns := [], harness := (true, "f3adf224bbc8d5e04a04528362f023e308213be8df3e3242a0748b4a58778d80"), looks := false }, kinds := [], alts := [], laidByText := true, laidKinds := [.data], laidTests := true, laidLooks := .later }
def ParaOrdersUptoCardSaid : Prop := Claim7.holds Tryz.pinned (.plain (OpenSpec.upto paraOrdersSpec)) paraOrdersUptoCard

/-- THE SECOND FORM's CARD OF 'compositorlaw16.ParaRises'. -/
def paraRisesUptoCard : Claim7 := { stood := { row := paraRisesUptoRow, standIns := [], harness := (true, "f3adf224bbc8d5e04a04528362f023e308213be8df3e3242a0748b4a58778d80"), looks := false }, kinds := [], alts := [], laidByText := true, laidKinds := [.data], laidTests := true, laidLooks := .later }
def ParaRisesUptoCardSaid : Prop := Claim7.holds Tryz.pinned (.plain (OpenSpec.upto paraRisesSpec)) paraRisesUptoCard

/-- THE SECOND FORM's CARD OF 'compositorlaw16.ParaCounts'. -/
def paraCountsUptoCard : Claim7 := { stood := { row := paraCountsUptoRow, standIns := [], harness := (true, "f3adf224bbc8d5e04a04528362f023e308213be8df3e3242a0748b4a58778d80"), looks := false }, kinds := [], alts := [], laidByText := true, laidKinds := [.data], laidTests := true, laidLooks := .later }
def ParaCountsUptoCardSaid : Prop := Claim7.holds Tryz.pinned (.plain (OpenSpec.upto paraCountsSpec)) paraCountsUptoCard

/-- THE SECOND FORM's CARD OF 'compositorlaw16.ParaShapes'. -/
def paraShapesUptoCard : Claim7 := { stood := { row := paraShapesUptoRow, standIns := [], harness := (true, "f3adf224bbc8d5e04a04528362f023e308213be8df3e3242a0748b4a58778d80"), looks := false }, kinds := [], alts := [], laidByText := true, laidKinds := [.data], laidTests := true, laidLooks := .later }
def ParaShapesUptoCardSaid : Prop := Claim7.holds Tryz.pinned (.plain (OpenSpec.upto paraShapesSpec)) paraShapesUptoCard
end Rows
end Go.Proofs.YtdiccmlpppkgpaaGreatDoor
