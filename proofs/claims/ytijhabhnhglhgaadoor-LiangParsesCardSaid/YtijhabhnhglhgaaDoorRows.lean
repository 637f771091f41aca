/-
  NARROWER THAN 'FOR EVERY INPUT', by the rows' own cells (each row's printed sentence says how): LiangParses: laid · LiangWrites: laid · LiangBack: laid · LiangParts: laid · LiangGaps: laid · LiangCuts: laid.
  DERIVED. THE GIVEN ROWS OF THIS SEAT. 6 by the template 'for every input the law returns true; each argument reads behind the call as it read before'; 0 by the template 'total and deterministic' (their statements: YtijhabhnhglhgaaDoorTotals.lean).
  GIVEN WITH THE SEED: the statements are not yours to turn. If you find one false, say at which input.
  Laid BY PROGRAM, IN A SANDBOX (cutbox-rows.mjs): the forced cells as the released guide's own fill.sh prints them over the translation 2f25d6f168ee5d5d… (all of the seat's roots in one cut). By AI agents, Wed Nov 11 2026. No macro, syntax, notation, axiom, sorry.
-/
import Derived.Test.YtijhabhnhglhgaaDoorChecked
import GoSem.PinnedTables
import GoSem.Claim
import GoSem.ClaimJoined
import GoSem.ClaimMapViews
import Derived.JoinedTies
import Derived.KernelRfl
namespace Go.Proofs.YtijhabhnhglhgaaDoor
/- THE CELL 'sum', in the pinned program and in every row, IS THE sha256 OF THE DUMP (.gsa) THAT YtijhabhnhglhgaaDoorProg.lean LOADS. Nothing in Lean hashes anything: it is a label: what it is worth is what the hold of that sum in a sandbox is worth. -/
noncomputable def Tryd.pinned : Pinned := { name := "ytijhabhnhglhgaadoor", sum := "2f25d6f168ee5d5d96af8a01377f0a84d7776a4a236c9b00a31bb2f439980b07", checked := Tryd.checked }
namespace Rows
def none {H : Type} : Left H := { results := [], args := [] }

/- WHAT THE LISTED PACKAGE-LEVEL VARIABLES READ AS WHEN THE CALL BEGINS. Each datum BY PROGRAM (the guide's laid-datum.mjs) off the statement by which the dump's own 'gosem.cut.vars' lays the variable. In a bare row this is a premise. The card (YtijhabhnhglhgaaDoorCards.lean) ties it to the program's text. -/
def laid_unicode_utf8_acceptRanges {H : Type} : DataW H := .agg [.agg [.lit (.int .u8 128), .lit (.int .u8 191)], .agg [.lit (.int .u8 160), .lit (.int .u8 191)], .agg [.lit (.int .u8 128), .lit (.int .u8 159)], .agg [.lit (.int .u8 144), .lit (.int .u8 191)], .agg [.lit (.int .u8 128), .lit (.int .u8 143)], .agg [.lit (.int .u8 0), .lit (.int .u8 0)], .agg [.lit (.int .u8 0), .lit (.int .u8 0)], .agg [.lit (.int .u8 0), .lit (.int .u8 0)], .agg [.lit (.int .u8 0), .lit (.int .u8 0)], .agg [.lit (.int .u8 0), .lit (.int .u8 0)], .agg [.lit (.int .u8 0), .lit (.int .u8 0)], .agg [.lit (.int .u8 0), .lit (.int .u8 0)], .agg [.lit (.int .u8 0), .lit (.int .u8 0)], .agg [.lit (.int .u8 0), .lit (.int .u8 0)], .agg [.lit (.int .u8 0), .lit (.int .u8 0)], .agg [.lit (.int .u8 0), .lit (.int .u8 0)]]
/-- One of Go's own tables, pinned by name: the form's constant. -/
def laid_unicode_utf8_first : DataW Unit := Go.Pinned.utf8First

/-- 'compositorlaw10.LiangParses': WHATEVER THE INPUT: true; the input reads as it did. -/
def liangParsesSpec : ChangeSpec := { name := "liangParses", fn := fun _ => fun
  | [d] => { results := [.lit (.bool true)], args := [d] }
  | _ => none }
def liangParsesRow : OpenClaim := { program := "ytijhabhnhglhgaadoor", sum := "2f25d6f168ee5d5d96af8a01377f0a84d7776a4a236c9b00a31bb2f439980b07", func := "compositor/compositorlaw10.LiangParses", spec := "liangParses", unfollowed := true, recurses := true, named := ["unicode/utf8.first", "unicode/utf8.acceptRanges"], apart := false, laid := [("unicode/utf8.acceptRanges", laid_unicode_utf8_acceptRanges), ("unicode/utf8.first", laid_unicode_utf8_first)] }
def LiangParsesSaid : Prop := liangParsesRow.holds Tryd.pinned (OpenSpec.ofChange liangParsesSpec)

/-- ITS FALSE NEIGHBOUR: 'it returns false'. Refute it at one input. -/
def liangParsesWrong : ChangeSpec := { name := "liangParses", fn := fun _ => fun
  | [d] => { results := [.lit (.bool false)], args := [d] }
  | _ => none }
def LiangParsesWrongFalsely : Prop := liangParsesRow.holds Tryd.pinned (OpenSpec.ofChange liangParsesWrong)

/-- 'compositorlaw10.LiangWrites': WHATEVER THE INPUT: true; the input reads as it did. -/
def liangWritesSpec : ChangeSpec := { name := "liangWrites", fn := fun _ => fun
  | [d] => { results := [.lit (.bool true)], args := [d] }
  | _ => none }
def liangWritesRow : OpenClaim := { program := "ytijhabhnhglhgaadoor", sum := "2f25d6f168ee5d5d96af8a01377f0a84d7776a4a236c9b00a31bb2f439980b07", func := "compositor/compositorlaw10.LiangWrites", spec := "liangWrites", unfollowed := true, recurses := true, named := ["unicode/utf8.first", "unicode/utf8.acceptRanges"], apart := false, laid := [("unicode/utf8.acceptRanges", laid_unicode_utf8_acceptRanges), ("unicode/utf8.first", laid_unicode_utf8_first)] }
def LiangWritesSaid : Prop := liangWritesRow.holds Tryd.pinned (OpenSpec.ofChange liangWritesSpec)

/-- ITS FALSE NEIGHBOUR: 'it returns false'. Refute it at one input. -/
def liangWritesWrong : ChangeSpec := { name := "liangWrites", fn := fun _ => fun
  | [d] => { results := [.lit (.bool false)], args := [d] }
  | _ => none }
def LiangWritesWrongFalsely : Prop := liangWritesRow.holds Tryd.pinned (OpenSpec.ofChange liangWritesWrong)

/-- 'compositorlaw10.LiangBack': WHATEVER THE INPUT: true; the input reads as it did. -/
def liangBackSpec : ChangeSpec := { name := "liangBack", fn := fun _ => fun
  | [d1, d2] => { results := [.lit (.bool true)], args := [d1, d2] }
  | _ => none }
def liangBackRow : OpenClaim := { program := "ytijhabhnhglhgaadoor", sum := "2f25d6f168ee5d5d96af8a01377f0a84d7776a4a236c9b00a31bb2f439980b07", func := "compositor/compositorlaw10.LiangBack", spec := "liangBack", unfollowed := true, recurses := true, named := ["unicode/utf8.first", "unicode/utf8.acceptRanges"], apart := false, laid := [("unicode/utf8.acceptRanges", laid_unicode_utf8_acceptRanges), ("unicode/utf8.first", laid_unicode_utf8_first)] }
def LiangBackSaid : Prop := liangBackRow.holds Tryd.pinned (OpenSpec.ofChange liangBackSpec)

/-- ITS FALSE NEIGHBOUR: 'it returns false'. Refute it at one input. -/
def liangBackWrong : ChangeSpec := { name := "liangBack", fn := fun _ => fun
  | [d1, d2] => { results := [.lit (.bool false)], args := [d1, d2] }
  | _ => none }
def LiangBackWrongFalsely : Prop := liangBackRow.holds Tryd.pinned (OpenSpec.ofChange liangBackWrong)

/-- 'compositorlaw10.LiangParts': WHATEVER THE INPUT: true; the input reads as it did. -/
def liangPartsSpec : ChangeSpec := { name := "liangParts", fn := fun _ => fun
  | [d1, d2] => { results := [.lit (.bool true)], args := [d1, d2] }
  | _ => none }
def liangPartsRow : OpenClaim := { program := "ytijhabhnhglhgaadoor", sum := "2f25d6f168ee5d5d96af8a01377f0a84d7776a4a236c9b00a31bb2f439980b07", func := "compositor/compositorlaw10.LiangParts", spec := "liangParts", unfollowed := true, recurses := true, named := ["unicode/utf8.first", "unicode/utf8.acceptRanges"], apart := false, laid := [("unicode/utf8.acceptRanges", laid_unicode_utf8_acceptRanges), ("unicode/utf8.first", laid_unicode_utf8_first)] }
def LiangPartsSaid : Prop := liangPartsRow.holds Tryd.pinned (OpenSpec.ofChange liangPartsSpec)

/-- ITS FALSE NEIGHBOUR: 'it returns false'. Refute it at one input. -/
def liangPartsWrong : ChangeSpec := { name := "liangParts", fn := fun _ => fun
  | [d1, d2] => { results := [.lit (.bool false)], args := [d1, d2] }
  | _ => none }
def LiangPartsWrongFalsely : Prop := liangPartsRow.holds Tryd.pinned (OpenSpec.ofChange liangPartsWrong)

/-- 'compositorlaw10.LiangGaps': WHATEVER THE INPUT: true; the input reads as it did. -/
def liangGapsSpec : ChangeSpec := { name := "liangGaps", fn := fun _ => fun
  | [d1, d2] => { results := [.lit (.bool true)], args := [d1, d2] }
  | _ => none }
def liangGapsRow : OpenClaim := { program := "ytijhabhnhglhgaadoor", sum := "2f25d6f168ee5d5d96af8a01377f0a84d7776a4a236c9b00a31bb2f439980b07", func := "compositor/compositorlaw10.LiangGaps", spec := "liangGaps", unfollowed := true, recurses := true, named := ["unicode/utf8.first", "unicode/utf8.acceptRanges"], apart := false, laid := [("unicode/utf8.acceptRanges", laid_unicode_utf8_acceptRanges), ("unicode/utf8.first", laid_unicode_utf8_first)] }
def LiangGapsSaid : Prop := liangGapsRow.holds Tryd.pinned (OpenSpec.ofChange liangGapsSpec)

/-- ITS FALSE NEIGHBOUR: 'it returns false'. Refute it at one input. -/
def liangGapsWrong : ChangeSpec := { name := "liangGaps", fn := fun _ => fun
  | [d1, d2] => { results := [.lit (.bool false)], args := [d1, d2] }
  | _ => none }
def LiangGapsWrongFalsely : Prop := liangGapsRow.holds Tryd.pinned (OpenSpec.ofChange liangGapsWrong)

/-- 'compositorlaw10.LiangCuts': WHATEVER THE INPUT: true; the input reads as it did. -/
def liangCutsSpec : ChangeSpec := { name := "liangCuts", fn := fun _ => fun
  | [d1, d2] => { results := [.lit (.bool true)], args := [d1, d2] }
  | _ => none }
def liangCutsRow : OpenClaim := { program := "ytijhabhnhglhgaadoor", sum := "2f25d6f168ee5d5d96af8a01377f0a84d7776a4a236c9b00a31bb2f439980b07", func := "compositor/compositorlaw10.LiangCuts", spec := "liangCuts", unfollowed := true, recurses := true, named := ["unicode/utf8.first", "unicode/utf8.acceptRanges"], apart := false, laid := [("unicode/utf8.acceptRanges", laid_unicode_utf8_acceptRanges), ("unicode/utf8.first", laid_unicode_utf8_first)] }
def LiangCutsSaid : Prop := liangCutsRow.holds Tryd.pinned (OpenSpec.ofChange liangCutsSpec)

/-- ITS FALSE NEIGHBOUR: 'it returns false'. Refute it at one input. -/
def liangCutsWrong : ChangeSpec := { name := "liangCuts", fn := fun _ => fun
  | [d1, d2] => { results := [.lit (.bool false)], args := [d1, d2] }
  | _ => none }
def LiangCutsWrongFalsely : Prop := liangCutsRow.holds Tryd.pinned (OpenSpec.ofChange liangCutsWrong)

/- THE SECOND FORM. 'bulk': how many values and letters a reading holds, each counted each time it is reached (what is shared counts as often as it is met; a slice's spare places count too). A statement '..UptoSaid' is the law's where the arguments, and the package variables that the reading takes, are together of bulk at most 1048576: NARROWER than '..Said'. Prove '..Said' where nothing that the law and all that it calls make is longer than what came in: it says more and counts as full. Else prove '..UptoSaid'. A law counts once. -/
mutual
def uptoBulk {H : Type} : DataW H → Nat
  | .lit (.string bytes) => bytes.length + 1
  | .lit _ => 1
  | .nil => 1
  | .ptr d => uptoBulk d + 1
  | .slice elems spare => uptoBulkAll elems + uptoBulkAll spare + 1
  | .agg parts => uptoBulkAll parts + 1
  | .iface _ d => uptoBulk d + 1
  | .map entries => uptoBulkEntries entries + 1
  | .held _ => 1
def uptoBulkAll {H : Type} : List (DataW H) → Nat
  | [] => 0
  | d :: r => uptoBulk d + uptoBulkAll r
def uptoBulkEntries {H : Type} : List (Lit × DataW H) → Nat
  | [] => 0
  | x :: r => uptoBulkEntry x + uptoBulkEntries r
def uptoBulkEntry {H : Type} : Lit × DataW H → Nat
  | (.string bytes, d) => bytes.length + uptoBulk d + 1
  | (_, d) => uptoBulk d + 1
 end
def uptoSmall : (H : Type) → List (DataW H) → Bool := fun _ ds => decide (uptoBulkAll ds ≤ 1048576)
def OpenSpec.upto (s : _root_.Go.ChangeSpec) : _root_.Go.OpenSpec := { _root_.Go.OpenSpec.ofChange s with cond := some uptoSmall }

/-- 'compositorlaw10.LiangParses', WHERE WHAT IT READS IS OF BULK AT MOST 1048576: true; the input reads as it did. -/
def liangParsesUptoRow : OpenClaim := { program := "ytijhabhnhglhgaadoor", sum := "2f25d6f168ee5d5d96af8a01377f0a84d7776a4a236c9b00a31bb2f439980b07", func := "compositor/compositorlaw10.LiangParses", spec := "liangParses", unfollowed := true, recurses := true, named := ["unicode/utf8.first", "unicode/utf8.acceptRanges"], apart := false, laid := [("unicode/utf8.acceptRanges", laid_unicode_utf8_acceptRanges), ("unicode/utf8.first", laid_unicode_utf8_first)], narrowed := true }
def LiangParsesUptoSaid : Prop := liangParsesUptoRow.holds Tryd.pinned (OpenSpec.upto liangParsesSpec)

/-- 'compositorlaw10.LiangWrites', WHERE WHAT IT READS IS OF BULK AT MOST 1048576: true; the input reads as it did. -/
def liangWritesUptoRow : OpenClaim := { program := "ytijhabhnhglhgaadoor", sum := "2f25d6f168ee5d5d96af8a01377f0a84d7776a4a236c9b00a31bb2f439980b07", func := "compositor/compositorlaw10.LiangWrites", spec := "liangWrites", unfollowed := true, recurses := true, named := ["unicode/utf8.first", "unicode/utf8.acceptRanges"], apart := false, laid := [("unicode/utf8.acceptRanges", laid_unicode_utf8_acceptRanges), ("unicode/utf8.first", laid_unicode_utf8_first)], narrowed := true }
def LiangWritesUptoSaid : Prop := liangWritesUptoRow.holds Tryd.pinned (OpenSpec.upto liangWritesSpec)

/-- 'compositorlaw10.LiangBack', WHERE WHAT IT READS IS OF BULK AT MOST 1048576: true; the input reads as it did. -/
def liangBackUptoRow : OpenClaim := { program := "ytijhabhnhglhgaadoor", sum := "2f25d6f168ee5d5d96af8a01377f0a84d7776a4a236c9b00a31bb2f439980b07", func := "compositor/compositorlaw10.LiangBack", spec := "liangBack", unfollowed := true, recurses := true, named := ["unicode/utf8.first", "unicode/utf8.acceptRanges"], apart := false, laid := [("unicode/utf8.acceptRanges", laid_unicode_utf8_acceptRanges), ("unicode/utf8.first", laid_unicode_utf8_first)], narrowed := true }
def LiangBackUptoSaid : Prop := liangBackUptoRow.holds Tryd.pinned (OpenSpec.upto liangBackSpec)

/-- 'compositorlaw10.LiangParts', WHERE WHAT IT READS IS OF BULK AT MOST 1048576: true; the input reads as it did. -/
def liangPartsUptoRow : OpenClaim := { program := "ytijhabhnhglhgaadoor", sum := "2f25d6f168ee5d5d96af8a01377f0a84d7776a4a236c9b00a31bb2f439980b07", func := "compositor/compositorlaw10.LiangParts", spec := "liangParts", unfollowed := true, recurses := true, named := ["unicode/utf8.first", "unicode/utf8.acceptRanges"], apart := false, laid := [("unicode/utf8.acceptRanges", laid_unicode_utf8_acceptRanges), ("unicode/utf8.first", laid_unicode_utf8_first)], narrowed := true }
def LiangPartsUptoSaid : Prop := liangPartsUptoRow.holds Tryd.pinned (OpenSpec.upto liangPartsSpec)

/-- 'compositorlaw10.LiangGaps', WHERE WHAT IT READS IS OF BULK AT MOST 1048576: true; the input reads as it did. -/
def liangGapsUptoRow : OpenClaim := { program := "ytijhabhnhglhgaadoor", sum := "2f25d6f168ee5d5d96af8a01377f0a84d7776a4a236c9b00a31bb2f439980b07", func := "compositor/compositorlaw10.LiangGaps", spec := "liangGaps", unfollowed := true, recurses := true, named := ["unicode/utf8.first", "unicode/utf8.acceptRanges"], apart := false, laid := [("unicode/utf8.acceptRanges", laid_unicode_utf8_acceptRanges), ("unicode/utf8.first", laid_unicode_utf8_first)], narrowed := true }
def LiangGapsUptoSaid : Prop := liangGapsUptoRow.holds Tryd.pinned (OpenSpec.upto liangGapsSpec)

/-- 'compositorlaw10.LiangCuts', WHERE WHAT IT READS IS OF BULK AT MOST 1048576: true; the input reads as it did. -/
def liangCutsUptoRow : OpenClaim := { program := "ytijhabhnhglhgaadoor", sum := "2f25d6f168ee5d5d96af8a01377f0a84d7776a4a236c9b00a31bb2f439980b07", func := "compositor/compositorlaw10.LiangCuts", spec := "liangCuts", unfollowed := true, recurses := true, named := ["unicode/utf8.first", "unicode/utf8.acceptRanges"], apart := false, laid := [("unicode/utf8.acceptRanges", laid_unicode_utf8_acceptRanges), ("unicode/utf8.first", laid_unicode_utf8_first)], narrowed := true }
def LiangCutsUptoSaid : Prop := liangCutsUptoRow.holds Tryd.pinned (OpenSpec.upto liangCutsSpec)

end Rows
end Go.Proofs.YtijhabhnhglhgaaDoor
