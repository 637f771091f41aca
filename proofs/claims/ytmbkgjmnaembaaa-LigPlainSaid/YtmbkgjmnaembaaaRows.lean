/-
  No cell of these rows narrows 'for every input' (looked for: loops, veiled, ifaces, maps, wideKeys, modest, calm, conditions, laid).
  DERIVED. THE GIVEN ROWS OF THIS SEAT. 5 by the template 'for every input the law returns true; each argument reads behind the call as it read before'; 0 by the template 'total and deterministic' (their statements: YtmbkgjmnaembaaaTotals.lean).
  GIVEN WITH THE SEED: the statements are not yours to turn. If you find one false, say at which input.
  Laid BY PROGRAM, IN A SANDBOX (cutbox-rows.mjs): the forced cells as the released guide's own fill.sh prints them over the translation 9baefb61fe7edb67… (all of the seat's roots in one cut). By AI agents, Wed Nov 11 2026. No macro, syntax, notation, axiom, sorry.
-/
import Derived.Test.YtmbkgjmnaembaaaChecked
import GoSem.Claim
import GoSem.ClaimJoined
import GoSem.ClaimMapViews
import Derived.JoinedTies
import Derived.KernelRfl
namespace Go.Proofs.Ytmbkgjmnaembaaa
/- THE CELL 'sum', in the pinned program and in every row, IS THE sha256 OF THE DUMP (.gsa) THAT YtmbkgjmnaembaaaProg.lean LOADS. Nothing in Lean hashes anything: it is a label: what it is worth is what the hold of that sum in a sandbox is worth. -/
noncomputable def Try.pinned : Pinned := { name := "ytmbkgjmnaembaaa", sum := "9baefb61fe7edb67036072fd7751dcb627d847bf606a98ef797f4736a8a2a704", checked := Try.checked }
namespace Rows
def none {H : Type} : Left H := { results := [], args := [] }

/-- 'compositorlaw08.LigTells': WHATEVER THE INPUT: true; the input reads as it did. -/
def ligTellsSpec : ChangeSpec := { name := "ligTells", fn := fun _ => fun
  | [d1, d2, d3] => { results := [.lit (.bool true)], args := [d1, d2, d3] }
  | _ => none }
def ligTellsRow : OpenClaim := { program := "ytmbkgjmnaembaaa", sum := "9baefb61fe7edb67036072fd7751dcb627d847bf606a98ef797f4736a8a2a704", func := "compositor/compositorlaw08.LigTells", spec := "ligTells", unfollowed := true, recurses := true, apart := false }
def LigTellsSaid : Prop := ligTellsRow.holds Try.pinned (OpenSpec.ofChange ligTellsSpec)

/-- ITS FALSE NEIGHBOUR: 'it returns false'. Refute it at one input. -/
def ligTellsWrong : ChangeSpec := { name := "ligTells", fn := fun _ => fun
  | [d1, d2, d3] => { results := [.lit (.bool false)], args := [d1, d2, d3] }
  | _ => none }
def LigTellsWrongFalsely : Prop := ligTellsRow.holds Try.pinned (OpenSpec.ofChange ligTellsWrong)

/-- 'compositorlaw08.LigBack': WHATEVER THE INPUT: true; the input reads as it did. -/
def ligBackSpec : ChangeSpec := { name := "ligBack", fn := fun _ => fun
  | [d1, d2] => { results := [.lit (.bool true)], args := [d1, d2] }
  | _ => none }
def ligBackRow : OpenClaim := { program := "ytmbkgjmnaembaaa", sum := "9baefb61fe7edb67036072fd7751dcb627d847bf606a98ef797f4736a8a2a704", func := "compositor/compositorlaw08.LigBack", spec := "ligBack", unfollowed := true, recurses := true, apart := false }
def LigBackSaid : Prop := ligBackRow.holds Try.pinned (OpenSpec.ofChange ligBackSpec)

/-- ITS FALSE NEIGHBOUR: 'it returns false'. Refute it at one input. -/
def ligBackWrong : ChangeSpec := { name := "ligBack", fn := fun _ => fun
  | [d1, d2] => { results := [.lit (.bool false)], args := [d1, d2] }
  | _ => none }
def LigBackWrongFalsely : Prop := ligBackRow.holds Try.pinned (OpenSpec.ofChange ligBackWrong)

/-- 'compositorlaw08.LigParts': WHATEVER THE INPUT: true; the input reads as it did. -/
def ligPartsSpec : ChangeSpec := { name := "ligParts", fn := fun _ => fun
  | [d1, d2, d3] => { results := [.lit (.bool true)], args := [d1, d2, d3] }
  | _ => none }
def ligPartsRow : OpenClaim := { program := "ytmbkgjmnaembaaa", sum := "9baefb61fe7edb67036072fd7751dcb627d847bf606a98ef797f4736a8a2a704", func := "compositor/compositorlaw08.LigParts", spec := "ligParts", unfollowed := true, recurses := true, apart := false }
def LigPartsSaid : Prop := ligPartsRow.holds Try.pinned (OpenSpec.ofChange ligPartsSpec)

/-- ITS FALSE NEIGHBOUR: 'it returns false'. Refute it at one input. -/
def ligPartsWrong : ChangeSpec := { name := "ligParts", fn := fun _ => fun
  | [d1, d2, d3] => { results := [.lit (.bool false)], args := [d1, d2, d3] }
  | _ => none }
def LigPartsWrongFalsely : Prop := ligPartsRow.holds Try.pinned (OpenSpec.ofChange ligPartsWrong)

/-- 'compositorlaw08.LigPlain': WHATEVER THE INPUT: true; the input reads as it did. -/
def ligPlainSpec : ChangeSpec := { name := "ligPlain", fn := fun _ => fun
  | [d1, d2] => { results := [.lit (.bool true)], args := [d1, d2] }
  | _ => none }
def ligPlainRow : OpenClaim := { program := "ytmbkgjmnaembaaa", sum := "9baefb61fe7edb67036072fd7751dcb627d847bf606a98ef797f4736a8a2a704", func := "compositor/compositorlaw08.LigPlain", spec := "ligPlain", unfollowed := true, recurses := true, apart := false }
def LigPlainSaid : Prop := ligPlainRow.holds Try.pinned (OpenSpec.ofChange ligPlainSpec)

/-- ITS FALSE NEIGHBOUR: 'it returns false'. Refute it at one input. -/
def ligPlainWrong : ChangeSpec := { name := "ligPlain", fn := fun _ => fun
  | [d1, d2] => { results := [.lit (.bool false)], args := [d1, d2] }
  | _ => none }
def LigPlainWrongFalsely : Prop := ligPlainRow.holds Try.pinned (OpenSpec.ofChange ligPlainWrong)

/-- 'compositorlaw08.LigOne': WHATEVER THE INPUT: true; the input reads as it did. -/
def ligOneSpec : ChangeSpec := { name := "ligOne", fn := fun _ => fun
  | [d1, d2] => { results := [.lit (.bool true)], args := [d1, d2] }
  | _ => none }
def ligOneRow : OpenClaim := { program := "ytmbkgjmnaembaaa", sum := "9baefb61fe7edb67036072fd7751dcb627d847bf606a98ef797f4736a8a2a704", func := "compositor/compositorlaw08.LigOne", spec := "ligOne", unfollowed := true, recurses := true, apart := false }
def LigOneSaid : Prop := ligOneRow.holds Try.pinned (OpenSpec.ofChange ligOneSpec)

/-- ITS FALSE NEIGHBOUR: 'it returns false'. Refute it at one input. -/
def ligOneWrong : ChangeSpec := { name := "ligOne", fn := fun _ => fun
  | [d1, d2] => { results := [.lit (.bool false)], args := [d1, d2] }
  | _ => none }
def LigOneWrongFalsely : Prop := ligOneRow.holds Try.pinned (OpenSpec.ofChange ligOneWrong)

/- THE SECOND FORM. 'bulk': how many values and letters a reading holds, each counted each time it is reached (what is shared counts as often as it is met; a slice's spare places count too). A statement '..UptoSaid' is the law's where the arguments, and the package variables that the reading takes, are together of bulk at most 1048576: NARROWER than '..Said'. Prove '..Said' where nothing that the law and all that it calls make is longer than what came in: it says more and counts as full. Else prove '..UptoSaid'. A law counts once. -/
mutual
def uptoBulk {H : Type} : DataW H → Nat
  | .lit (.string bytes) => bytes.length + 1
  | .lit _ => 1
  | .nil => 1
  | .ptr d => uptoBulk d + 1
  | .slice elems spare => uptoBulkAll elems + uptoBulkAll spare + 1
  | .agg parts => uptoBulkAll parts + 1
  | .iface _ d => uptoBulk d + 1
  | .map entries => uptoBulkEntries entries + 1
  | .held _ => 1
def uptoBulkAll {H : Type} : List (DataW H) → Nat
  | [] => 0
  | d :: r => uptoBulk d + uptoBulkAll r
def uptoBulkEntries {H : Type} : List (Lit × DataW H) → Nat
  | [] => 0
  | x :: r => uptoBulkEntry x + uptoBulkEntries r
def uptoBulkEntry {H : Type} : Lit × DataW H → Nat
  | (.string bytes, d) => bytes.length + uptoBulk d + 1
  | (_, d) => uptoBulk d + 1
 end
def uptoSmall : (H : Type) → List (DataW H) → Bool := fun _ ds => decide (uptoBulkAll ds ≤ 1048576)
def OpenSpec.upto (s : _root_.Go.ChangeSpec) : _root_.Go.OpenSpec := { _root_.Go.OpenSpec.ofChange s with cond := some uptoSmall }

/-- 'compositorlaw08.LigTells', WHERE WHAT IT READS IS OF BULK AT MOST 1048576: true; the input reads as it did. -/
def ligTellsUptoRow : OpenClaim := { program := "ytmbkgjmnaembaaa", sum := "9baefb61fe7edb67036072fd7751dcb627d847bf606a98ef797f4736a8a2a704", func := "compositor/compositorlaw08.LigTells", spec := "ligTells", unfollowed := true, recurses := true, apart := false, narrowed := true }
def LigTellsUptoSaid : Prop := ligTellsUptoRow.holds Try.pinned (OpenSpec.upto ligTellsSpec)

/-- 'compositorlaw08.LigBack', WHERE WHAT IT READS IS OF BULK AT MOST 1048576: true; the input reads as it did. -/
def ligBackUptoRow : OpenClaim := { program := "ytmbkgjmnaembaaa", sum := "9baefb61fe7edb67036072fd7751dcb627d847bf606a98ef797f4736a8a2a704", func := "compositor/compositorlaw08.LigBack", spec := "ligBack", unfollowed := true, recurses := true, apart := false, narrowed := true }
def LigBackUptoSaid : Prop := ligBackUptoRow.holds Try.pinned (OpenSpec.upto ligBackSpec)

/-- 'compositorlaw08.LigParts', WHERE WHAT IT READS IS OF BULK AT MOST 1048576: true; the input reads as it did. -/
def ligPartsUptoRow : OpenClaim := { program := "ytmbkgjmnaembaaa", sum := "9baefb61fe7edb67036072fd7751dcb627d847bf606a98ef797f4736a8a2a704", func := "compositor/compositorlaw08.LigParts", spec := "ligParts", unfollowed := true, recurses := true, apart := false, narrowed := true }
def LigPartsUptoSaid : Prop := ligPartsUptoRow.holds Try.pinned (OpenSpec.upto ligPartsSpec)

/-- 'compositorlaw08.LigPlain', WHERE WHAT IT READS IS OF BULK AT MOST 1048576: true; the input reads as it did. -/
def ligPlainUptoRow : OpenClaim := { program := "ytmbkgjmnaembaaa", sum := "9baefb61fe7edb67036072fd7751dcb627d847bf606a98ef797f4736a8a2a704", func := "compositor/compositorlaw08.LigPlain", spec := "ligPlain", unfollowed := true, recurses := true, apart := false, narrowed := true }
def LigPlainUptoSaid : Prop := ligPlainUptoRow.holds Try.pinned (OpenSpec.upto ligPlainSpec)

/-- 'compositorlaw08.LigOne', WHERE WHAT IT READS IS OF BULK AT MOST 1048576: true; the input reads as it did. -/
def ligOneUptoRow : OpenClaim := { program := "ytmbkgjmnaembaaa", sum := "9baefb61fe7edb67036072fd7751dcb627d847bf606a98ef797f4736a8a2a704", func := "compositor/compositorlaw08.LigOne", spec := "ligOne", unfollowed := true, recurses := true, apart := false, narrowed := true }
def LigOneUptoSaid : Prop := ligOneUptoRow.holds Try.pinned (OpenSpec.upto ligOneSpec)

end Rows
end Go.Proofs.Ytmbkgjmnaembaaa
