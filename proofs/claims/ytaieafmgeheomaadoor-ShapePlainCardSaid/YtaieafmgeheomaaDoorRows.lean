/-
  NARROWER THAN 'FOR EVERY INPUT', by the rows' own cells (each row's printed sentence says how): ShapeTells: laid · ShapeFits: laid · ShapePlain: laid.
  DERIVED. THE GIVEN ROWS OF THIS SEAT. 3 by the template 'for every input the law returns true; each argument reads behind the call as it read before'; 0 by the template 'total and deterministic' (their statements: YtaieafmgeheomaaDoorTotals.lean).
  GIVEN WITH THE SEED: the statements are not yours to turn. If you find one false, say at which input.
  Laid BY PROGRAM, IN A SANDBOX (cutbox-rows.mjs): the forced cells as the released guide's own fill.sh prints them over the translation 6ec272c66b55c4b0… (all of the seat's roots in one cut). By AI agents, Wed Nov 11 2026. No macro, syntax, notation, axiom, sorry.
-/
import Derived.Test.YtaieafmgeheomaaDoorChecked
import GoSem.Claim
import GoSem.ClaimJoined
import GoSem.ClaimMapViews
import Derived.JoinedTies
import Derived.KernelRfl
namespace Go.Proofs.YtaieafmgeheomaaDoor
/- THE CELL 'sum', in the pinned program and in every row, IS THE sha256 OF THE DUMP (.gsa) THAT YtaieafmgeheomaaDoorProg.lean LOADS. Nothing in Lean hashes anything: it is a label: what it is worth is what the hold of that sum in a sandbox is worth. -/
noncomputable def Tryd.pinned : Pinned := { name := "ytaieafmgeheomaadoor", sum := "6ec272c66b55c4b0a4a77cfa5cf82306e036f583a667f658b88ad6b692c0bdcd", checked := Tryd.checked }
namespace Rows
def none {H : Type} : Left H := { results := [], args := [] }

/- WHAT THE LISTED PACKAGE-LEVEL VARIABLES READ AS WHEN THE CALL BEGINS. Each datum BY PROGRAM (the guide's laid-datum.mjs) off the statement by which the dump's own 'gosem.cut.vars' lays the variable. In a bare row this is a premise. The card (YtaieafmgeheomaaDoorCards.lean) ties it to the program's text. -/
def laid_compositor_param_names {H : Type} : DataW H := .agg [.lit (.string [119, 105, 100, 116, 104]), .lit (.string [115, 112, 97, 99, 101]), .lit (.string [115, 104, 97, 112, 101]), .lit (.string [104, 97, 110, 103]), .lit (.string [112, 97, 114, 116, 115]), .lit (.string [98, 97, 100]), .lit (.string [101, 120, 116, 114, 97]), .lit (.string [112, 101, 110, 97, 108, 116, 105, 101, 115]), .lit (.string [100, 101, 109, 101, 114, 105, 116, 115]), .lit (.string [108, 111, 111, 115, 101])]

/-- 'compositorlaw15.ShapeTells': WHATEVER THE INPUT: true; the input reads as it did. -/
def shapeTellsSpec : ChangeSpec := { name := "shapeTells", fn := fun _ => fun
  | [d1, d2] => { results := [.lit (.bool true)], args := [d1, d2] }
  | _ => none }
def shapeTellsRow : OpenClaim := { program := "ytaieafmgeheomaadoor", sum := "6ec272c66b55c4b0a4a77cfa5cf82306e036f583a667f658b88ad6b692c0bdcd", func := "compositor/compositorlaw15.ShapeTells", spec := "shapeTells", unfollowed := true, recurses := true, named := ["compositor/param.names"], apart := false, laid := [("compositor/param.names", laid_compositor_param_names)] }
def ShapeTellsSaid : Prop := shapeTellsRow.holds Tryd.pinned (OpenSpec.ofChange shapeTellsSpec)

/-- ITS FALSE NEIGHBOUR: 'it returns false'. Refute it at one input. -/
def shapeTellsWrong : ChangeSpec := { name := "shapeTells", fn := fun _ => fun
  | [d1, d2] => { results := [.lit (.bool false)], args := [d1, d2] }
  | _ => none }
def ShapeTellsWrongFalsely : Prop := shapeTellsRow.holds Tryd.pinned (OpenSpec.ofChange shapeTellsWrong)

/-- 'compositorlaw15.ShapeFits': WHATEVER THE INPUT: true; the input reads as it did. -/
def shapeFitsSpec : ChangeSpec := { name := "shapeFits", fn := fun _ => fun
  | [d1, d2, d3] => { results := [.lit (.bool true)], args := [d1, d2, d3] }
  | _ => none }
def shapeFitsRow : OpenClaim := { program := "ytaieafmgeheomaadoor", sum := "6ec272c66b55c4b0a4a77cfa5cf82306e036f583a667f658b88ad6b692c0bdcd", func := "compositor/compositorlaw15.ShapeFits", spec := "shapeFits", unfollowed := true, recurses := true, named := ["compositor/param.names"], apart := false, laid := [("compositor/param.names", laid_compositor_param_names)] }
def ShapeFitsSaid : Prop := shapeFitsRow.holds Tryd.pinned (OpenSpec.ofChange shapeFitsSpec)

/-- ITS FALSE NEIGHBOUR: 'it returns false'. Refute it at one input. -/
def shapeFitsWrong : ChangeSpec := { name := "shapeFits", fn := fun _ => fun
  | [d1, d2, d3] => { results := [.lit (.bool false)], args := [d1, d2, d3] }
  | _ => none }
def ShapeFitsWrongFalsely : Prop := shapeFitsRow.holds Tryd.pinned (OpenSpec.ofChange shapeFitsWrong)

/-- 'compositorlaw15.ShapePlain': WHATEVER THE INPUT: true; the input reads as it did. -/
def shapePlainSpec : ChangeSpec := { name := "shapePlain", fn := fun _ => fun
  | [d1, d2] => { results := [.lit (.bool true)], args := [d1, d2] }
  | _ => none }
def shapePlainRow : OpenClaim := { program := "ytaieafmgeheomaadoor", sum := "6ec272c66b55c4b0a4a77cfa5cf82306e036f583a667f658b88ad6b692c0bdcd", func := "compositor/compositorlaw15.ShapePlain", spec := "shapePlain", unfollowed := true, recurses := true, named := ["compositor/param.names"], apart := false, laid := [("compositor/param.names", laid_compositor_param_names)] }
def ShapePlainSaid : Prop := shapePlainRow.holds Tryd.pinned (OpenSpec.ofChange shapePlainSpec)

/-- ITS FALSE NEIGHBOUR: 'it returns false'. Refute it at one input. -/
def shapePlainWrong : ChangeSpec := { name := "shapePlain", fn := fun _ => fun
  | [d1, d2] => { results := [.lit (.bool false)], args := [d1, d2] }
  | _ => none }
def ShapePlainWrongFalsely : Prop := shapePlainRow.holds Tryd.pinned (OpenSpec.ofChange shapePlainWrong)

/- THE SECOND FORM. 'bulk': how many values and letters a reading holds, each counted each time it is reached (what is shared counts as often as it is met; a slice's spare places count too). A statement '..UptoSaid' is the law's where the arguments, and the package variables that the reading takes, are together of bulk at most 1048576: NARROWER than '..Said'. Prove '..Said' where nothing that the law and all that it calls make is longer than what came in: it says more and counts as full. Else prove '..UptoSaid'. A law counts once. -/
mutual
def uptoBulk {H : Type} : DataW H → Nat
  | .lit (.string bytes) => bytes.length + 1
  | .lit _ => 1
  | .nil => 1
  | .ptr d => uptoBulk d + 1
  | .slice elems spare => uptoBulkAll elems + uptoBulkAll spare + 1
  | .agg parts => uptoBulkAll parts + 1
  | .iface _ d => uptoBulk d + 1
  | .map entries => uptoBulkEntries entries + 1
  | .held _ => 1
def uptoBulkAll {H : Type} : List (DataW H) → Nat
  | [] => 0
  | d :: r => uptoBulk d + uptoBulkAll r
def uptoBulkEntries {H : Type} : List (Lit × DataW H) → Nat
  | [] => 0
  | x :: r => uptoBulkEntry x + uptoBulkEntries r
def uptoBulkEntry {H : Type} : Lit × DataW H → Nat
  | (.string bytes, d) => bytes.length + uptoBulk d + 1
  | (_, d) => uptoBulk d + 1
 end
def uptoSmall : (H : Type) → List (DataW H) → Bool := fun _ ds => decide (uptoBulkAll ds ≤ 1048576)
def OpenSpec.upto (s : _root_.Go.ChangeSpec) : _root_.Go.OpenSpec := { _root_.Go.OpenSpec.ofChange s with cond := some uptoSmall }

/-- 'compositorlaw15.ShapeTells', WHERE WHAT IT READS IS OF BULK AT MOST 1048576: true; the input reads as it did. -/
def shapeTellsUptoRow : OpenClaim := { program := "ytaieafmgeheomaadoor", sum := "6ec272c66b55c4b0a4a77cfa5cf82306e036f583a667f658b88ad6b692c0bdcd", func := "compositor/compositorlaw15.ShapeTells", spec := "shapeTells", unfollowed := true, recurses := true, named := ["compositor/param.names"], apart := false, laid := [("compositor/param.names", laid_compositor_param_names)], narrowed := true }
def ShapeTellsUptoSaid : Prop := shapeTellsUptoRow.holds Tryd.pinned (OpenSpec.upto shapeTellsSpec)

/-- 'compositorlaw15.ShapeFits', WHERE WHAT IT READS IS OF BULK AT MOST 1048576: true; the input reads as it did. -/
def shapeFitsUptoRow : OpenClaim := { program := "ytaieafmgeheomaadoor", sum := "6ec272c66b55c4b0a4a77cfa5cf82306e036f583a667f658b88ad6b692c0bdcd", func := "compositor/compositorlaw15.ShapeFits", spec := "shapeFits", unfollowed := true, recurses := true, named := ["compositor/param.names"], apart := false, laid := [("compositor/param.names", laid_compositor_param_names)], narrowed := true }
def ShapeFitsUptoSaid : Prop := shapeFitsUptoRow.holds Tryd.pinned (OpenSpec.upto shapeFitsSpec)

/-- 'compositorlaw15.ShapePlain', WHERE WHAT IT READS IS OF BULK AT MOST 1048576: true; the input reads as it did. -/
def shapePlainUptoRow : OpenClaim := { program := "ytaieafmgeheomaadoor", sum := "6ec272c66b55c4b0a4a77cfa5cf82306e036f583a667f658b88ad6b692c0bdcd", func := "compositor/compositorlaw15.ShapePlain", spec := "shapePlain", unfollowed := true, recurses := true, named := ["compositor/param.names"], apart := false, laid := [("compositor/param.names", laid_compositor_param_names)], narrowed := true }
def ShapePlainUptoSaid : Prop := shapePlainUptoRow.holds Tryd.pinned (OpenSpec.upto shapePlainSpec)

end Rows
end Go.Proofs.YtaieafmgeheomaaDoor
