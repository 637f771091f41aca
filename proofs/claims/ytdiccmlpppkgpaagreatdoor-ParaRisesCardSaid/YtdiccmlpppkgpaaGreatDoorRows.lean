/-
  NARROWER THAN 'FOR EVERY INPUT', by the rows' own cells (each row's printed sentence says how): ParaTells: laid · ParaOrders: laid · ParaRises: laid · ParaCounts: laid · ParaShapes: laid.
  DERIVED. THE GIVEN ROWS OF THIS SEAT. 5 by the template 'for every input the law returns true; each argument reads behind the call as it read before'; 0 by the template 'total and deterministic' (their statements: YtdiccmlpppkgpaaGreatDoorTotals.lean).
  GIVEN WITH THE SEED: the statements are not yours to turn. If you find one false, say at which input.
  Laid BY PROGRAM, IN A SANDBOX (cutbox-rows.mjs): the forced cells as the released guide's own fill.sh prints them over the translation 5477279e0c4b6993… (all of the seat's roots in one cut). By AI agents, Wed Nov 11 2026. No macro, syntax, notation, axiom, sorry.
-/
import Derived.Test.YtdiccmlpppkgpaaGreatDoorChecked
import GoSem.Claim
import GoSem.ClaimJoined
import GoSem.ClaimMapViews
import Derived.JoinedTies
import Derived.KernelRfl
namespace Go.Proofs.YtdiccmlpppkgpaaGreatDoor
/- THE CELL 'sum', in the pinned program and in every row, IS THE sha256 OF THE DUMP (.gsa) THAT YtdiccmlpppkgpaaGreatDoorProg.lean LOADS. Nothing in Lean hashes anything: it is a label: what it is worth is what the hold of that sum in a sandbox is worth. -/
noncomputable def Tryz.pinned : Pinned := { name := "ytdiccmlpppkgpaagreatdoor", sum := "5477279e0c4b6993cadb55b48a7ec6b5a7d8356b5806277181343c1cc057ec3b", checked := Tryz.checked }
namespace Rows
def none {H : Type} : Left H := { results := [], args := [] }

/- WHAT THE LISTED PACKAGE-LEVEL VARIABLES READ AS WHEN THE CALL BEGINS. Each datum BY PROGRAM (the guide's laid-datum.mjs) off the statement by which the dump's own 'gosem.cut.vars' lays the variable. In a bare row this is a premise. The card (YtdiccmlpppkgpaaGreatDoorCards.lean) ties it to the program's text. -/
def laid_compositor_param_names {H : Type} : DataW H := .agg [.lit (.string [119, 105, 100, 116, 104]), .lit (.string [115, 112, 97, 99, 101]), .lit (.string [115, 104, 97, 112, 101]), .lit (.string [104, 97, 110, 103]), .lit (.string [112, 97, 114, 116, 115]), .lit (.string [98, 97, 100]), .lit (.string [101, 120, 116, 114, 97]), .lit (.string [112, 101, 110, 97, 108, 116, 105, 101, 115]), .lit (.string [100, 101, 109, 101, 114, 105, 116, 115]), .lit (.string [108, 111, 111, 115, 101])]

/-- 'compositorlaw16.ParaTells': WHATEVER THE INPUT: true; the input reads as it did. -/
def paraTellsSpec : ChangeSpec := { name := "paraTells", fn := fun _ => fun
  | [d1, d2, d3, d4, d5] => { results := [.lit (.bool true)], args := [d1, d2, d3, d4, d5] }
  | _ => none }
def paraTellsRow : OpenClaim := { program := "ytdiccmlpppkgpaagreatdoor", sum := "5477279e0c4b6993cadb55b48a7ec6b5a7d8356b5806277181343c1cc057ec3b", func := "compositor/compositorlaw16.ParaTells", spec := "paraTells", inPlace := ["sync/atomic.StoreInt64", "sync/atomic.AddInt64", "sync/atomic.LoadUint32", "(*internal/sync.Mutex).Lock", "internal/race.Disable", "sync/atomic.CompareAndSwapInt32", "internal/race.Enable", "internal/race.Acquire", "(*internal/sync.Mutex).lockSlow", "internal/sync.runtime_canSpin", "internal/sync.runtime_doSpin", "internal/sync.throw", "internal/sync.runtime_nanotime", "internal/sync.runtime_SemacquireMutex", "sync/atomic.AddInt32", "(*internal/sync.Mutex).Unlock", "internal/race.ReleaseMerge", "(*internal/sync.Mutex).unlockSlow", "internal/sync.fatal", "internal/sync.runtime_Semrelease", "sync/atomic.StoreUint32", "internal/reflectlite.ValueOf", "internal/reflectlite.Swapper", "(internal/reflectlite.Value).Len"], unfollowed := true, recurses := true, named := ["compositor/param.names"], plainKeys := false, apart := false, laid := [("compositor/param.names", laid_compositor_param_names)] }
def ParaTellsSaid : Prop := paraTellsRow.holds Tryz.pinned (OpenSpec.ofChange paraTellsSpec)

/-- ITS FALSE NEIGHBOUR: 'it returns false'. Refute it at one input. -/
def paraTellsWrong : ChangeSpec := { name := "paraTells", fn := fun _ => fun
  | [d1, d2, d3, d4, d5] => { results := [.lit (.bool false)], args := [d1, d2, d3, d4, d5] }
  | _ => none }
def ParaTellsWrongFalsely : Prop := paraTellsRow.holds Tryz.pinned (OpenSpec.ofChange paraTellsWrong)

/-- 'compositorlaw16.ParaOrders': WHATEVER THE INPUT: true; the input reads as it did. -/
def paraOrdersSpec : ChangeSpec := { name := "paraOrders", fn := fun _ => fun
  | [d1, d2, d3, d4] => { results := [.lit (.bool true)], args := [d1, d2, d3, d4] }
  | _ => none }
def paraOrdersRow : OpenClaim := { program := "ytdiccmlpppkgpaagreatdoor", sum := "5477279e0c4b6993cadb55b48a7ec6b5a7d8356b5806277181343c1cc057ec3b", func := "compositor/compositorlaw16.ParaOrders", spec := "paraOrders", inPlace := ["sync/atomic.StoreInt64", "sync/atomic.AddInt64", "sync/atomic.LoadUint32", "(*internal/sync.Mutex).Lock", "internal/race.Disable", "sync/atomic.CompareAndSwapInt32", "internal/race.Enable", "internal/race.Acquire", "(*internal/sync.Mutex).lockSlow", "internal/sync.runtime_canSpin", "internal/sync.runtime_doSpin", "internal/sync.throw", "internal/sync.runtime_nanotime", "internal/sync.runtime_SemacquireMutex", "sync/atomic.AddInt32", "(*internal/sync.Mutex).Unlock", "internal/race.ReleaseMerge", "(*internal/sync.Mutex).unlockSlow", "internal/sync.fatal", "internal/sync.runtime_Semrelease", "sync/atomic.StoreUint32", "internal/reflectlite.ValueOf", "internal/reflectlite.Swapper", "(internal/reflectlite.Value).Len"], unfollowed := true, recurses := true, named := ["compositor/param.names"], plainKeys := false, apart := false, laid := [("compositor/param.names", laid_compositor_param_names)] }
def ParaOrdersSaid : Prop := paraOrdersRow.holds Tryz.pinned (OpenSpec.ofChange paraOrdersSpec)

/-- ITS FALSE NEIGHBOUR: 'it returns false'. Refute it at one input. -/
def paraOrdersWrong : ChangeSpec := { name := "paraOrders", fn := fun _ => fun
  | [d1, d2, d3, d4] => { results := [.lit (.bool false)], args := [d1, d2, d3, d4] }
  | _ => none }
def ParaOrdersWrongFalsely : Prop := paraOrdersRow.holds Tryz.pinned (OpenSpec.ofChange paraOrdersWrong)

/-- 'compositorlaw16.ParaRises': WHATEVER THE INPUT: true; the input reads as it did. -/
def paraRisesSpec : ChangeSpec := { name := "paraRises", fn := fun _ => fun
  | [d1, d2, d3] => { results := [.lit (.bool true)], args := [d1, d2, d3] }
  | _ => none }
def paraRisesRow : OpenClaim := { program := "ytdiccmlpppkgpaagreatdoor", sum := "5477279e0c4b6993cadb55b48a7ec6b5a7d8356b5806277181343c1cc057ec3b", func := "compositor/compositorlaw16.ParaRises", spec := "paraRises", inPlace := ["sync/atomic.StoreInt64", "sync/atomic.AddInt64", "sync/atomic.LoadUint32", "(*internal/sync.Mutex).Lock", "internal/race.Disable", "sync/atomic.CompareAndSwapInt32", "internal/race.Enable", "internal/race.Acquire", "(*internal/sync.Mutex).lockSlow", "internal/sync.runtime_canSpin", "internal/sync.runtime_doSpin", "internal/sync.throw", "internal/sync.runtime_nanotime", "internal/sync.runtime_SemacquireMutex", "sync/atomic.AddInt32", "(*internal/sync.Mutex).Unlock", "internal/race.ReleaseMerge", "(*internal/sync.Mutex).unlockSlow", "internal/sync.fatal", "internal/sync.runtime_Semrelease", "sync/atomic.StoreUint32", "internal/reflectlite.ValueOf", "internal/reflectlite.Swapper", "(internal/reflectlite.Value).Len"], unfollowed := true, recurses := true, named := ["compositor/param.names"], plainKeys := false, apart := false, laid := [("compositor/param.names", laid_compositor_param_names)] }
def ParaRisesSaid : Prop := paraRisesRow.holds Tryz.pinned (OpenSpec.ofChange paraRisesSpec)

/-- ITS FALSE NEIGHBOUR: 'it returns false'. Refute it at one input. -/
def paraRisesWrong : ChangeSpec := { name := "paraRises", fn := fun _ => fun
  | [d1, d2, d3] => { results := [.lit (.bool false)], args := [d1, d2, d3] }
  | _ => none }
def ParaRisesWrongFalsely : Prop := paraRisesRow.holds Tryz.pinned (OpenSpec.ofChange paraRisesWrong)

/-- 'compositorlaw16.ParaCounts': WHATEVER THE INPUT: true; the input reads as it did. -/
def paraCountsSpec : ChangeSpec := { name := "paraCounts", fn := fun _ => fun
  | [d1, d2, d3] => { results := [.lit (.bool true)], args := [d1, d2, d3] }
  | _ => none }
def paraCountsRow : OpenClaim := { program := "ytdiccmlpppkgpaagreatdoor", sum := "5477279e0c4b6993cadb55b48a7ec6b5a7d8356b5806277181343c1cc057ec3b", func := "compositor/compositorlaw16.ParaCounts", spec := "paraCounts", inPlace := ["sync/atomic.StoreInt64", "sync/atomic.AddInt64", "sync/atomic.LoadUint32", "(*internal/sync.Mutex).Lock", "internal/race.Disable", "sync/atomic.CompareAndSwapInt32", "internal/race.Enable", "internal/race.Acquire", "(*internal/sync.Mutex).lockSlow", "internal/sync.runtime_canSpin", "internal/sync.runtime_doSpin", "internal/sync.throw", "internal/sync.runtime_nanotime", "internal/sync.runtime_SemacquireMutex", "sync/atomic.AddInt32", "(*internal/sync.Mutex).Unlock", "internal/race.ReleaseMerge", "(*internal/sync.Mutex).unlockSlow", "internal/sync.fatal", "internal/sync.runtime_Semrelease", "sync/atomic.StoreUint32", "internal/reflectlite.ValueOf", "internal/reflectlite.Swapper", "(internal/reflectlite.Value).Len"], unfollowed := true, recurses := true, named := ["compositor/param.names"], plainKeys := false, apart := false, laid := [("compositor/param.names", laid_compositor_param_names)] }
def ParaCountsSaid : Prop := paraCountsRow.holds Tryz.pinned (OpenSpec.ofChange paraCountsSpec)

/-- ITS FALSE NEIGHBOUR: 'it returns false'. Refute it at one input. -/
def paraCountsWrong : ChangeSpec := { name := "paraCounts", fn := fun _ => fun
  | [d1, d2, d3] => { results := [.lit (.bool false)], args := [d1, d2, d3] }
  | _ => none }
def ParaCountsWrongFalsely : Prop := paraCountsRow.holds Tryz.pinned (OpenSpec.ofChange paraCountsWrong)

/-- 'compositorlaw16.ParaShapes': WHATEVER THE INPUT: true; the input reads as it did. -/
def paraShapesSpec : ChangeSpec := { name := "paraShapes", fn := fun _ => fun
  | [d1, d2, d3, d4] => { results := [.lit (.bool true)], args := [d1, d2, d3, d4] }
  | _ => none }
def paraShapesRow : OpenClaim := { program := "ytdiccmlpppkgpaagreatdoor", sum := "5477279e0c4b6993cadb55b48a7ec6b5a7d8356b5806277181343c1cc057ec3b", func := "compositor/compositorlaw16.ParaShapes", spec := "paraShapes", inPlace := ["sync/atomic.StoreInt64", "sync/atomic.AddInt64", "sync/atomic.LoadUint32", "(*internal/sync.Mutex).Lock", "internal/race.Disable", "sync/atomic.CompareAndSwapInt32", "internal/race.Enable", "internal/race.Acquire", "(*internal/sync.Mutex).lockSlow", "internal/sync.runtime_canSpin", "internal/sync.runtime_doSpin", "internal/sync.throw", "internal/sync.runtime_nanotime", "internal/sync.runtime_SemacquireMutex", "sync/atomic.AddInt32", "(*internal/sync.Mutex).Unlock", "internal/race.ReleaseMerge", "(*internal/sync.Mutex).unlockSlow", "internal/sync.fatal", "internal/sync.runtime_Semrelease", "sync/atomic.StoreUint32", "internal/reflectlite.ValueOf", "internal/reflectlite.Swapper", "(internal/reflectlite.Value).Len"], unfollowed := true, recurses := true, named := ["compositor/param.names"], plainKeys := false, apart := false, laid := [("compositor/param.names", laid_compositor_param_names)] }
def ParaShapesSaid : Prop := paraShapesRow.holds Tryz.pinned (OpenSpec.ofChange paraShapesSpec)

/-- ITS FALSE NEIGHBOUR: 'it returns false'. Refute it at one input. -/
def paraShapesWrong : ChangeSpec := { name := "paraShapes", fn := fun _ => fun
  | [d1, d2, d3, d4] => { results := [.lit (.bool false)], args := [d1, d2, d3, d4] }
  | _ => none }
def ParaShapesWrongFalsely : Prop := paraShapesRow.holds Tryz.pinned (OpenSpec.ofChange paraShapesWrong)

/- THE SECOND FORM. 'bulk': how many values and letters a reading holds, each counted each time it is reached (what is shared counts as often as it is met; a slice's spare places count too). A statement '..UptoSaid' is the law's where the arguments, and the package variables that the reading takes, are together of bulk at most 1048576: NARROWER than '..Said'. Prove '..Said' where nothing that the law and all that it calls make is longer than what came in: it says more and counts as full. Else prove '..UptoSaid'. A law counts once. -/
mutual
def uptoBulk {H : Type} : DataW H → Nat
  | .lit (.string bytes) => bytes.length + 1
  | .lit _ => 1
  | .nil => 1
  | .ptr d => uptoBulk d + 1
  | .slice elems spare => uptoBulkAll elems + uptoBulkAll spare + 1
  | .agg parts => uptoBulkAll parts + 1
  | .iface _ d => uptoBulk d + 1
  | .map entries => uptoBulkEntries entries + 1
  | .held _ => 1
def uptoBulkAll {H : Type} : List (DataW H) → Nat
  | [] => 0
  | d :: r => uptoBulk d + uptoBulkAll r
def uptoBulkEntries {H : Type} : List (Lit × DataW H) → Nat
  | [] => 0
  | x :: r => uptoBulkEntry x + uptoBulkEntries r
def uptoBulkEntry {H : Type} : Lit × DataW H → Nat
  | (.string bytes, d) => bytes.length + uptoBulk d + 1
  | (_, d) => uptoBulk d + 1
 end
def uptoSmall : (H : Type) → List (DataW H) → Bool := fun _ ds => decide (uptoBulkAll ds ≤ 1048576)
def OpenSpec.upto (s : _root_.Go.ChangeSpec) : _root_.Go.OpenSpec := { _root_.Go.OpenSpec.ofChange s with cond := some uptoSmall }

/-- 'compositorlaw16.ParaTells', WHERE WHAT IT READS IS OF BULK AT MOST 1048576: true; the input reads as it did. -/
def paraTellsUptoRow : OpenClaim := { program := "ytdiccmlpppkgpaagreatdoor", sum := "5477279e0c4b6993cadb55b48a7ec6b5a7d8356b5806277181343c1cc057ec3b", func := "compositor/compositorlaw16.ParaTells", spec := "paraTells", inPlace := ["sync/atomic.StoreInt64", "sync/atomic.AddInt64", "sync/atomic.LoadUint32", "(*internal/sync.Mutex).Lock", "internal/race.Disable", "sync/atomic.CompareAndSwapInt32", "internal/race.Enable", "internal/race.Acquire", "(*internal/sync.Mutex).lockSlow", "internal/sync.runtime_canSpin", "internal/sync.runtime_doSpin", "internal/sync.throw", "internal/sync.runtime_nanotime", "internal/sync.runtime_SemacquireMutex", "sync/atomic.AddInt32", "(*internal/sync.Mutex).Unlock", "internal/race.ReleaseMerge", "(*internal/sync.Mutex).unlockSlow", "internal/sync.fatal", "internal/sync.runtime_Semrelease", "sync/atomic.StoreUint32", "internal/reflectlite.ValueOf", "internal/reflectlite.Swapper", "(internal/reflectlite.Value).Len"], unfollowed := true, recurses := true, named := ["compositor/param.names"], plainKeys := false, apart := false, laid := [("compositor/param.names", laid_compositor_param_names)], narrowed := true }
def ParaTellsUptoSaid : Prop := paraTellsUptoRow.holds Tryz.pinned (OpenSpec.upto paraTellsSpec)

/-- 'compositorlaw16.ParaOrders', WHERE WHAT IT READS IS OF BULK AT MOST 1048576: true; the input reads as it did. -/
def paraOrdersUptoRow : OpenClaim := { program := "ytdiccmlpppkgpaagreatdoor", sum := "5477279e0c4b6993cadb55b48a7ec6b5a7d8356b5806277181343c1cc057ec3b", func := "compositor/compositorlaw16.ParaOrders", spec := "paraOrders", inPlace := ["sync/atomic.StoreInt64", "sync/atomic.AddInt64", "sync/atomic.LoadUint32", "(*internal/sync.Mutex).Lock", "internal/race.Disable", "sync/atomic.CompareAndSwapInt32", "internal/race.Enable", "internal/race.Acquire", "(*internal/sync.Mutex).lockSlow", "internal/sync.runtime_canSpin", "internal/sync.runtime_doSpin", "internal/sync.throw", "internal/sync.runtime_nanotime", "internal/sync.runtime_SemacquireMutex", "sync/atomic.AddInt32", "(*internal/sync.Mutex).Unlock", "internal/race.ReleaseMerge", "(*internal/sync.Mutex).unlockSlow", "internal/sync.fatal", "internal/sync.runtime_Semrelease", "sync/atomic.StoreUint32", "internal/reflectlite.ValueOf", "internal/reflectlite.Swapper", "(internal/reflectlite.Value).Len"], unfollowed := true, recurses := true, named := ["compositor/param.names"], plainKeys := false, apart := false, laid := [("compositor/param.names", laid_compositor_param_names)], narrowed := true }
def ParaOrdersUptoSaid : Prop := paraOrdersUptoRow.holds Tryz.pinned (OpenSpec.upto paraOrdersSpec)

/-- 'compositorlaw16.ParaRises', WHERE WHAT IT READS IS OF BULK AT MOST 1048576: true; the input reads as it did. -/
def paraRisesUptoRow : OpenClaim := { program := "ytdiccmlpppkgpaagreatdoor", sum := "5477279e0c4b6993cadb55b48a7ec6b5a7d8356b5806277181343c1cc057ec3b", func := "compositor/compositorlaw16.ParaRises", spec := "paraRises", inPlace := ["sync/atomic.StoreInt64", "sync/atomic.AddInt64", "sync/atomic.LoadUint32", "(*internal/sync.Mutex).Lock", "internal/race.Disable", "sync/atomic.CompareAndSwapInt32", "internal/race.Enable", "internal/race.Acquire", "(*internal/sync.Mutex).lockSlow", "internal/sync.runtime_canSpin", "internal/sync.runtime_doSpin", "internal/sync.throw", "internal/sync.runtime_nanotime", "internal/sync.runtime_SemacquireMutex", "sync/atomic.AddInt32", "(*internal/sync.Mutex).Unlock", "internal/race.ReleaseMerge", "(*internal/sync.Mutex).unlockSlow", "internal/sync.fatal", "internal/sync.runtime_Semrelease", "sync/atomic.StoreUint32", "internal/reflectlite.ValueOf", "internal/reflectlite.Swapper", "(internal/reflectlite.Value).Len"], unfollowed := true, recurses := true, named := ["compositor/param.names"], plainKeys := false, apart := false, laid := [("compositor/param.names", laid_compositor_param_names)], narrowed := true }
def ParaRisesUptoSaid : Prop := paraRisesUptoRow.holds Tryz.pinned (OpenSpec.upto paraRisesSpec)

/-- 'compositorlaw16.ParaCounts', WHERE WHAT IT READS IS OF BULK AT MOST 1048576: true; the input reads as it did. -/
def paraCountsUptoRow : OpenClaim := { program := "ytdiccmlpppkgpaagreatdoor", sum := "5477279e0c4b6993cadb55b48a7ec6b5a7d8356b5806277181343c1cc057ec3b", func := "compositor/compositorlaw16.ParaCounts", spec := "paraCounts", inPlace := ["sync/atomic.StoreInt64", "sync/atomic.AddInt64", "sync/atomic.LoadUint32", "(*internal/sync.Mutex).Lock", "internal/race.Disable", "sync/atomic.CompareAndSwapInt32", "internal/race.Enable", "internal/race.Acquire", "(*internal/sync.Mutex).lockSlow", "internal/sync.runtime_canSpin", "internal/sync.runtime_doSpin", "internal/sync.throw", "internal/sync.runtime_nanotime", "internal/sync.runtime_SemacquireMutex", "sync/atomic.AddInt32", "(*internal/sync.Mutex).Unlock", "internal/race.ReleaseMerge", "(*internal/sync.Mutex).unlockSlow", "internal/sync.fatal", "internal/sync.runtime_Semrelease", "sync/atomic.StoreUint32", "internal/reflectlite.ValueOf", "internal/reflectlite.Swapper", "(internal/reflectlite.Value).Len"], unfollowed := true, recurses := true, named := ["compositor/param.names"], plainKeys := false, apart := false, laid := [("compositor/param.names", laid_compositor_param_names)], narrowed := true }
def ParaCountsUptoSaid : Prop := paraCountsUptoRow.holds Tryz.pinned (OpenSpec.upto paraCountsSpec)

/-- 'compositorlaw16.ParaShapes', WHERE WHAT IT READS IS OF BULK AT MOST 1048576: true; the input reads as it did. -/
def paraShapesUptoRow : OpenClaim := { program := "ytdiccmlpppkgpaagreatdoor", sum := "5477279e0c4b6993cadb55b48a7ec6b5a7d8356b5806277181343c1cc057ec3b", func := "compositor/compositorlaw16.ParaShapes", spec := "paraShapes", inPlace := ["sync/atomic.StoreInt64", "sync/atomic.AddInt64", "sync/atomic.LoadUint32", "(*internal/sync.Mutex).Lock", "internal/race.Disable", "sync/atomic.CompareAndSwapInt32", "internal/race.Enable", "internal/race.Acquire", "(*internal/sync.Mutex).lockSlow", "internal/sync.runtime_canSpin", "internal/sync.runtime_doSpin", "internal/sync.throw", "internal/sync.runtime_nanotime", "internal/sync.runtime_SemacquireMutex", "sync/atomic.AddInt32", "(*internal/sync.Mutex).Unlock", "internal/race.ReleaseMerge", "(*internal/sync.Mutex).unlockSlow", "internal/sync.fatal", "internal/sync.runtime_Semrelease", "sync/atomic.StoreUint32", "internal/reflectlite.ValueOf", "internal/reflectlite.Swapper", "(internal/reflectlite.Value).Len"], unfollowed := true, recurses := true, named := ["compositor/param.names"], plainKeys := false, apart := false, laid := [("compositor/param.names", laid_compositor_param_names)], narrowed := true }
def ParaShapesUptoSaid : Prop := paraShapesUptoRow.holds Tryz.pinned (OpenSpec.upto paraShapesSpec)

end Rows
end Go.Proofs.YtdiccmlpppkgpaaGreatDoor
