/- The plain functions of a layout: its lines, its numbers, whether it may be, its text. -/
import Derived.Test.YtaieafmgeheomaaDoorLay14
import Derived.Test.YtaieafmgeheomaaDoorHome14
namespace Go.Proofs.YtaieafmgeheomaaDoor
open Go.RowKit
namespace L14

/-- The first place of a kind's numbers; how many they are. -/
def baseK : Nat → Nat
  | 0 => 0 | 1 => 1 | 2 => 0 | 3 => 5 | 4 => 7 | 5 => 9 | 6 => 11 | 7 => 12 | 8 => 15 | _ => 20
def cntK : Nat → Nat
  | 0 => 1 | 1 => 3 | 2 => 2 | 3 => 2 | 4 => 2 | 5 => 2 | 6 => 1 | 7 => 3 | 8 => 5 | _ => 1
/-- From which number, to which, at a width of W. -/
def loK (W : Int) (j i : Nat) : Int := match j with
  | 0 => 1
  | 2 => if i = 0 then 0 else 1
  | 3 => if i = 0 then wrap64 (1 - W) else -100
  | 5 => if i = 0 then -1 else 0
  | 7 => if i = 0 then 0 else -1000
  | 9 => -5
  | _ => 0
def hiK (W : Int) (j i : Nat) : Int := match j with
  | 0 => 67108864
  | 1 => 4194304
  | 2 => 67108864
  | 3 => if i = 0 then wrap64 (W - 1) else 100
  | 4 => 40
  | 5 => 10000
  | 6 => 67108864
  | 7 => 1000
  | 8 => 10000
  | _ => 5
/-- A line's number. -/
def valD (D : LayD) (j t i : Nat) : Int := if j = 2 then (if i = 0 then (D.sh t).1 else (D.sh t).2) else D.v (baseK j + i)
/-- The lines: of which kind each is, and the how manieth of its kind. -/
def seqN (n : Nat) : List (Nat × Nat) := [(0, 0), (1, 0)] ++ (List.range n).map (fun t => (2, t)) ++ [(3, 0), (4, 0), (5, 0), (6, 0), (7, 0), (8, 0), (9, 0)]
def okN (D : LayD) (j t i : Nat) : Bool := decide (loK (D.v 0) j i ≤ valD D j t i) && decide (valD D j t i ≤ hiK (D.v 0) j i)
def okL (D : LayD) (x : Nat × Nat) : Bool := (List.range (cntK x.1)).all fun i => okN D x.1 x.2 i
/-- It may be. -/
def mayL (D : LayD) : Bool := decide (D.n ≤ 40) && (seqN D.n).all (okL D)
/-- A line's bytes; the text. -/
def lineL (D : LayD) (x : Nat × Nat) : List UInt8 := nameL x.1 ++ (List.range (cntK x.1)).flatMap (fun i => 32 :: Lib.itoa (valD D x.1 x.2 i)) ++ [10]
def textL (D : LayD) : List UInt8 := (seqN D.n).flatMap (lineL D)

/-- Where a line's number is: of a layout in block B, its list of lines at S. -/
def adrK (B : Nat) (S : Addr) (j t i : Nat) : Addr := if j = 2 then (if i = 0 then S.add (t * 2) else ⟨(S.add (t * 2)).block, (S.add (t * 2)).off + i, none⟩) else ⟨B, baseK j + i, none⟩
/-- A line's numbers, as cells. -/
def numC (B : Nat) (S : Addr) (W : Int) (j t : Nat) : List Value := (List.range (cntK j)).flatMap fun i => [.pointer (some (adrK B S j t i)), .int .i64 (loK W j i), .int .i64 (hiK W j i)]
theorem cntK_small (j : Nat) : 1 ≤ cntK j ∧ cntK j ≤ 5 := by
  unfold cntK
  split <;> omega
theorem numC_at {B : Nat} {S : Addr} {W : Int} {j t i : Nat} (hi : i < cntK j) : (numC B S W j t)[i * 3]? = some (.pointer (some (adrK B S j t i))) ∧ (numC B S W j t)[i * 3 + 1]? = some (.int .i64 (loK W j i)) ∧ (numC B S W j t)[i * 3 + 2]? = some (.int .i64 (hiK W j i)) := by
  have h5 := (cntK_small j).2
  unfold numC
  generalize cntK j = n at *
  have hn : n = 1 ∨ n = 2 ∨ n = 3 ∨ n = 4 ∨ n = 5 := by omega
  have hi' : i = 0 ∨ i = 1 ∨ i = 2 ∨ i = 3 ∨ i = 4 := by omega
  rcases hn with rfl | rfl | rfl | rfl | rfl <;> rcases hi' with rfl | rfl | rfl | rfl | rfl <;> first | exact ⟨rfl, rfl, rfl⟩ | omega
/-- The landed function of a kind's numbers. -/
def fK : Nat → Nat
  | 0 => 23 | 1 => 24 | 3 => 27 | 4 => 28 | 5 => 29 | 6 => 30 | 7 => 31 | 8 => 32 | _ => 33
end L14
end Go.Proofs.YtaieafmgeheomaaDoor

