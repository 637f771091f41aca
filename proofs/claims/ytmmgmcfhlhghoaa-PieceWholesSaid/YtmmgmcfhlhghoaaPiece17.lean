/- Layer 17, plain: what stands on a line. -/
import Derived.Test.YtmmgmcfhlhghoaaBrk16
import Derived.Test.YtmmgmcfhlhghoaaWords13
import Derived.Test.YtmmgmcfhlhghoaaRows17
namespace Go.Proofs.Ytmmgmcfhlhghoaa
open Go.RowKit
namespace L17
open L13 (TW tw checkB wordB)
open L16 (Brk befB)

/-- May a break be one of words? n words, so many codes in its own. -/
def placeB (n cl : Nat) (b : Brk) : Bool :=
  if b.1 = 0 then decide (b.2.1 = 0) && decide (b.2.2 = 0)
  else if b.1 = 1 then decide (b.2.1 < (n : Int) - 1) && decide (b.2.2 = (cl : Int))
  else if b.1 = 5 then decide (b.2.1 = (n : Int) - 1) && decide (b.2.2 = (cl : Int))
  else decide (2 ≤ b.1) && (decide (b.1 ≤ 4) && (decide (1 ≤ b.2.2) && decide (b.2.2 < (cl : Int))))
def stB (l : List TW) (b : Brk) : Bool := checkB l && (decide (0 ≤ b.2.1) && (decide (b.2.1 < (l.length : Int)) && placeB l.length (l.getD b.2.1.toNat ([], [])).1.length b))
/-- A code stands behind a break; ahead of one. -/
def behB (a : Brk) (w i : Nat) : Bool := decide (a.1 = 0) || (decide (a.2.1 < (w : Int)) || (decide ((w : Int) = a.2.1) && decide (a.2.2 ≤ (i : Int))))
def aheB (b : Brk) (w i : Nat) : Bool := decide ((w : Int) < b.2.1) || (decide ((w : Int) = b.2.1) && decide ((i : Int) < b.2.2))
/-- A word's codes on the line, of the first k. -/
def cutTo (a b : Brk) (w : Nat) (cs : List Int) (k : Nat) : List Int := (List.range k).flatMap fun i => if (behB a w i && aheB b w i) = true then [cs.getD i 0] else []
theorem cutTo_succ (a b : Brk) (w : Nat) (cs : List Int) (k : Nat) : cutTo a b w cs (k + 1) = cutTo a b w cs k ++ if (behB a w k && aheB b w k) = true then [cs.getD k 0] else [] := by
  unfold cutTo
  rw [List.range_succ, List.flatMap_append]
  simp
theorem cutTo_len (a b : Brk) (w : Nat) (cs : List Int) : ∀ k, (cutTo a b w cs k).length ≤ k
  | 0 => Nat.le_refl _
  | k + 1 => by
    have := cutTo_len a b w cs k
    rw [cutTo_succ, List.length_append]
    split
    · simp only [List.length_singleton]; omega
    · simp only [List.length_nil]; omega
def cutW (a b : Brk) (w : Nat) (cs : List Int) : List Int := cutTo a b w cs cs.length
def rowsTo (a b : Brk) (l : List TW) (k : Nat) : List (List Int) := (List.range k).flatMap fun w => if cutW a b w (l.getD w ([], [])).1 = [] then [] else [cutW a b w (l.getD w ([], [])).1]
theorem rowsTo_succ (a b : Brk) (l : List TW) (k : Nat) : rowsTo a b l (k + 1) = rowsTo a b l k ++ if cutW a b k (l.getD k ([], [])).1 = [] then [] else [cutW a b k (l.getD k ([], [])).1] := by
  unfold rowsTo
  rw [List.range_succ, List.flatMap_append]
  simp
theorem rowsTo_len (a b : Brk) (l : List TW) : ∀ k, (rowsTo a b l k).length ≤ k
  | 0 => Nat.le_refl _
  | k + 1 => by
    have := rowsTo_len a b l k
    rw [rowsTo_succ, List.length_append]
    split
    · simp only [List.length_nil]; omega
    · simp only [List.length_singleton]; omega
def hyB (b : Brk) : Bool := decide (b.1 = 2) || decide (b.1 = 3)
/-- Hyphen behind the last one. -/
def putH (o : List (List Int)) : List (List Int) := o.dropLast ++ [o.getLastD [] ++ [45]]
theorem putH_snoc (o : List (List Int)) (x : List Int) : putH (o ++ [x]) = o ++ [x ++ [45]] := by simp [putH]
def cutL (a b : Brk) (l : List TW) : List (List Int) := if rowsTo a b l l.length ≠ [] ∧ hyB b = true then putH (rowsTo a b l l.length) else rowsTo a b l l.length
/-- The pieces of a line, or the error. -/
def piA (l : List TW) (a b : Brk) : List (List Int) × Int :=
  if checkB l = true then (if stB l a = true ∧ stB l b = true ∧ a.1 ≠ 5 ∧ befB a b = true then (cutL a b l, 0) else ([], 1)) else ([], 130)
end L17
end Go.Proofs.Ytmmgmcfhlhghoaa

