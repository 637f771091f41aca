/- Layer 16, plain: where a paragraph may be broken. -/
import Derived.Test.YtmmgmcfhlhghoaaGreatDoorBrk16
import Derived.Test.YtmmgmcfhlhghoaaGreatDoorGF16
import Derived.Test.YtmmgmcfhlhghoaaGreatDoorGG16
namespace Go.Proofs.YtmmgmcfhlhghoaaGreatDoor
open Go.RowKit
namespace L16
open L10 (TN)
open L12 (pointsL)
open L13 (TW tw checkB)
open L14 (LayD mayL)

/-- Which kind of break stands behind so many of a word's codes, by its points; 0: none. -/
def kindA (w : TW) (ps : List Int) (i : Nat) : Int := if (i : Int) ∈ w.2 then 3 else if w.1.getD (i - 1) 0 = 45 then 4 else if (i : Int) ∈ ps then 2 else 0
/-- A word's breaks, at 1 to less than n. -/
def ofTo (w : TW) (ps : List Int) (q : Nat) (n : Nat) : List Brk := (List.range n).flatMap fun i => if 0 < i ∧ kindA w ps i ≠ 0 then [(kindA w ps i, (q : Int), (i : Int))] else []
theorem ofTo_succ (w : TW) (ps : List Int) (q n : Nat) : ofTo w ps q (n + 1) = ofTo w ps q n ++ if 0 < n ∧ kindA w ps n ≠ 0 then [(kindA w ps n, (q : Int), (n : Int))] else [] := by
  unfold ofTo
  rw [List.range_succ, List.flatMap_append]
  simp
theorem ofTo_one (w : TW) (ps : List Int) (q : Nat) : ofTo w ps q 1 = [] := rfl
theorem ofTo_length (w : TW) (ps : List Int) (q n : Nat) : (ofTo w ps q n).length ≤ n := by
  induction n with
  | zero => exact Nat.le_refl _
  | succ n ih =>
    rw [ofTo_succ, List.length_append]
    split
    · simp only [List.length_singleton]; omega
    · simp only [List.length_nil]; omega
/-- A word's points, if it may be parted. -/
def pointsW (p but : List TN) (lf rg : Int) (w : TW) (parted : Bool) : List Int := if parted = true ∧ w.2 = [] then pointsL p but w.1 lf rg else []
def ofW (p but : List TN) (lf rg : Int) (w : TW) (parted : Bool) (q : Nat) : List Brk := ofTo w (pointsW p but lf rg w parted) q w.1.length
/-- Which break stands behind a word. -/
def endK (n i : Nat) : Int := if i + 1 = n then 5 else 1
def wordA (p but : List TN) (lf rg : Int) (parted : Bool) (n i : Nat) (w : TW) : List Brk := ofW p but lf rg w parted i ++ [(endK n i, (i : Int), (w.1.length : Int))]
/-- Those up to word k. -/
def allTo (p but : List TN) (lf rg : Int) (parted : Bool) (l : List TW) (k : Nat) : List Brk := (0, 0, 0) :: (List.range k).flatMap fun i => wordA p but lf rg parted l.length i (l.getD i ([], []))
def allL (p but : List TN) (lf rg : Int) (parted : Bool) (l : List TW) : List Brk := allTo p but lf rg parted l l.length
theorem allTo_succ (p but : List TN) (lf rg : Int) (parted : Bool) (l : List TW) (k : Nat) : allTo p but lf rg parted l (k + 1) = (allTo p but lf rg parted l k ++ ofW p but lf rg (l.getD k ([], [])) parted k) ++ [(endK l.length k, (k : Int), ((l.getD k ([], [])).1.length : Int))] := by
  unfold allTo
  rw [List.range_succ, List.flatMap_append]
  simp [wordA]
theorem allTo_zero (p but : List TN) (lf rg : Int) (parted : Bool) (l : List TW) : allTo p but lf rg parted l 0 = [(0, 0, 0)] := rfl
/-- The breaks of a paragraph, or the error. -/
def brksA (p but : List TN) (L : LayD) (l : List TW) (parted : Bool) : List Brk × Int :=
  if checkB l = true then (if mayL L = true then (if (allL p but (L.v 7) (L.v 8) parted l).length ≤ 200 then (allL p but (L.v 7) (L.v 8) parted l, 0) else ([], 160)) else ([], 140)) else ([], 130)
theorem brks_cases (p but : List TN) (L : LayD) (l : List TW) (parted : Bool) :
    (checkB l = false ∧ brksA p but L l parted = ([], 130)) ∨ (checkB l = true ∧ mayL L = false ∧ brksA p but L l parted = ([], 140)) ∨
    (checkB l = true ∧ mayL L = true ∧ 200 < (allL p but (L.v 7) (L.v 8) parted l).length ∧ brksA p but L l parted = ([], 160)) ∨
    (checkB l = true ∧ mayL L = true ∧ (allL p but (L.v 7) (L.v 8) parted l).length ≤ 200 ∧ brksA p but L l parted = (allL p but (L.v 7) (L.v 8) parted l, 0)) := by
  unfold brksA
  cases checkB l with
  | false => exact .inl ⟨rfl, rfl⟩
  | true =>
    cases mayL L with
    | false => exact .inr (.inl ⟨rfl, rfl, rfl⟩)
    | true =>
      by_cases h : (allL p but (L.v 7) (L.v 8) parted l).length ≤ 200
      · exact .inr (.inr (.inr ⟨rfl, rfl, h, by simp [h]⟩))
      · exact .inr (.inr (.inl ⟨rfl, rfl, by omega, by simp [h]⟩))
theorem brks_len (p but : List TN) (L : LayD) (l : List TW) (parted : Bool) : (brksA p but L l parted).1.length ≤ 200 := by
  rcases brks_cases p but L l parted with ⟨_, e⟩ | ⟨_, _, e⟩ | ⟨_, _, _, e⟩ | ⟨_, _, h, e⟩ <;> rw [e]
  · exact Nat.zero_le _
  · exact Nat.zero_le _
  · exact Nat.zero_le _
  · exact h
/-- One's penalty. -/
def penV (L : LayD) (b : Brk) : Int := if b.1 = 2 ∨ b.1 = 3 then L.v 13 else if b.1 = 4 then L.v 14 else 0
end L16
end Go.Proofs.YtmmgmcfhlhghoaaGreatDoor

