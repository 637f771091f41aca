/- What is left of a line, as a plain function; the numbers of a layout that may be. -/
import Derived.Test.YtaieafmgeheomaaDoorRefB14
namespace Go.Proofs.YtaieafmgeheomaaDoor
open Go.RowKit
namespace L15
open L14

/-- A line hangs. -/
def hangsB (L : LayD) (k : Nat) : Bool := (decide (0 ≤ L.v 6) && decide (L.v 6 < (k : Int))) || (decide (L.v 6 < 0) && decide ((k : Int) ≤ -(L.v 6)))
/-- What is left of it. -/
def leftV (L : LayD) (k : Nat) : Int × Int := if 0 < L.n then L.sh (min k L.n - 1) else if hangsB L k = true then (if 0 ≤ L.v 5 then (L.v 5, L.v 0 - L.v 5) else (0, L.v 0 + L.v 5)) else (0, L.v 0)
/-- The numbers of a layout that may be. -/
structure MayN (L : LayD) : Prop where
  w0 : 1 ≤ L.v 0
  w1 : L.v 0 ≤ 67108864
  h0 : 1 - L.v 0 ≤ L.v 5
  h1 : L.v 5 ≤ L.v 0 - 1
  a0 : -100 ≤ L.v 6
  a1 : L.v 6 ≤ 100
  n : L.n ≤ 40
  s : ∀ t, t < L.n → 0 ≤ (L.sh t).1 ∧ (L.sh t).1 ≤ 67108864 ∧ 1 ≤ (L.sh t).2 ∧ (L.sh t).2 ≤ 67108864
theorem in_true {n a b : Int} (h : inB n a b = true) : a ≤ n ∧ n ≤ b := by
  rw [inB, Bool.and_eq_true, decide_eq_true_eq, decide_eq_true_eq] at h
  exact h
theorem may_nums {L : LayD} (h : mayL L = true) : MayN L := by
  rw [mayL_eq] at h
  simp only [Bool.and_eq_true, oneB, twoB] at h
  obtain ⟨⟨⟨⟨h1, h2⟩, _⟩, _⟩, h5⟩ := h
  have i0 := in_true h1.1.1.1.1
  have i5 := in_true h2.1.1.1.1.1.1
  have i6 := in_true h2.1.1.1.1.1.2
  have hn := of_decide_eq_true h1.2
  rw [IntWalk.wrap64_in _ (by omega), IntWalk.wrap64_in _ (by omega)] at i5
  refine ⟨i0.1, i0.2, i5.1, i5.2, i6.1, i6.2, by omega, fun t ht => ?_⟩
  have := List.all_eq_true.1 h5 t (List.mem_range.2 ht)
  rw [lineB, Bool.and_eq_true] at this
  exact ⟨(in_true this.1).1, (in_true this.1).2, (in_true this.2).1, (in_true this.2).2⟩
/-- From which line on all are alike. -/
def alikeB (L : LayD) (n : Nat) : Bool := (List.range (201 - n)).all fun i => decide (leftV L (n + i) = leftV L 200)
def fromV (L : LayD) : Nat := ((List.range' 1 199).find? (alikeB L)).getD 200
theorem from_first {L : LayD} {n : Nat} (h1 : 1 ≤ n) (h2 : n < 200) (h : alikeB L n = true) (ho : ∀ k, 1 ≤ k → k < n → alikeB L k = false) : fromV L = n := by
  unfold fromV
  rw [List.find?_range'_eq_some.2 ⟨h, by simp; omega, fun j h3 h4 => by simp [ho j h3 h4]⟩]
  rfl
theorem from_last {L : LayD} (ho : ∀ k, 1 ≤ k → k < 200 → alikeB L k = false) : fromV L = 200 := by
  unfold fromV
  rw [List.find?_range'_eq_none.2 (fun i h1 h2 => by simp [ho i h1 (by omega)])]
  rfl
end L15
end Go.Proofs.YtaieafmgeheomaaDoor

