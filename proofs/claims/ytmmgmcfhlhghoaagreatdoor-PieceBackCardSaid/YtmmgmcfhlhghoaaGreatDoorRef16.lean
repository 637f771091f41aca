/- A break as an argument; the document's Before, Penalty; being ahead is an order. Written by gen16/ref.py. -/
import Derived.Test.YtmmgmcfhlhghoaaGreatDoorPara16
import Derived.Test.YtmmgmcfhlhghoaaGreatDoorBef16
import Derived.Test.YtmmgmcfhlhghoaaGreatDoorGA16
import Derived.Test.YtmmgmcfhlhghoaaGreatDoorGG16
import Derived.Deep.CutBlock
import Derived.Deep.DeepCutAuto
namespace Go.Proofs.YtmmgmcfhlhghoaaGreatDoor
open Go.ChangeShapes Go.WideShapes Go.ChangeAt Go.RowKit Go.Deep
open Go.Lib hiding intOf
namespace L16
open L14 (LayD LayOk layC Wide)

/-- They are of one place. -/
def plB (a b : Brk) : Bool := (decide (a.1 = 0) && decide (b.1 = 0)) || (decide (a.1 ≠ 0) && (decide (b.1 ≠ 0) && (decide (a.2.1 = b.2.1) && decide (a.2.2 = b.2.2))))
theorem pl_iff {a b : Brk} : plB a b = true ↔ (a.1 = 0 ∧ b.1 = 0) ∨ (a.1 ≠ 0 ∧ b.1 ≠ 0 ∧ a.2.1 = b.2.1 ∧ a.2.2 = b.2.2) := by
  unfold plB
  simp only [Bool.or_eq_true, Bool.and_eq_true, decide_eq_true_eq]
theorem bef_one (a b : Brk) : (befB a b != befB b a) = !plB a b := by
  have h1 := @bef_iff a b
  have h2 := @bef_iff b a
  have h3 := @pl_iff a b
  cases e1 : befB a b <;> cases e2 : befB b a <;> cases e3 : plB a b <;> first | rfl | (exfalso; rw [e1] at h1; rw [e2] at h2; rw [e3] at h3; simp only [Bool.false_eq_true, false_iff, true_iff] at h1 h2 h3; omega)
theorem bef_trans {a b c : Brk} (h1 : befB a b = true) (h2 : befB b c = true) : befB a c = true := by
  rw [bef_iff] at h1 h2 ⊢
  omega
theorem ret_z {a b : Int} (h : b = a) : Ending.returned (.int .i64 a) = .returned (.int .i64 b) := by rw [h]
end L16
end Go.Proofs.YtmmgmcfhlhghoaaGreatDoor

