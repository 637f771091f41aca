/- A break as an argument; the document's Before, Penalty; being ahead is an order. Written by gen16/ref.py. -/
import Derived.Test.YtdiccmlpppkgpaaGreatDoorPara16
import Derived.Test.YtdiccmlpppkgpaaGreatDoorBef16
import Derived.Test.YtdiccmlpppkgpaaGreatDoorGA16
import Derived.Test.YtdiccmlpppkgpaaGreatDoorGG16
import Derived.Deep.CutBlock
import Derived.Deep.DeepCutAuto
namespace Go.Proofs.YtdiccmlpppkgpaaGreatDoor
open Go.ChangeShapes Go.WideShapes Go.ChangeAt Go.RowKit Go.Deep
open Go.Lib hiding intOf
namespace L16
open L14 (LayD LayOk layC Wide)

/-- They are of one place. -/
def plB (a b : Brk) : Bool := (decide (a.1 = 0) && decide (b.1 = 0)) || (decide (a.1 ≠ 0) && (decide (b.1 ≠ 0) && (decide (a.2.1 = b.2.1) && decide (a.2.2 = b.2.2))))
theorem pl_iff {a b : Brk} : plB a b = true ↔ (a.1 = 0 ∧ b.1 = 0) ∨ (a.1 ≠ 0 ∧ b.1 ≠ 0 ∧ a.2.1 = b.2.1 ∧ a.2.2 = b.2.2) := by
  unfold plB
  simp only [Bool.or_eq_true, Bool.and_eq_true, decide_eq_true_eq]
theorem bef_one (a b : Brk) : (befB a b != befB b a) = !plB a b := by
  have h1 := @bef_iff a b
  have h2 := @bef_iff b a
  have h3 := @pl_iff a b
  cases e1 : befB a b <;> cases e2 : befB b a <;> cases e3 : plB a b <;> first | rfl | (exfalso; rw [e1] at h1; rw [e2] at h2; rw [e3] at h3; simp only [Bool.false_eq_true, false_iff, true_iff] at h1 h2 h3; omega)
theorem bef_trans {a b c : Brk} (h1 : befB a b = true) (h2 : befB b c = true) : befB a c = true := by
  rw [bef_iff] at h1 h2 ⊢
  omega
theorem ret_z {a b : Int} (h : b = a) : Ending.returned (.int .i64 a) = .returned (.int .i64 b) := by rw [h]
set_option maxRecDepth 100000 in
set_option maxHeartbeats 2000000 in
theorem rpen_any (L : LayD) (SA : Option Addr) (sc : Nat) (b : Brk) (w : World) : Calls Tryz.prog 18 #[.agg (layC L SA sc).toArray, brkV b] w (Ret w (.int .i64 (penV L b))) := by
  obtain ⟨b1, b2, b3⟩ := b
  obtain ⟨W1, hW1⟩ : ∃ W1, W1 = (w.alloc (.cells (layC L SA sc).toArray 28)).alloc (.cells #[.int .i64 b1, .int .i64 b2, .int .i64 b3] 44) := ⟨_, rfl⟩
  have X := Lib.hid (show Ext w W1 by rw [hW1]; exact ((Ext.refl _).alloc _).alloc _)
  have KL := Lib.hid (show Blk W1 w.heap.size 28 (layC L SA sc) by rw [hW1]; exact (Blk.lit _ _ _ _ rfl).ext ((Ext.refl _).alloc _))
  have KB := Lib.hid (show Blk W1 (w.heap.size + 1) 44 [.int .i64 b1, .int .i64 b2, .int .i64 b3] by rw [hW1]; exact Blk.lit _ _ _ _ (by simp))
  have EV := Lib.hid (show penV L (b1, b2, b3) = if b1 = 2 ∨ b1 = 3 then L.v 13 else if b1 = 4 then L.v 14 else 0 from rfl)
  generalize penV L (b1, b2, b3) = r at *
  have HW1 := Lib.hid hW1
  obtain ⟨b0, hb0⟩ : ∃ b0, w.heap.size = b0 := ⟨_, rfl⟩
  obtain ⟨b9, hb9⟩ : ∃ b9, b0 + 1 = b9 := ⟨_, rfl⟩
  rw [hb0] at KL KB
  rw [hb9] at KB
  have H0 := Lib.hid hb0
  have H1 := Lib.hid hb9
  clear hW1 hb0 hb9
  unfold brkV
  dsimp only
  go_enter Tryz.func18, Tryz.ntmps18
  go_upto_region 1 with (fail)
  rw [← HW1.out, H0.out, H1.out]
  clear HW1 H0 H1
  have p13 : W1.cell? ⟨b0, 13, none⟩ = some (.int .i64 (L.v 13)) := KL.out.cell 13
  have p14 : W1.cell? ⟨b0, 14, none⟩ = some (.int .i64 (L.v 14)) := KL.out.cell 14
  have q0 : W1.cell? ⟨b9, 0, none⟩ = some (.int .i64 b1) := KB.out.cell 0
  clear KL KB
  by_cases h2 : b1 = 2
  · subst h2
    have EW := Lib.hid (show r = L.v 13 by rw [EV.out]; simp)
    clear EV
    go_wp2_with fail
    go_ret
    exact ⟨ret_z EW.out, X.out⟩
  · have k2 : (b1 == 2) = false := by simpa using h2
    by_cases h3 : b1 = 3
    · subst h3
      have EW := Lib.hid (show r = L.v 13 by rw [EV.out]; simp)
      clear EV
      go_wp2_with fail
      go_ret
      exact ⟨ret_z EW.out, X.out⟩
    · have k3 : (b1 == 3) = false := by simpa using h3
      by_cases h4 : b1 = 4
      · subst h4
        have EW := Lib.hid (show r = L.v 14 by rw [EV.out]; simp)
        clear EV
        go_wp2_with fail
        go_ret
        exact ⟨ret_z EW.out, X.out⟩
      · have k4 : (b1 == 4) = false := by simpa using h4
        have EW := Lib.hid (show r = 0 by rw [EV.out]; simp [h2, h3, h4])
        clear EV
        go_wp2_with fail
        go_ret
        exact ⟨ret_z EW.out, X.out⟩
end L16
end Go.Proofs.YtdiccmlpppkgpaaGreatDoor

