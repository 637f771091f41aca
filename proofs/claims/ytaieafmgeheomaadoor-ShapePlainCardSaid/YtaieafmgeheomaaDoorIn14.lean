/- The document's answers of layer 14: a number within bounds. -/
import Derived.Test.YtaieafmgeheomaaDoorPlain14
import Derived.Test.YtaieafmgeheomaaDoorKeep
import Derived.Test.YtaieafmgeheomaaDoorMid09
import Derived.Deep.CutBlock
import Derived.Deep.DeepCutAuto
namespace Go.Proofs.YtaieafmgeheomaaDoor
open Go.RowKit
namespace L14

/-- Within bounds. -/
def inB (n a b : Int) : Bool := decide (a ≤ n) && decide (n ≤ b)
theorem in_any (n a b : Int) (w : World) : Calls Tryd.prog 16 #[.int .i64 n, .int .i64 a, .int .i64 b] w (fun e w' => e = .returned (.bool (inB n a b)) ∧ w = w') := by
  by_cases h : a ≤ n
  · go_enter Tryd.func16, Tryd.ntmps16
    go_wp2_with fail
    go_ret
    exact ⟨ret_bool (by simp [inB]; omega), rfl⟩
  · go_enter Tryd.func16, Tryd.ntmps16
    go_wp2_with fail
    go_ret
    exact ⟨ret_bool (by simp [inB]; omega), rfl⟩
end L14
end Go.Proofs.YtaieafmgeheomaaDoor

