/- What the landed At and From answer. -/
import Derived.Test.YtaieafmgeheomaaDoorFrom15
import Derived.Test.YtaieafmgeheomaaDoorAwake15
namespace Go.Proofs.YtaieafmgeheomaaDoor
open Go.RowKit
namespace L15
open L14

theorem shp : Shp := ⟨at_any, from_any⟩
end L15
end Go.Proofs.YtaieafmgeheomaaDoor

