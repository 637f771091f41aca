/- A seat without tables: no door is wanted. -/
import Derived.Test.YtfdoohangemojaaFrame
import Derived.Test.YtfdoohangemojaaShelf
import Derived.Deep.LoopGhost
namespace Go.Proofs.Ytfdoohangemojaa
end Go.Proofs.Ytfdoohangemojaa

