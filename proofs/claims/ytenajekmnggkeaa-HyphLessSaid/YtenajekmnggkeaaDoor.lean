/- A seat without tables: no door is wanted. -/
import Derived.Test.YtenajekmnggkeaaFrame
import Derived.Test.YtenajekmnggkeaaShelf
import Derived.Deep.LoopGhost
namespace Go.Proofs.Ytenajekmnggkeaa
end Go.Proofs.Ytenajekmnggkeaa

