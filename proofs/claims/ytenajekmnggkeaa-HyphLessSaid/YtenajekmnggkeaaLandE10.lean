/- The landed exceptionWord of layer 10: its walk. -/
import Derived.Test.YtenajekmnggkeaaLandD10
namespace Go.Proofs.Ytenajekmnggkeaa
open Go.RowKit
namespace L10

end L10
end Go.Proofs.Ytenajekmnggkeaa

