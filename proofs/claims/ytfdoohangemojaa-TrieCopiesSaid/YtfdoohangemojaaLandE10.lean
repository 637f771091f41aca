/- The landed exceptionWord of layer 10: its walk. -/
import Derived.Test.YtfdoohangemojaaLandD10
namespace Go.Proofs.Ytfdoohangemojaa
open Go.RowKit
namespace L10

end L10
end Go.Proofs.Ytfdoohangemojaa

