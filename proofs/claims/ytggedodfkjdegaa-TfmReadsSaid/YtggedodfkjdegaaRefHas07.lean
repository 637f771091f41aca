/- The document's Few and Has. -/
import Derived.Test.YtggedodfkjdegaaFacts07
namespace Go.Proofs.Ytggedodfkjdegaa
open Go.RowKit
namespace L07

/-- At most three hundred of each. -/
def fewB (D : FontD) : Bool := decide (D.nc ≤ 300 ∧ D.ns ≤ 300 ∧ D.nw ≤ 300 ∧ D.nh ≤ 300 ∧ D.nd ≤ 300 ∧ D.ni ≤ 300 ∧ D.nk ≤ 300 ∧ D.np ≤ 300)

def hasB (D : FontD) (n : Int) : Bool := checkB D && (decide (D.first ≤ n ∧ n < D.first + D.nc) && decide (0 < D.chr (n - D.first).toNat 0))

end L07
end Go.Proofs.Ytggedodfkjdegaa

