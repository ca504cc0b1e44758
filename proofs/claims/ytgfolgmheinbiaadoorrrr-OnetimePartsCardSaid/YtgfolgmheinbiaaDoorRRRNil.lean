/- The digest of nothing but zeros. -/
import Derived.Test.YtgfolgmheinbiaaDoorRRRSum
namespace Go.Proofs.YtgfolgmheinbiaaDoorRRR
def zD : List Int := [0, 0, 0, 0, 0, 0, 0, 0, 0, 0, 0, 0, 0, 0, 0, 0, 0, 0, 0, 0, 0, 0, 0, 0, 0, 0, 0, 0, 0, 0, 0, 0]
end Go.Proofs.YtgfolgmheinbiaaDoorRRR
