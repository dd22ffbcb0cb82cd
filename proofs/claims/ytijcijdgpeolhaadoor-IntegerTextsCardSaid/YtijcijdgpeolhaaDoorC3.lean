/- The reference's Add. -/
import Derived.Test.YtijcijdgpeolhaaDoorC2
import Derived.Deep.RegionHeld3
namespace Go.Proofs.YtijcijdgpeolhaaDoor
open Go.RowKit
end Go.Proofs.YtijcijdgpeolhaaDoor
