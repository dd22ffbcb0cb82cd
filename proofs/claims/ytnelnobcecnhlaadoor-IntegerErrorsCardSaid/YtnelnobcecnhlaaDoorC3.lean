/- The reference's Add. -/
import Derived.Test.YtnelnobcecnhlaaDoorC2
import Derived.Deep.RegionHeld3
namespace Go.Proofs.YtnelnobcecnhlaaDoor
open Go.RowKit
end Go.Proofs.YtnelnobcecnhlaaDoor
