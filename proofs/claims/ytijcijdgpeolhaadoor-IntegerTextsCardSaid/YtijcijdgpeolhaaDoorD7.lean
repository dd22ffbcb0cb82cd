/- The program's Sub, Mul on valid integers. -/
import Derived.Test.YtijcijdgpeolhaaDoorD6
import Derived.Test.YtijcijdgpeolhaaDoorC4
namespace Go.Proofs.YtijcijdgpeolhaaDoor
open Go.RowKit
end Go.Proofs.YtijcijdgpeolhaaDoor
