/- The program's times. -/
import Derived.Test.YtijcijdgpeolhaaDoorD3
import Derived.Test.YtijcijdgpeolhaaDoorMath6
namespace Go.Proofs.YtijcijdgpeolhaaDoor
open Go.RowKit
end Go.Proofs.YtijcijdgpeolhaaDoor
